/- The reference's Decimal: the decimal numeral of a number. Condition: a number of 64 bits. -/
import Derived.Test.YtaambeficfiacaaGreatDoorVsD
import Derived.Lib.ItoaNum
namespace Go.Proofs.YtaambeficfiacaaGreatDoor
open Go.RowKit VM

def dgS (r : Nat) : ByteArray := ⟨#[UInt8.ofNat (48 + r)]⟩
theorem dgS_at (r : Nat) (h : r < 10) : ((⟨#[48, 49, 50, 51, 52, 53, 54, 55, 56, 57]⟩ : ByteArray).extract r (r + 1)) = dgS r := by
  have : ∀ r : Fin 10, ((⟨#[48, 49, 50, 51, 52, 53, 54, 55, 56, 57]⟩ : ByteArray).extract r.val (r.val + 1)) = dgS r.val := by decide
  exact this ⟨r, h⟩
theorem bs_add (a b : ByteArray) : bs (a ++ b) = bs a ++ bs b := by simp
/-- the digits ahead of the last ones -/
def ahd (q : Nat) : List UInt8 := if q = 0 then [] else Go.Lib.decDigits q
theorem ahd_step (u : Nat) : Go.Lib.decDigits u = ahd (u / 10) ++ bs (dgS (u % 10)) := by
  rw [Go.Lib.decDigits]
  unfold ahd
  by_cases h : u < 10
  · rw [dif_pos h, if_pos (by omega), Nat.mod_eq_of_lt h]; rfl
  · rw [dif_neg h, if_neg (by omega)]; rfl
def decS (z : Int) : ByteArray := ⟨(Go.Lib.itoa z).toArray⟩
set_option linter.unusedSimpArgs false in
set_option maxRecDepth 100000 in
set_option maxHeartbeats 3200000 in
theorem rdec_any (z : Int) (hz : -9223372036854775808 ≤ z ∧ z ≤ 9223372036854775807) (w : World) :
    Calls Tryz.prog 30 #[.int .i64 z] w fun e w' => e = .returned (.string (decS z)) ∧ w = w' := by
  obtain ⟨u, hu⟩ : ∃ u, u = z.natAbs := ⟨_, rfl⟩
  have hub : u ≤ 9223372036854775808 := by omega
  have hr10 : u % 10 < 10 := by omega
  have hd := dgS_at (u % 10) hr10
  have HS0 : Hid (Go.Lib.decDigits u = ahd (u / 10) ++ bs (dgS (u % 10))) := Lib.hid (ahd_step u)
  obtain ⟨q, hq⟩ : ∃ q, u / 10 = q := ⟨_, rfl⟩
  obtain ⟨r, hr⟩ : ∃ r, u % 10 = r := ⟨_, rfl⟩
  have hq2 : (u : Int) / 10 = (q : Int) := by omega
  have hr2 : (u : Int) % 10 = (r : Int) := by omega
  have hqb : q < 10 ^ 18 := by omega
  have hsz1 : (dgS r).size = 1 := rfl
  rw [hr] at hd hr10 HS0
  rw [hq] at HS0
  by_cases hz0 : z < 0
  · have HR : Hid (decS z = ⟨(45 :: Go.Lib.decDigits u).toArray⟩) := Lib.hid (by unfold decS Go.Lib.itoa; rw [if_pos hz0, hu])
    have hw1 : IntKind.u64.wrap z = z + 18446744073709551616 := by rw [IntKind.wrap_u64]; omega
    have hw2 : IntKind.u64.wrap (-(z + 18446744073709551616)) = (u : Int) := by rw [IntKind.wrap_u64]; omega
    generalize Go.Lib.decDigits u = R at *
    generalize dgS r = dd at *
    clear hq hr hu
    go_enter Tryz.func30, Tryz.ntmps30
    go_wp2_with fail
    go_loop [3, 5] (fun t3 t5 => ∃ (q f : Nat) (acc : ByteArray), q ≤ 1000000000000000000 ∧ f ≤ 20 ∧ t3 = .int .u64 q ∧ t5 = .string acc ∧ acc.size ≤ 21 - f ∧ Hid (q < 10 ^ f ∧ R = ahd q ++ bs acc)) (fun t3 _ => (intOf t3).toNat)
    case atStart => exact ⟨q, 20, dd, by omega, by omega, rfl, rfl, (by omega), Lib.hid ⟨by omega, HS0.out⟩⟩
    case round =>
      clear HS0 hq2 hr2 hd hqb hr10 hsz1
      obtain ⟨q', f, acc, hqb, hf, rfl, rfl, hacc, hH⟩ := hrel
      by_cases h0 : q' = 0
      · have hz : Hid (R = bs acc) := Lib.hid (by
          have h := hH.out.2
          subst h0
          rw [h]; rfl)
        subst h0
        go_wp2_with fail
        go_ret
        exact ⟨by rw [HR.out, hz.out]; rfl, rfl⟩
      · have hf0 : f ≠ 0 := by intro e; have := hH.out.1; rw [e] at this; simp at this; exact h0 this
        obtain ⟨f, rfl⟩ : ∃ g, f = g + 1 := ⟨f - 1, by omega⟩
        have hr10 : q' % 10 < 10 := by omega
        have hd := dgS_at (q' % 10) hr10
        obtain ⟨q2, hq⟩ : ∃ x, q' / 10 = x := ⟨_, rfl⟩
        obtain ⟨r2, hr⟩ : ∃ x, q' % 10 = x := ⟨_, rfl⟩
        have hz : Hid (q2 < 10 ^ f ∧ R = ahd q2 ++ bs (dgS r2 ++ acc)) := Lib.hid (by
          obtain ⟨a, b⟩ := hH.out
          refine ⟨?_, ?_⟩
          · rw [← hq]; rw [Nat.pow_succ] at a; exact Nat.div_lt_of_lt_mul (by rw [Nat.mul_comm]; exact a)
          · rw [b, bs_add, ← List.append_assoc, ← hq, ← hr, ← ahd_step]
            unfold ahd
            rw [if_neg h0])
        have hq2 : (q' : Int) / 10 = (q2 : Int) := by omega
        have hr2 : (q' : Int) % 10 = (r2 : Int) := by omega
        have hpos : (0 : Int) < (q' : Int) := by omega
        have hlt : q2 < q' := by omega
        rw [hr] at hd hr10
        have hsz : (dgS r2 ++ acc).size ≤ 21 - f := by rw [ByteArray.size_append]; have : (dgS r2).size = 1 := rfl; omega
        have HSZ := Lib.hid hsz
        have HLT := Lib.hid hlt
        have h1 : (dgS r2).size = 1 := rfl
        have hq2b : q2 ≤ 1000000000000000000 := by omega
        generalize dgS r2 = dd at *
        clear hsz hlt hq hr h0 hf0 hH
        go_wp2_with fail
        go_round
        case rel => exact ⟨q2, f, _, hq2b, by omega, rfl, rfl, HSZ.out, hz⟩
        case measure => simp [intOf]; exact HLT.out
  · have HR : Hid (decS z = ⟨(Go.Lib.decDigits u).toArray⟩) := Lib.hid (by unfold decS Go.Lib.itoa; rw [if_neg hz0, hu]; congr 3; omega)
    have hw1 : IntKind.u64.wrap z = (u : Int) := by rw [IntKind.wrap_u64]; omega
    have hz1 : 0 ≤ z := by omega
    generalize Go.Lib.decDigits u = R at *
    generalize dgS r = dd at *
    clear hq hr hu hz0
    go_enter Tryz.func30, Tryz.ntmps30
    go_wp2_with fail
    go_loop [3, 5] (fun t3 t5 => ∃ (q f : Nat) (acc : ByteArray), q ≤ 1000000000000000000 ∧ f ≤ 20 ∧ t3 = .int .u64 q ∧ t5 = .string acc ∧ acc.size ≤ 21 - f ∧ Hid (q < 10 ^ f ∧ R = ahd q ++ bs acc)) (fun t3 _ => (intOf t3).toNat)
    case atStart => exact ⟨q, 20, dd, by omega, by omega, rfl, rfl, (by omega), Lib.hid ⟨by omega, HS0.out⟩⟩
    case round =>
      clear HS0 hq2 hr2 hd hqb hr10 hsz1
      obtain ⟨q', f, acc, hqb, hf, rfl, rfl, hacc, hH⟩ := hrel
      by_cases h0 : q' = 0
      · have hz : Hid (R = bs acc) := Lib.hid (by
          have h := hH.out.2
          subst h0
          rw [h]; rfl)
        subst h0
        go_wp2_with fail
        go_ret
        exact ⟨by rw [HR.out, hz.out]; exact congrArg (fun s => Ending.returned (Value.string s)) (ByteArray.ext (by simp)), rfl⟩
      · have hf0 : f ≠ 0 := by intro e; have := hH.out.1; rw [e] at this; simp at this; exact h0 this
        obtain ⟨f, rfl⟩ : ∃ g, f = g + 1 := ⟨f - 1, by omega⟩
        have hr10 : q' % 10 < 10 := by omega
        have hd := dgS_at (q' % 10) hr10
        obtain ⟨q2, hq⟩ : ∃ x, q' / 10 = x := ⟨_, rfl⟩
        obtain ⟨r2, hr⟩ : ∃ x, q' % 10 = x := ⟨_, rfl⟩
        have hz : Hid (q2 < 10 ^ f ∧ R = ahd q2 ++ bs (dgS r2 ++ acc)) := Lib.hid (by
          obtain ⟨a, b⟩ := hH.out
          refine ⟨?_, ?_⟩
          · rw [← hq]; rw [Nat.pow_succ] at a; exact Nat.div_lt_of_lt_mul (by rw [Nat.mul_comm]; exact a)
          · rw [b, bs_add, ← List.append_assoc, ← hq, ← hr, ← ahd_step]
            unfold ahd
            rw [if_neg h0])
        have hq2 : (q' : Int) / 10 = (q2 : Int) := by omega
        have hr2 : (q' : Int) % 10 = (r2 : Int) := by omega
        have hpos : (0 : Int) < (q' : Int) := by omega
        have hlt : q2 < q' := by omega
        rw [hr] at hd hr10
        have hsz : (dgS r2 ++ acc).size ≤ 21 - f := by rw [ByteArray.size_append]; have : (dgS r2).size = 1 := rfl; omega
        have HSZ := Lib.hid hsz
        have HLT := Lib.hid hlt
        have h1 : (dgS r2).size = 1 := rfl
        have hq2b : q2 ≤ 1000000000000000000 := by omega
        generalize dgS r2 = dd at *
        clear hsz hlt hq hr h0 hf0 hH
        go_wp2_with fail
        go_round
        case rel => exact ⟨q2, f, _, hq2b, by omega, rfl, rfl, HSZ.out, hz⟩
        case measure => simp [intOf]; exact HLT.out

end Go.Proofs.YtaambeficfiacaaGreatDoor
