/- What the reference's Decimal and TokenText return. -/
import Derived.Test.YtbegenmhfmpgpaaDoorLexE
namespace Go.Proofs.YtbegenmhfmpgpaaDoor.M

/-- the byte of a digit -/
def dig (r : Nat) : UInt8 := UInt8.ofNat (48 + r)
/-- decimal digits: fuel, the number left, the digits behind it -/
def decF : Nat → Nat → Bs → Bs
  | 0, _, acc => acc
  | f + 1, n, acc => if n = 0 then acc else decF f (n / 10) (dig (n % 10) :: acc)
def decB (n : Nat) : Bs := decF 20 (n / 10) [dig (n % 10)]
/-- a token's text -/
def textB (t : TR) : Bs := if t.kind = 2 then decB t.num.toNat else t.str

end Go.Proofs.YtbegenmhfmpgpaaDoor.M
namespace Go.Proofs.YtbegenmhfmpgpaaDoor
open Go.RowKit M

theorem digit_at (r : Nat) (h : r < 10) : ((⟨#[48, 49, 50, 51, 52, 53, 54, 55, 56, 57]⟩ : ByteArray).extract r (r + 1)) = S [dig r] := by
  have : ∀ r : Fin 10, ((⟨#[48, 49, 50, 51, 52, 53, 54, 55, 56, 57]⟩ : ByteArray).extract r.val (r.val + 1)) = S [dig r.val] := by decide
  exact this ⟨r, h⟩

theorem toList_append' (a b : ByteArray) : (a ++ b).data.toList = a.data.toList ++ b.data.toList := by simp

set_option maxRecDepth 100000 in
set_option maxHeartbeats 1000000 in
theorem rdecimal_any (n : Nat) (hn : n ≤ 9223372036854775807) (w : World) :
    Calls Tryd.prog 43 #[.int .i64 n] w fun e w' => e = .returned (.string (S (decB n))) ∧ w = w' := by
  have hr10 : n % 10 < 10 := by omega
  have hd := digit_at (n % 10) hr10
  obtain ⟨q, hq⟩ : ∃ q, n / 10 = q := ⟨_, rfl⟩
  obtain ⟨r, hr⟩ : ∃ r, n % 10 = r := ⟨_, rfl⟩
  have hR : Hid (decB n = decF 20 q [dig r]) := by unfold Hid decB; rw [hq, hr]
  have hq2 : (n : Int) / 10 = (q : Int) := by omega
  have hr2 : (n : Int) % 10 = (r : Int) := by omega
  have hqb : q ≤ 922337203685477580 := by omega
  rw [hr] at hd hr10
  have HNN := Lib.hid hn
  generalize decB n = R at *
  clear hq hr hn
  go_enter Tryd.func43, Tryd.ntmps43
  go_wp2
  go_loop [0, 3] (fun t0 t3 => ∃ (q f : Nat) (acc : ByteArray), q ≤ 922337203685477580 ∧ f ≤ 20 ∧ t0 = .int .i64 q ∧ t3 = .string acc ∧ acc.size ≤ 21 - f ∧ Hid (q < 10 ^ f ∧ R = decF f q acc.data.toList)) (fun t0 _ => (intOf t0).toNat)
  case atStart => exact ⟨q, 20, S [dig r], hqb, by omega, rfl, rfl, (by show 1 ≤ 21 - 20; omega), ⟨by omega, hR.out⟩⟩
  case round =>
    clear hR hq2 hr2 hd hqb hr10
    obtain ⟨q', f, acc, hqb, hf, rfl, rfl, hacc, hH⟩ := hrel
    by_cases h0 : q' = 0
    · have hz : Hid (R = acc.data.toList) := by
        have h := hH.out.2
        subst h0
        unfold Hid
        rw [h]
        cases f <;> rfl
      subst h0
      go_wp2
      go_ret
      exact ⟨ret_string (by rw [hz.out, S_of]), rfl⟩
    · have hf0 : f ≠ 0 := by intro e; have := hH.out.1; rw [e] at this; simp at this; exact h0 this
      obtain ⟨f, rfl⟩ : ∃ g, f = g + 1 := ⟨f - 1, by omega⟩
      have hr10 : q' % 10 < 10 := by omega
      have hd := digit_at (q' % 10) hr10
      obtain ⟨q2, hq⟩ : ∃ x, q' / 10 = x := ⟨_, rfl⟩
      obtain ⟨r2, hr⟩ : ∃ x, q' % 10 = x := ⟨_, rfl⟩
      have hz : Hid (q2 < 10 ^ f ∧ R = decF f q2 (S [dig r2] ++ acc).data.toList) := by
        obtain ⟨a, b⟩ := hH.out
        refine ⟨?_, ?_⟩
        · rw [← hq]; rw [Nat.pow_succ] at a; exact Nat.div_lt_of_lt_mul (by rw [Nat.mul_comm]; exact a)
        · rw [b, toList_append', S_toList]
          show (if q' = 0 then _ else decF f (q' / 10) (dig (q' % 10) :: acc.data.toList)) = _
          rw [if_neg h0, hq, hr]; rfl
      have hq2 : (q' : Int) / 10 = (q2 : Int) := by omega
      have hr2 : (q' : Int) % 10 = (r2 : Int) := by omega
      have hpos : (0 : Int) < (q' : Int) := by omega
      have hlt : q2 < q' := by omega
      rw [hr] at hd hr10
      have hsz : (S [dig r2] ++ acc).size ≤ 21 - f := by rw [ByteArray.size_append]; have : (S [dig r2]).size = 1 := rfl; omega
      have HSZ := Lib.hid hsz
      have HLT := Lib.hid hlt
      have h1 : (S [dig r2]).size = 1 := rfl
      have hq2b : q2 ≤ 922337203685477580 := by omega
      generalize S [dig r2] = dd at *
      clear hsz hlt hq hr h0 hf0 hH
      go_wp2
      go_round
      case rel => exact ⟨q2, f, _, hq2b, by omega, rfl, rfl, HSZ.out, hz⟩
      case measure => simp [intOf]; exact HLT.out

end Go.Proofs.YtbegenmhfmpgpaaDoor
