/- The reference's walk at every depth, its number and its sign. Conditions: at most 1048576 bytes; number: eight bytes. -/
import Derived.Test.YtaambeficfiacaaGreatDoorVrC
namespace Go.Proofs.YtaambeficfiacaaGreatDoor
open Go.RowKit VM

set_option maxRecDepth 100000 in
set_option maxHeartbeats 3200000 in
theorem walk_zero (b : Bool) : WkCon b 0 := by
  intro s w hb
  go_enter Tryz.func53, Tryz.ntmps53
  go_wp2_with fail
  all_goals
    go_ret3
    exact wk_none rfl (Below.refl _ _)
set_option maxRecDepth 100000 in
set_option maxHeartbeats 3200000 in
theorem walk_up (b : Bool) (d : Nat) (hd : d ≤ 1000) (ih : WkCon b d) (hp : b = true → PtCon d) : WkCon b (d + 1) := by
  intro s w hb
  cases hs : bs s with
  | nil =>
    have hz : s.size = 0 := by rw [← bs_size, hs]; rfl
    have gd : ((d : Int) + 1 == 0) = false := beq_eq_false_iff_ne.2 (by omega)
    clear hs ih hp
    go_enter Tryz.func53, Tryz.ntmps53
    go_wp2_with fail
    all_goals
      go_ret3
      exact wk_none rfl (Below.refl _ _)
  | cons k r =>
    by_cases hk : isComp k = false ∨ r.length < 2
    · exact walk_simple b d s k r hs hk hb w
    · have hc : isComp k = true := by
        cases h : isComp k with
        | true => rfl
        | false => exact absurd (Or.inl h) hk
      match r, hs, hk with
      | [], _, hk => exact absurd (Or.inr (by simp)) hk
      | [a], _, hk => exact absurd (Or.inr (by simp)) hk
      | a :: c :: r, hs, _ => exact walk_comp b d hd ih hp s k a c r hs hc hb w
theorem walk_all (b : Bool) (hp : ∀ d, d ≤ 1000 → b = true → PtCon d) : ∀ d, d ≤ 1001 → WkCon b d := by
  intro d
  induction d with
  | zero => intro _; exact walk_zero b
  | succ d ih => intro h; exact walk_up b d (by omega) (ih (by omega)) (hp d (by omega))
theorem walk_plain (d : Nat) (h : d ≤ 1001) : WkCon false d := walk_all false (fun _ _ h => by cases h) d h

set_option maxHeartbeats 800000 in
theorem rsign_any (p q : Bool) (w : World) : Calls Tryz.prog 58 #[.bool p, .bool q] w fun e w' => e = .returned (.int .i64 (if p = true then -1 else if q = true then 1 else 0)) ∧ w = w' := by
  cases p
  · cases q
    all_goals
      go_enter Tryz.func58, Tryz.ntmps58
      go_wp2
      go_ret
      exact ⟨rfl, rfl⟩
  · go_enter Tryz.func58, Tryz.ntmps58
    go_wp2
    go_ret
    exact ⟨rfl, rfl⟩

set_option maxRecDepth 100000 in
set_option maxHeartbeats 1600000 in
theorem rnumber_any (s : ByteArray) (hsz : 8 ≤ s.size) (hb : s.size ≤ 1048576) (w : World) :
    Calls Tryz.prog 54 #[.string s] w fun e w' => e = .returned (.int .i64 (numL ((bs s).take 8))) ∧ w = w' := by
  go_enter Tryz.func54, Tryz.ntmps54
  go_wp2_with fail
  go_loopw [3, 4] (fun nv iv wr => ∃ i m : Nat, iv = .int .i64 i ∧ nv = .int .u64 m ∧ i ≤ 8 ∧ Hid (m = natL ((bs s).take i)) ∧ wr = w) (fun _ iv _ => 8 - (intOf iv).toNat)
  case atStart => exact ⟨0, 0, rfl, rfl, by omega, rfl, rfl⟩
  case round =>
    obtain ⟨i, m, rfl, rfl, hi, hM, rfl⟩ := hrel
    by_cases hlt : i < 8
    · obtain ⟨b, hbi⟩ : ∃ b, (bs s)[i]? = some b := ⟨(bs s)[i]'(by rw [bs_size]; omega), List.getElem?_eq_getElem _⟩
      have e2 : s[i]'(by omega) = b := by rw [bs_get s i (by omega)] at hbi; exact Option.some.inj hbi
      have hm7 : m < 72057594037927936 := by
        rw [hM.out]
        refine Nat.lt_of_lt_of_le (natL_lt _) ?_
        have hl : ((bs s).take i).length ≤ 7 := by rw [List.length_take]; omega
        exact Nat.le_trans (Nat.pow_le_pow_right (by decide) hl) (by decide)
      have hor := or_u64 m b.toNat hm7 b.toNat_lt
      have hw1 : IntKind.u64.wrap ((m : Int) * 256) = (m : Int) * 256 := by rw [IntKind.wrap_u64]; omega
      have hw2 : IntKind.u64.wrap (b.toNat : Int) = (b.toNat : Int) := by rw [IntKind.wrap_u64]; have := b.toNat_lt; omega
      have HM2 : Hid (m * 256 + b.toNat = natL ((bs s).take (i + 1))) := Lib.hid (by
        have e3 : (bs s).take (i + 1) = (bs s).take i ++ [b] := by rw [List.take_add_one, hbi]; rfl
        rw [e3, natL_snoc, hM.out])
      clear hbi hM
      go_wp2_with fail
      go_roundw
      case rel => exact ⟨i + 1, m * 256 + b.toNat, by go_num, by first | rfl | go_num, by omega, HM2.out, trivial⟩
      case measure => simp [intOf]; omega
    · obtain rfl : i = 8 := by omega
      go_wp2_with fail
      go_ret
      refine ⟨?_, rfl⟩
      have hv : m = natL ((bs s).take 8) := hM.out
      have hlt2 : m < 18446744073709551616 := by
        rw [hv]
        refine Nat.lt_of_lt_of_le (natL_lt _) ?_
        have hl : ((bs s).take 8).length ≤ 8 := by rw [List.length_take]; omega
        exact Nat.le_trans (Nat.pow_le_pow_right (by decide) hl) (by decide)
      have hs : wrap64 (m : Int) = signed m := by
        unfold signed
        simp only [wrap64]
        split <;> omega
      unfold numL
      rw [← hv, ← hs]
      rfl

end Go.Proofs.YtaambeficfiacaaGreatDoor
