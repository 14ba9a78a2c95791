/- The statements' numbers: Choices.Number. No conditions but that a slice of numbers has a length. -/
import Derived.Test.YtmaboodfgmbdjaaGreatDoorCSt
namespace Go.Proofs.YtmaboodfgmbdjaaGreatDoor
open Go.RowKit

theorem next_n (m : Nat) (hm : 0 < m) (hm2 : m ≤ 100000) {w : World} {g n c : Nat} {A : Option Addr} (h : CSt w g A n c) (hn : n ≤ maxLen) :
    Calls Tryz.prog 40 #[.pointer (some ⟨g, 0, none⟩), .int .i64 (m : Int)] w fun e w' => ∃ r : Nat, r < m ∧ e = .returned (.int .i64 r) ∧ CSt w' g A n c ∧ w.grownBy w' (some g) := next_st m m rfl hm hm2 h hn
set_option maxRecDepth 100000 in
set_option maxHeartbeats 3200000 in
theorem number_st {w : World} {g n c : Nat} {A : Option Addr} (hC : CSt w g A n c) (hn : n ≤ maxLen) :
    Calls Tryz.prog 42 #[.pointer (some ⟨g, 0, none⟩)] w fun e w' => ∃ z : Int, e = .returned (.int .i64 z) ∧ -9223372036854775808 ≤ z ∧ z ≤ 9223372036854775807 ∧ CSt w' g A n c ∧ w.grownBy w' (some g) := by
  have HC := hide hC
  have HN := Lib.hid hn
  clear hC hn
  go_enter Tryz.func42, Tryz.ntmps42
  go_wp2_with fail
  refine (next_st 9 9 rfl (by decide) (by decide) (unhide HC) HN.out).mono ?_
  rintro e w1 ⟨r1, hr1, rfl, hC1, hG1⟩
  have HC1 := hide hC1
  have HG1 := hide hG1
  clear hC1 hG1 HC
  by_cases h6 : r1 = 6
  · subst h6
    go_wp2_with fail
    go_ret
    exact ⟨-1, rfl, by omega, by omega, unhide HC1, unhide HG1⟩
  have g6 : ((r1 : Int) == 6) = false := beq_eq_false_iff_ne.2 (by omega)
  by_cases h7 : r1 = 7
  · subst h7
    go_wp2_with fail
    refine (next_st 2 2 rfl (by decide) (by decide) (unhide HC1) HN.out).mono ?_
    rintro e w2 ⟨r2, hr2, rfl, hC2, hG2⟩
    have HC2 := hide hC2
    have HG2 := hide (only_trans (unhide HG1) hG2)
    clear hC2 hG2
    go_wp2_with fail
    go_ret
    exact ⟨_, rfl, by omega, by omega, unhide HC2, unhide HG2⟩
  have g7 : ((r1 : Int) == 7) = false := beq_eq_false_iff_ne.2 (by omega)
  by_cases h8 : r1 = 8
  · subst h8
    go_wp2_with fail
    refine (next_st 2 2 rfl (by decide) (by decide) (unhide HC1) HN.out).mono ?_
    rintro e w2 ⟨r2, hr2, rfl, hC2, hG2⟩
    have HC2 := hide hC2
    have HG2 := hide (only_trans (unhide HG1) hG2)
    clear hC2 hG2
    go_wp2_with fail
    go_ret
    exact ⟨_, rfl, by omega, by omega, unhide HC2, unhide HG2⟩
  have g8 : ((r1 : Int) == 8) = false := beq_eq_false_iff_ne.2 (by omega)
  go_wp2_with fail
  refine (next_st 7 7 rfl (by decide) (by decide) (unhide HC1) HN.out).mono ?_
  rintro e w2 ⟨r2, hr2, rfl, hC2, hG2⟩
  have HC2 := hide hC2
  have HG2 := hide (only_trans (unhide HG1) hG2)
  clear hC2 hG2
  go_wp2_with fail
  go_ret
  exact ⟨_, rfl, by omega, by omega, unhide HC2, unhide HG2⟩

end Go.Proofs.YtmaboodfgmbdjaaGreatDoor
