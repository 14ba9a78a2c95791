/- cmp.Compare at bytes and numbers. Conditions: none. -/
-- by tools/gen_cmpf.py
import Derived.Test.YtaambeficfiacaaGreatDoorVaS
namespace Go.Proofs.YtaambeficfiacaaGreatDoor
open Go.RowKit VM

theorem ret_i {a b : Int} (h : a = b) : Ending.returned (.int .i64 a) = .returned (.int .i64 b) := by rw [h]
theorem nanB (a : Int) (w : World) : Calls Tryz.prog 100 #[.int .u8 a] w fun e w' => e = .returned (.bool false) ∧ w = w' := by
  have g : (a == a) = true := beq_self_eq_true _
  go_enter Tryz.func100, Tryz.ntmps100
  go_wp2
  go_ret
  exact ⟨rfl, rfl⟩
theorem cmpB (a b : Int) (w : World) : Calls Tryz.prog 74 #[.int .u8 a, .int .u8 b] w fun e w' => e = .returned (.int .i64 (sgn a b)) ∧ w = w' := by
  go_enter Tryz.func74, Tryz.ntmps74
  go_wp2_with (go_at_call 100; refine (nanB _ _).mono ?_; rintro e w' ⟨rfl, rfl⟩)
  all_goals
    go_ret
    exact ⟨ret_i (by unfold sgn; repeat' split
                     all_goals omega), rfl⟩
theorem nanL (a : Int) (w : World) : Calls Tryz.prog 101 #[.int .i64 a] w fun e w' => e = .returned (.bool false) ∧ w = w' := by
  have g : (a == a) = true := beq_self_eq_true _
  go_enter Tryz.func101, Tryz.ntmps101
  go_wp2
  go_ret
  exact ⟨rfl, rfl⟩
theorem cmpL (a b : Int) (w : World) : Calls Tryz.prog 75 #[.int .i64 a, .int .i64 b] w fun e w' => e = .returned (.int .i64 (sgn a b)) ∧ w = w' := by
  go_enter Tryz.func75, Tryz.ntmps75
  go_wp2_with (go_at_call 101; refine (nanL _ _).mono ?_; rintro e w' ⟨rfl, rfl⟩)
  all_goals
    go_ret
    exact ⟨ret_i (by unfold sgn; repeat' split
                     all_goals omega), rfl⟩
theorem nanI (a : Int) (w : World) : Calls Tryz.prog 102 #[.int .i64 a] w fun e w' => e = .returned (.bool false) ∧ w = w' := by
  have g : (a == a) = true := beq_self_eq_true _
  go_enter Tryz.func102, Tryz.ntmps102
  go_wp2
  go_ret
  exact ⟨rfl, rfl⟩
theorem cmpI (a b : Int) (w : World) : Calls Tryz.prog 76 #[.int .i64 a, .int .i64 b] w fun e w' => e = .returned (.int .i64 (sgn a b)) ∧ w = w' := by
  go_enter Tryz.func76, Tryz.ntmps76
  go_wp2_with (go_at_call 102; refine (nanI _ _).mono ?_; rintro e w' ⟨rfl, rfl⟩)
  all_goals
    go_ret
    exact ⟨ret_i (by unfold sgn; repeat' split
                     all_goals omega), rfl⟩
end Go.Proofs.YtaambeficfiacaaGreatDoor
