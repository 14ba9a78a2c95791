/- Classes: what permitted and the reference's class return. Condition: the classes are a sum of the three bits. -/
import Derived.Test.YtgdmmkgdnfkadaaDoorTyQ
namespace Go.Proofs.YtgdmmkgdnfkadaaDoor
open Go.RowKit M

theorem bits2 : bits .and .i64 0 2 = 0 ∧ bits .and .i64 1 2 = 0 ∧ bits .and .i64 2 2 = 2 ∧ bits .and .i64 3 2 = 2 ∧ bits .and .i64 4 2 = 0 ∧ bits .and .i64 5 2 = 0 ∧ bits .and .i64 6 2 = 2 ∧ bits .and .i64 7 2 = 2 := by
  refine ⟨by rfl, by rfl, by rfl, by rfl, by rfl, by rfl, by rfl, by rfl⟩

set_option linter.unusedSimpArgs false in
set_option maxRecDepth 100000 in
set_option maxHeartbeats 6400000 in
theorem permitted_any (k c : Int) (h0 : 0 ≤ c) (h7 : c ≤ 7) (w : World) :
    Calls Tryd.prog 63 #[.int .i64 k, .int .i64 c] w fun e w' => e = .returned (.bool (perm k c)) ∧ w = w' := by
  have hc : c = 0 ∨ c = 1 ∨ c = 2 ∨ c = 3 ∨ c = 4 ∨ c = 5 ∨ c = 6 ∨ c = 7 := by omega
  clear h0 h7
  rcases hc with rfl | rfl | rfl | rfl | rfl | rfl | rfl | rfl
  all_goals
    go_enter Tryd.func63, Tryd.ntmps63
    go_wp2
    all_goals
      go_ret
      exact ⟨ret_bool (by first | (rename_i h; have h := eq_of_beq h; subst h; rfl) | (unfold perm; simp [bits2, *]; done) | (simp only [beq_eq_false_iff_ne] at *; unfold perm; simp [bits2, *])), rfl⟩
set_option linter.unusedSimpArgs false in
set_option maxRecDepth 100000 in
set_option maxHeartbeats 6400000 in
theorem class_any (k b : Int) (hb : b = 1 ∨ b = 2 ∨ b = 4) (w : World) :
    Calls Tryd.prog 66 #[.int .i64 k, .int .i64 b] w fun e w' => e = .returned (.bool (cls k b)) ∧ w = w' := by
  rcases hb with rfl | rfl | rfl
  all_goals
    go_enter Tryd.func66, Tryd.ntmps66
    go_wp2
    all_goals
      go_ret
      exact ⟨ret_bool (by first | (rename_i h; have h := eq_of_beq h; subst h; rfl) | (unfold cls; simp [*]; done) | (simp only [beq_eq_false_iff_ne] at *; unfold cls; simp [*])), rfl⟩

end Go.Proofs.YtgdmmkgdnfkadaaDoor
