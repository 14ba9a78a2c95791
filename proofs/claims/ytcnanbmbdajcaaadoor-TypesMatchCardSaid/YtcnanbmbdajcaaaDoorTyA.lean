/- Nodes of types: what validNode and the reference's arity return. No conditions. -/
import Derived.Test.YtcnanbmbdajcaaaDoorB0
import Derived.Test.YtcnanbmbdajcaaaDoorTyM
namespace Go.Proofs.YtcnanbmbdajcaaaDoor
open Go.RowKit M

def ndCells (t : TN) : List Value := [.int .i64 t.1, .int .i64 t.2.1, .int .i64 t.2.2]
theorem nd_len (t : TN) : (ndCells t).length = 3 := rfl
abbrev ndV (t : TN) : Value := .agg #[.int .i64 t.1, .int .i64 t.2.1, .int .i64 t.2.2]
theorem kinds (k : Int) : k = 1 ∨ k = 2 ∨ k = 3 ∨ k = 4 ∨ k = 5 ∨ k = 6 ∨ k = 7 ∨ k = 8 ∨ k = 9 ∨ k = 10 ∨ k = 11 ∨ k = 12 ∨ k = 13 ∨ (k < 1 ∨ 13 < k) := by omega

set_option maxRecDepth 100000 in
set_option maxHeartbeats 3200000 in
theorem validNode_any (k num kids : Int) (w : World) :
    Calls Tryd.prog 43 #[.agg #[.int .i64 k, .int .i64 num, .int .i64 kids]] w fun e w' => e = .returned (.bool (vN (k, num, kids))) ∧ w.alloc (.cells #[.int .i64 k, .int .i64 num, .int .i64 kids] 33) = w' := by
  rcases kinds k with rfl | rfl | rfl | rfl | rfl | rfl | rfl | rfl | rfl | rfl | rfl | rfl | rfl | hk
  iterate 13
    · go_enter Tryd.func43, Tryd.ntmps43
      go_wp2
      all_goals
        go_ret
        exact ⟨ret_bool (by rw [Bool.eq_iff_iff]; unfold vN; simp <;> omega), by first | rfl | simp [*]⟩
  · have hv : vN (k, num, kids) = false := by
      unfold vN
      rw [if_neg (by simp only; omega), if_neg (by simp only; omega), if_neg (by simp only; omega), if_neg (by simp only; omega), if_neg (by simp only; omega), if_neg (by simp only; omega)]
    have HV := Lib.hid hv
    have g1 : (k == 1) = false := beq_eq_false_iff_ne.2 (by omega)
    have g2 : (k == 2) = false := beq_eq_false_iff_ne.2 (by omega)
    have g3 : (k == 3) = false := beq_eq_false_iff_ne.2 (by omega)
    have g4 : (k == 4) = false := beq_eq_false_iff_ne.2 (by omega)
    have g5 : (k == 5) = false := beq_eq_false_iff_ne.2 (by omega)
    have g6 : (k == 6) = false := beq_eq_false_iff_ne.2 (by omega)
    have g7 : (k == 7) = false := beq_eq_false_iff_ne.2 (by omega)
    have g8 : (k == 8) = false := beq_eq_false_iff_ne.2 (by omega)
    have g9 : (k == 9) = false := beq_eq_false_iff_ne.2 (by omega)
    have g10 : (k == 10) = false := beq_eq_false_iff_ne.2 (by omega)
    have g11 : (k == 11) = false := beq_eq_false_iff_ne.2 (by omega)
    have g12 : (k == 12) = false := beq_eq_false_iff_ne.2 (by omega)
    have g13 : (k == 13) = false := beq_eq_false_iff_ne.2 (by omega)
    clear hk hv
    go_enter Tryd.func43, Tryd.ntmps43
    go_wp2
    all_goals
      go_ret
      exact ⟨ret_bool HV.out.symm, rfl⟩

set_option maxRecDepth 100000 in
set_option maxHeartbeats 3200000 in
theorem arity_any (k num kids : Int) (w : World) :
    Calls Tryd.prog 44 #[.agg #[.int .i64 k, .int .i64 num, .int .i64 kids]] w fun e w' => e = .returned (.bool (vN (k, num, kids))) ∧ w.alloc (.cells #[.int .i64 k, .int .i64 num, .int .i64 kids] 33) = w' := by
  rcases kinds k with rfl | rfl | rfl | rfl | rfl | rfl | rfl | rfl | rfl | rfl | rfl | rfl | rfl | hk
  iterate 13
    · go_enter Tryd.func44, Tryd.ntmps44
      go_wp2
      all_goals
        go_ret
        exact ⟨ret_bool (by rw [Bool.eq_iff_iff]; unfold vN; simp <;> omega), by first | rfl | simp [*]⟩
  · have hv : vN (k, num, kids) = false := by
      unfold vN
      rw [if_neg (by simp only; omega), if_neg (by simp only; omega), if_neg (by simp only; omega), if_neg (by simp only; omega), if_neg (by simp only; omega), if_neg (by simp only; omega)]
    have HV := Lib.hid hv
    have g1 : (k == 1) = false := beq_eq_false_iff_ne.2 (by omega)
    have g2 : (k == 2) = false := beq_eq_false_iff_ne.2 (by omega)
    have g3 : (k == 3) = false := beq_eq_false_iff_ne.2 (by omega)
    have g4 : (k == 4) = false := beq_eq_false_iff_ne.2 (by omega)
    have g5 : (k == 5) = false := beq_eq_false_iff_ne.2 (by omega)
    have g6 : (k == 6) = false := beq_eq_false_iff_ne.2 (by omega)
    have g7 : (k == 7) = false := beq_eq_false_iff_ne.2 (by omega)
    have g8 : (k == 8) = false := beq_eq_false_iff_ne.2 (by omega)
    have g9 : (k == 9) = false := beq_eq_false_iff_ne.2 (by omega)
    have g10 : (k == 10) = false := beq_eq_false_iff_ne.2 (by omega)
    have g11 : (k == 11) = false := beq_eq_false_iff_ne.2 (by omega)
    have g12 : (k == 12) = false := beq_eq_false_iff_ne.2 (by omega)
    have g13 : (k == 13) = false := beq_eq_false_iff_ne.2 (by omega)
    clear hk hv
    go_enter Tryd.func44, Tryd.ntmps44
    go_wp2
    all_goals
      go_ret
      exact ⟨ret_bool HV.out.symm, rfl⟩

end Go.Proofs.YtcnanbmbdajcaaaDoor
