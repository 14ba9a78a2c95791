/- What the rows' listed variables give the walks: strconv.ErrRange holds an interface value; and a start at which all listed variables read as listed. -/
import Derived.Test.YtbegenmhfmpgpaaDoorLexW5
import Derived.ProofKit
import Derived.LaidMore
import Derived.OpenShut
import Derived.Stop.Joined
import Derived.Stop.LaidErr
namespace Go.Proofs.YtbegenmhfmpgpaaDoor
open Go Go.RowKit

theorem own : ownKnob Tryd.prog.godebug = none := by kernel_rfl
/-- the variables that each row of this seat lists -/
def laidAll : List (String × DataW Unit) := Rows.lexerFormatsRow.laid

theorem type_range : (Tryd.prog.globals[2]?).map (·.type) = some 58 := by kernel_rfl
theorem cells_errStr : Tryd.prog.cellsOf 145 = 1 := by kernel_rfl
theorem cells_str : Tryd.prog.cellsOf 9 = 1 := by kernel_rfl
theorem star_err : "*" ++ "errors.errorString" = "*errors.errorString" := by decide
theorem row_err (u : TypeId) (h : Tryd.prog.typeName? 3 u = some "*errors.errorString") : u = 143 :=
  typeName_ptr_named (nm := "errors.errorString") (by rw [star_err]; kernel_rfl) (by kernel_rfl) (by decide) u (by rw [star_err]; exact h)

theorem rangeVar_of_laid {W : World} (h : laidMetH Tryd.prog laidAll W) : RangeVar W := by
  have h1 : laidMet Tryd.prog laidAll W := by rw [MakeChecks.laidMetH_plain _ _ _ (by kernel_rfl)] at h; exact h
  have h2 := laidMet.tail (laidMet.tail (laidMet.tail (show laidMet Tryd.prog (_ :: _ :: _ :: ("strconv.ErrRange", Rows.laid_strconv_ErrRange) :: _) W from h1)))
  obtain ⟨a0, s0, hv0, -, -, -⟩ := laid_sentinel h2 global_range type_range Tryd.underlying58 row_err Tryd.underlying143 Tryd.underlying145 rfl rfl Tryd.underlying9 cells_errStr cells_str
  exact ⟨_, _, hv0⟩

theorem door_met (os : Os) (args : Array Value) : laidMetH Tryd.prog laidAll ((World.doorLaid Tryd.prog 400 os).forCall (fun _ _ => 0) ⟨#[], args, []⟩).memory :=
  laidMetH_of_parts3 (fuel := 8) (laidMet_of_run' 8 (by kernel_rfl) (by kernel_rfl)) (by kernel_rfl) (by kernel_rfl)

end Go.Proofs.YtbegenmhfmpgpaaDoor
