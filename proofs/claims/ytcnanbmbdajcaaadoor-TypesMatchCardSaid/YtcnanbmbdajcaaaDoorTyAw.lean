/- The statements' sanity check returns true: by the kernel's own run. No conditions. -/
import Derived.Test.YtcnanbmbdajcaaaDoorEvD
import Derived.Test.YtcnanbmbdajcaaaDoorRows
namespace Go.Proofs.YtcnanbmbdajcaaaDoor
open Go Go.RowKit

set_option maxRecDepth 100000 in
theorem awake_run : Ev.valOf (Ev.runC Tryd.prog 100000 .leaf 19 []) = some (.bool true) := by kernel_rfl
theorem awake_any (w : World) : Calls Tryd.prog 19 #[] w fun e w' => e = .returned (.bool true) ∧ Below w.heap.size w w' :=
  Ev.calls_of_run (P := Tryd.prog) (by kernel_rfl) (args := []) rfl awake_run w

end Go.Proofs.YtcnanbmbdajcaaaDoor
