/- The statements' sanity check returns true: by the kernel's own run. No conditions. -/
import Derived.Test.YtgdmmkgdnfkadaaDoorEvD
import Derived.Test.YtgdmmkgdnfkadaaDoorRows
namespace Go.Proofs.YtgdmmkgdnfkadaaDoor
open Go Go.RowKit

set_option maxRecDepth 100000 in
theorem awake_run : Ev.valOf (Ev.runC Tryd.prog 100000 .leaf 26 []) = some (.bool true) := by kernel_rfl
theorem awake_any (w : World) : Calls Tryd.prog 26 #[] w fun e w' => e = .returned (.bool true) ∧ Below w.heap.size w w' :=
  Ev.calls_of_run (P := Tryd.prog) (by kernel_rfl) (args := []) rfl awake_run w

end Go.Proofs.YtgdmmkgdnfkadaaDoor
