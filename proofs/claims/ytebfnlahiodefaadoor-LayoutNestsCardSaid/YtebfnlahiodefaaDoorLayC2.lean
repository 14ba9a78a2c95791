/- The sources of LayoutNests, decided on the model, part two. No program in it. -/
import Derived.Test.YtebfnlahiodefaaDoorLayC
import Derived.KernelRfl
namespace Go.Proofs.YtebfnlahiodefaaDoor.M
open Go

theorem nest_50 : ((List.range 3).all fun k => nestChk (50 + k)) = true := by kernel_rfl
theorem nest_53 : ((List.range 3).all fun k => nestChk (53 + k)) = true := by kernel_rfl
theorem nest_56 : ((List.range 3).all fun k => nestChk (56 + k)) = true := by kernel_rfl

end Go.Proofs.YtebfnlahiodefaaDoor.M
