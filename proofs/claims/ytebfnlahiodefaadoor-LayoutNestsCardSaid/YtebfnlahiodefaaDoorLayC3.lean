/- The sources of LayoutNests, decided on the model, part three. No program in it. -/
import Derived.Test.YtebfnlahiodefaaDoorLayC
import Derived.KernelRfl
namespace Go.Proofs.YtebfnlahiodefaaDoor.M
open Go

theorem nest_59 : ((List.range 3).all fun k => nestChk (59 + k)) = true := by kernel_rfl
theorem nest_62 : ((List.range 2).all fun k => nestChk (62 + k)) = true := by kernel_rfl
theorem nest_64 : ((List.range 6).all fun k => nestChk (64 + k)) = true := by kernel_rfl

end Go.Proofs.YtebfnlahiodefaaDoor.M
