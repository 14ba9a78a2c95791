/- The sources of LayoutNests, decided on the model, part one. No program in it. -/
import Derived.Test.YtebfnlahiodefaaDoorLayC
import Derived.KernelRfl
namespace Go.Proofs.YtebfnlahiodefaaDoor.M
open Go

theorem nest_35 : ((List.range 5).all fun k => nestChk (35 + k)) = true := by kernel_rfl
theorem nest_40 : ((List.range 5).all fun k => nestChk (40 + k)) = true := by kernel_rfl
theorem nest_45 : ((List.range 5).all fun k => nestChk (45 + k)) = true := by kernel_rfl

end Go.Proofs.YtebfnlahiodefaaDoor.M
