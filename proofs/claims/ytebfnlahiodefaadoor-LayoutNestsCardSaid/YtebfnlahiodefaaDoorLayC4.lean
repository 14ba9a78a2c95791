/- The sources of LayoutNests, decided on the model. No program in it. -/
import Derived.Test.YtebfnlahiodefaaDoorLayC1
import Derived.Test.YtebfnlahiodefaaDoorLayC2
import Derived.Test.YtebfnlahiodefaaDoorLayC3
namespace Go.Proofs.YtebfnlahiodefaaDoor.M
open Go

theorem nest_of {lo n k : Nat} (h : ((List.range n).all fun k => nestChk (lo + k)) = true) (h1 : lo ≤ k) (h2 : k < lo + n) : nestChk k = true := by
  have := List.all_eq_true.1 h (k - lo) (List.mem_range.2 (by omega))
  rwa [show lo + (k - lo) = k by omega] at this
theorem nest_one (k : Nat) (h : k < 70) : nestChk k = true := by
  by_cases h1 : k < 35
  · exact List.all_eq_true.1 nest_a k (List.mem_range.2 h1)
  by_cases h2 : k < 40
  · exact nest_of nest_35 (by omega) (by omega)
  by_cases h3 : k < 45
  · exact nest_of nest_40 (by omega) (by omega)
  by_cases h4 : k < 50
  · exact nest_of nest_45 (by omega) (by omega)
  by_cases h5 : k < 53
  · exact nest_of nest_50 (by omega) (by omega)
  by_cases h6 : k < 56
  · exact nest_of nest_53 (by omega) (by omega)
  by_cases h7 : k < 59
  · exact nest_of nest_56 (by omega) (by omega)
  by_cases h8 : k < 62
  · exact nest_of nest_59 (by omega) (by omega)
  by_cases h9 : k < 64
  · exact nest_of nest_62 (by omega) (by omega)
  · exact nest_of nest_64 (by omega) (by omega)

end Go.Proofs.YtebfnlahiodefaaDoor.M
