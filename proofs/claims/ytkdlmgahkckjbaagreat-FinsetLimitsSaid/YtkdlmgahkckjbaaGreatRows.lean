/-
  No cell of these rows narrows 'for every input' (looked for: loops, veiled, ifaces, maps, wideKeys, modest, calm, conditions, laid).
  DERIVED. THE GIVEN ROWS OF THIS SEAT. 2 by the template 'for every input the law returns true; each argument reads behind the call as it read before'; 0 by the template 'total and deterministic' (their statements: YtkdlmgahkckjbaaGreatTotals.lean).
  GIVEN WITH THE SEED: the statements are not yours to turn. If you find one false, say at which input.
  Laid BY PROGRAM, IN A SANDBOX (cutbox-rows.mjs): the forced cells as the released guide's own fill.sh prints them over the translation ad40d80d1db309c2… (all of the seat's roots in one cut). By AI agents, Wed Nov 11 2026. No macro, syntax, notation, axiom, sorry.
-/
import Derived.Test.YtkdlmgahkckjbaaGreatChecked
import GoSem.Claim
import GoSem.ClaimJoined
import GoSem.ClaimMapViews
import Derived.JoinedTies
import Derived.KernelRfl
namespace Go.Proofs.YtkdlmgahkckjbaaGreat
/- THE CELL 'sum', in the pinned program and in every row, IS THE sha256 OF THE DUMP (.gsa) THAT YtkdlmgahkckjbaaGreatProg.lean LOADS. Nothing in Lean hashes anything: it is a label: what it is worth is what the hold of that sum in a sandbox is worth. -/
noncomputable def Tryz.pinned : Pinned := { name := "ytkdlmgahkckjbaagreat", sum := "ad40d80d1db309c25d599780b3512c18a4f2157c734b38bcde36a98f421634c6", checked := Tryz.checked }
namespace Rows
def none {H : Type} : Left H := { results := [], args := [] }

/-- 'cspchecklaw10.FinsetProducts': WHATEVER THE INPUT: true; the input reads as it did. -/
def finsetProductsSpec : ChangeSpec := { name := "finsetProducts", fn := fun _ => fun
  | [d1, d2, d3, d4] => { results := [.lit (.bool true)], args := [d1, d2, d3, d4] }
  | _ => none }
def finsetProductsRow : OpenClaim := { program := "ytkdlmgahkckjbaagreat", sum := "ad40d80d1db309c25d599780b3512c18a4f2157c734b38bcde36a98f421634c6", func := "cspcheck/cspchecklaw10.FinsetProducts", spec := "finsetProducts", unfollowed := true, recurses := true, apart := false }
def FinsetProductsSaid : Prop := finsetProductsRow.holds Tryz.pinned (OpenSpec.ofChange finsetProductsSpec)

/-- ITS FALSE NEIGHBOUR: 'it returns false'. Refute it at one input. -/
def finsetProductsWrong : ChangeSpec := { name := "finsetProducts", fn := fun _ => fun
  | [d1, d2, d3, d4] => { results := [.lit (.bool false)], args := [d1, d2, d3, d4] }
  | _ => none }
def FinsetProductsWrongFalsely : Prop := finsetProductsRow.holds Tryz.pinned (OpenSpec.ofChange finsetProductsWrong)

/-- 'cspchecklaw10.FinsetLimits': WHATEVER THE INPUT: true; the input reads as it did. -/
def finsetLimitsSpec : ChangeSpec := { name := "finsetLimits", fn := fun _ => fun
  | [d1, d2] => { results := [.lit (.bool true)], args := [d1, d2] }
  | _ => none }
def finsetLimitsRow : OpenClaim := { program := "ytkdlmgahkckjbaagreat", sum := "ad40d80d1db309c25d599780b3512c18a4f2157c734b38bcde36a98f421634c6", func := "cspcheck/cspchecklaw10.FinsetLimits", spec := "finsetLimits", unfollowed := true, recurses := true, apart := false }
def FinsetLimitsSaid : Prop := finsetLimitsRow.holds Tryz.pinned (OpenSpec.ofChange finsetLimitsSpec)

/-- ITS FALSE NEIGHBOUR: 'it returns false'. Refute it at one input. -/
def finsetLimitsWrong : ChangeSpec := { name := "finsetLimits", fn := fun _ => fun
  | [d1, d2] => { results := [.lit (.bool false)], args := [d1, d2] }
  | _ => none }
def FinsetLimitsWrongFalsely : Prop := finsetLimitsRow.holds Tryz.pinned (OpenSpec.ofChange finsetLimitsWrong)

/- THE SECOND FORM. 'bulk': how many values and letters a reading holds, each counted each time it is reached (what is shared counts as often as it is met; a slice's spare places count too). A statement '..UptoSaid' is the law's where the arguments, and the package variables that the reading takes, are together of bulk at most 1048576: NARROWER than '..Said'. Prove '..Said' where nothing that the law and all that it calls make is longer than what came in: it says more and counts as full. Else prove '..UptoSaid'. A law counts once. -/
mutual
def uptoBulk {H : Type} : DataW H → Nat
  | .lit (.string bytes) => bytes.length + 1
  | .lit _ => 1
  | .nil => 1
  | .ptr d => uptoBulk d + 1
  | .slice elems spare => uptoBulkAll elems + uptoBulkAll spare + 1
  | .agg parts => uptoBulkAll parts + 1
  | .iface _ d => uptoBulk d + 1
  | .map entries => uptoBulkEntries entries + 1
  | .held _ => 1
def uptoBulkAll {H : Type} : List (DataW H) → Nat
  | [] => 0
  | d :: r => uptoBulk d + uptoBulkAll r
def uptoBulkEntries {H : Type} : List (Lit × DataW H) → Nat
  | [] => 0
  | x :: r => uptoBulkEntry x + uptoBulkEntries r
def uptoBulkEntry {H : Type} : Lit × DataW H → Nat
  | (.string bytes, d) => bytes.length + uptoBulk d + 1
  | (_, d) => uptoBulk d + 1
 end
def uptoSmall : (H : Type) → List (DataW H) → Bool := fun _ ds => decide (uptoBulkAll ds ≤ 1048576)
def OpenSpec.upto (s : _root_.Go.ChangeSpec) : _root_.Go.OpenSpec := { _root_.Go.OpenSpec.ofChange s with cond := some uptoSmall }

/-- 'cspchecklaw10.FinsetProducts', WHERE WHAT IT READS IS OF BULK AT MOST 1048576: true; the input reads as it did. -/
def finsetProductsUptoRow : OpenClaim := { program := "ytkdlmgahkckjbaagreat", sum := "ad40d80d1db309c25d599780b3512c18a4f2157c734b38bcde36a98f421634c6", func := "cspcheck/cspchecklaw10.FinsetProducts", spec := "finsetProducts", unfollowed := true, recurses := true, apart := false, narrowed := true }
def FinsetProductsUptoSaid : Prop := finsetProductsUptoRow.holds Tryz.pinned (OpenSpec.upto finsetProductsSpec)

/-- 'cspchecklaw10.FinsetLimits', WHERE WHAT IT READS IS OF BULK AT MOST 1048576: true; the input reads as it did. -/
def finsetLimitsUptoRow : OpenClaim := { program := "ytkdlmgahkckjbaagreat", sum := "ad40d80d1db309c25d599780b3512c18a4f2157c734b38bcde36a98f421634c6", func := "cspcheck/cspchecklaw10.FinsetLimits", spec := "finsetLimits", unfollowed := true, recurses := true, apart := false, narrowed := true }
def FinsetLimitsUptoSaid : Prop := finsetLimitsUptoRow.holds Tryz.pinned (OpenSpec.upto finsetLimitsSpec)

end Rows
end Go.Proofs.YtkdlmgahkckjbaaGreat
