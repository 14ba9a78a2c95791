/-
  No cell of these rows narrows 'for every input' (looked for: loops, veiled, ifaces, maps, wideKeys, modest, calm, conditions, laid).
  DERIVED. THE GIVEN ROWS OF THIS SEAT. 5 by the template 'for every input the law returns true; each argument reads behind the call as it read before'; 0 by the template 'total and deterministic' (their statements: YtdifpemohdnolaaGreatTotals.lean).
  GIVEN WITH THE SEED: the statements are not yours to turn. If you find one false, say at which input.
  Laid BY PROGRAM, IN A SANDBOX (cutbox-rows.mjs): the forced cells as the released guide's own fill.sh prints them over the translation fb16d6a0a4580c0e… (all of the seat's roots in one cut). By AI agents, Wed Nov 11 2026. No macro, syntax, notation, axiom, sorry.
-/
import Derived.Test.YtdifpemohdnolaaGreatChecked
import GoSem.Claim
import GoSem.ClaimJoined
import GoSem.ClaimMapViews
import Derived.JoinedTies
import Derived.KernelRfl
namespace Go.Proofs.YtdifpemohdnolaaGreat
/- THE CELL 'sum', in the pinned program and in every row, IS THE sha256 OF THE DUMP (.gsa) THAT YtdifpemohdnolaaGreatProg.lean LOADS. Nothing in Lean hashes anything: it is a label: what it is worth is what the hold of that sum in a sandbox is worth. -/
noncomputable def Tryz.pinned : Pinned := { name := "ytdifpemohdnolaagreat", sum := "fb16d6a0a4580c0e334013ed43c8cb70ba9bb2eef8f327f264cf24892cfdb27b", checked := Tryz.checked }
namespace Rows
def none {H : Type} : Left H := { results := [], args := [] }

/-- 'cspchecklaw12.PatternAgrees': WHATEVER THE INPUT: true; the input reads as it did. -/
def patternAgreesSpec : ChangeSpec := { name := "patternAgrees", fn := fun _ => fun
  | [d1, d2, d3, d4, d5, d6] => { results := [.lit (.bool true)], args := [d1, d2, d3, d4, d5, d6] }
  | _ => none }
def patternAgreesRow : OpenClaim := { program := "ytdifpemohdnolaagreat", sum := "fb16d6a0a4580c0e334013ed43c8cb70ba9bb2eef8f327f264cf24892cfdb27b", func := "cspcheck/cspchecklaw12.PatternAgrees", spec := "patternAgrees", unfollowed := true, recurses := true, apart := false }
def PatternAgreesSaid : Prop := patternAgreesRow.holds Tryz.pinned (OpenSpec.ofChange patternAgreesSpec)

/-- ITS FALSE NEIGHBOUR: 'it returns false'. Refute it at one input. -/
def patternAgreesWrong : ChangeSpec := { name := "patternAgrees", fn := fun _ => fun
  | [d1, d2, d3, d4, d5, d6] => { results := [.lit (.bool false)], args := [d1, d2, d3, d4, d5, d6] }
  | _ => none }
def PatternAgreesWrongFalsely : Prop := patternAgreesRow.holds Tryz.pinned (OpenSpec.ofChange patternAgreesWrong)

/-- 'cspchecklaw12.PatternMatchesBuilt': WHATEVER THE INPUT: true; the input reads as it did. -/
def patternMatchesBuiltSpec : ChangeSpec := { name := "patternMatchesBuilt", fn := fun _ => fun
  | [d] => { results := [.lit (.bool true)], args := [d] }
  | _ => none }
def patternMatchesBuiltRow : OpenClaim := { program := "ytdifpemohdnolaagreat", sum := "fb16d6a0a4580c0e334013ed43c8cb70ba9bb2eef8f327f264cf24892cfdb27b", func := "cspcheck/cspchecklaw12.PatternMatchesBuilt", spec := "patternMatchesBuilt", unfollowed := true, recurses := true, apart := false }
def PatternMatchesBuiltSaid : Prop := patternMatchesBuiltRow.holds Tryz.pinned (OpenSpec.ofChange patternMatchesBuiltSpec)

/-- ITS FALSE NEIGHBOUR: 'it returns false'. Refute it at one input. -/
def patternMatchesBuiltWrong : ChangeSpec := { name := "patternMatchesBuilt", fn := fun _ => fun
  | [d] => { results := [.lit (.bool false)], args := [d] }
  | _ => none }
def PatternMatchesBuiltWrongFalsely : Prop := patternMatchesBuiltRow.holds Tryz.pinned (OpenSpec.ofChange patternMatchesBuiltWrong)

/-- 'cspchecklaw12.PatternRebuilds': WHATEVER THE INPUT: true; the input reads as it did. -/
def patternRebuildsSpec : ChangeSpec := { name := "patternRebuilds", fn := fun _ => fun
  | [d] => { results := [.lit (.bool true)], args := [d] }
  | _ => none }
def patternRebuildsRow : OpenClaim := { program := "ytdifpemohdnolaagreat", sum := "fb16d6a0a4580c0e334013ed43c8cb70ba9bb2eef8f327f264cf24892cfdb27b", func := "cspcheck/cspchecklaw12.PatternRebuilds", spec := "patternRebuilds", unfollowed := true, recurses := true, apart := false }
def PatternRebuildsSaid : Prop := patternRebuildsRow.holds Tryz.pinned (OpenSpec.ofChange patternRebuildsSpec)

/-- ITS FALSE NEIGHBOUR: 'it returns false'. Refute it at one input. -/
def patternRebuildsWrong : ChangeSpec := { name := "patternRebuilds", fn := fun _ => fun
  | [d] => { results := [.lit (.bool false)], args := [d] }
  | _ => none }
def PatternRebuildsWrongFalsely : Prop := patternRebuildsRow.holds Tryz.pinned (OpenSpec.ofChange patternRebuildsWrong)

/-- 'cspchecklaw12.PatternIrrefutable': WHATEVER THE INPUT: true; the input reads as it did. -/
def patternIrrefutableSpec : ChangeSpec := { name := "patternIrrefutable", fn := fun _ => fun
  | [d1, d2] => { results := [.lit (.bool true)], args := [d1, d2] }
  | _ => none }
def patternIrrefutableRow : OpenClaim := { program := "ytdifpemohdnolaagreat", sum := "fb16d6a0a4580c0e334013ed43c8cb70ba9bb2eef8f327f264cf24892cfdb27b", func := "cspcheck/cspchecklaw12.PatternIrrefutable", spec := "patternIrrefutable", unfollowed := true, recurses := true, apart := false }
def PatternIrrefutableSaid : Prop := patternIrrefutableRow.holds Tryz.pinned (OpenSpec.ofChange patternIrrefutableSpec)

/-- ITS FALSE NEIGHBOUR: 'it returns false'. Refute it at one input. -/
def patternIrrefutableWrong : ChangeSpec := { name := "patternIrrefutable", fn := fun _ => fun
  | [d1, d2] => { results := [.lit (.bool false)], args := [d1, d2] }
  | _ => none }
def PatternIrrefutableWrongFalsely : Prop := patternIrrefutableRow.holds Tryz.pinned (OpenSpec.ofChange patternIrrefutableWrong)

/-- 'cspchecklaw12.PatternSplits': WHATEVER THE INPUT: true; the input reads as it did. -/
def patternSplitsSpec : ChangeSpec := { name := "patternSplits", fn := fun _ => fun
  | [d1, d2, d3] => { results := [.lit (.bool true)], args := [d1, d2, d3] }
  | _ => none }
def patternSplitsRow : OpenClaim := { program := "ytdifpemohdnolaagreat", sum := "fb16d6a0a4580c0e334013ed43c8cb70ba9bb2eef8f327f264cf24892cfdb27b", func := "cspcheck/cspchecklaw12.PatternSplits", spec := "patternSplits", unfollowed := true, recurses := true, apart := false }
def PatternSplitsSaid : Prop := patternSplitsRow.holds Tryz.pinned (OpenSpec.ofChange patternSplitsSpec)

/-- ITS FALSE NEIGHBOUR: 'it returns false'. Refute it at one input. -/
def patternSplitsWrong : ChangeSpec := { name := "patternSplits", fn := fun _ => fun
  | [d1, d2, d3] => { results := [.lit (.bool false)], args := [d1, d2, d3] }
  | _ => none }
def PatternSplitsWrongFalsely : Prop := patternSplitsRow.holds Tryz.pinned (OpenSpec.ofChange patternSplitsWrong)

/- THE SECOND FORM. 'bulk': how many values and letters a reading holds, each counted each time it is reached (what is shared counts as often as it is met; a slice's spare places count too). A statement '..UptoSaid' is the law's where the arguments, and the package variables that the reading takes, are together of bulk at most 1048576: NARROWER than '..Said'. Prove '..Said' where nothing that the law and all that it calls make is longer than what came in: it says more and counts as full. Else prove '..UptoSaid'. A law counts once. -/
mutual
def uptoBulk {H : Type} : DataW H → Nat
  | .lit (.string bytes) => bytes.length + 1
  | .lit _ => 1
  | .nil => 1
  | .ptr d => uptoBulk d + 1
  | .slice elems spare => uptoBulkAll elems + uptoBulkAll spare + 1
  | .agg parts => uptoBulkAll parts + 1
  | .iface _ d => uptoBulk d + 1
  | .map entries => uptoBulkEntries entries + 1
  | .held _ => 1
def uptoBulkAll {H : Type} : List (DataW H) → Nat
  | [] => 0
  | d :: r => uptoBulk d + uptoBulkAll r
def uptoBulkEntries {H : Type} : List (Lit × DataW H) → Nat
  | [] => 0
  | x :: r => uptoBulkEntry x + uptoBulkEntries r
def uptoBulkEntry {H : Type} : Lit × DataW H → Nat
  | (.string bytes, d) => bytes.length + uptoBulk d + 1
  | (_, d) => uptoBulk d + 1
 end
def uptoSmall : (H : Type) → List (DataW H) → Bool := fun _ ds => decide (uptoBulkAll ds ≤ 1048576)
def OpenSpec.upto (s : _root_.Go.ChangeSpec) : _root_.Go.OpenSpec := { _root_.Go.OpenSpec.ofChange s with cond := some uptoSmall }

/-- 'cspchecklaw12.PatternAgrees', WHERE WHAT IT READS IS OF BULK AT MOST 1048576: true; the input reads as it did. -/
def patternAgreesUptoRow : OpenClaim := { program := "ytdifpemohdnolaagreat", sum := "fb16d6a0a4580c0e334013ed43c8cb70ba9bb2eef8f327f264cf24892cfdb27b", func := "cspcheck/cspchecklaw12.PatternAgrees", spec := "patternAgrees", unfollowed := true, recurses := true, apart := false, narrowed := true }
def PatternAgreesUptoSaid : Prop := patternAgreesUptoRow.holds Tryz.pinned (OpenSpec.upto patternAgreesSpec)

/-- 'cspchecklaw12.PatternMatchesBuilt', WHERE WHAT IT READS IS OF BULK AT MOST 1048576: true; the input reads as it did. -/
def patternMatchesBuiltUptoRow : OpenClaim := { program := "ytdifpemohdnolaagreat", sum := "fb16d6a0a4580c0e334013ed43c8cb70ba9bb2eef8f327f264cf24892cfdb27b", func := "cspcheck/cspchecklaw12.PatternMatchesBuilt", spec := "patternMatchesBuilt", unfollowed := true, recurses := true, apart := false, narrowed := true }
def PatternMatchesBuiltUptoSaid : Prop := patternMatchesBuiltUptoRow.holds Tryz.pinned (OpenSpec.upto patternMatchesBuiltSpec)

/-- 'cspchecklaw12.PatternRebuilds', WHERE WHAT IT READS IS OF BULK AT MOST 1048576: true; the input reads as it did. -/
def patternRebuildsUptoRow : OpenClaim := { program := "ytdifpemohdnolaagreat", sum := "fb16d6a0a4580c0e334013ed43c8cb70ba9bb2eef8f327f264cf24892cfdb27b", func := "cspcheck/cspchecklaw12.PatternRebuilds", spec := "patternRebuilds", unfollowed := true, recurses := true, apart := false, narrowed := true }
def PatternRebuildsUptoSaid : Prop := patternRebuildsUptoRow.holds Tryz.pinned (OpenSpec.upto patternRebuildsSpec)

/-- 'cspchecklaw12.PatternIrrefutable', WHERE WHAT IT READS IS OF BULK AT MOST 1048576: true; the input reads as it did. -/
def patternIrrefutableUptoRow : OpenClaim := { program := "ytdifpemohdnolaagreat", sum := "fb16d6a0a4580c0e334013ed43c8cb70ba9bb2eef8f327f264cf24892cfdb27b", func := "cspcheck/cspchecklaw12.PatternIrrefutable", spec := "patternIrrefutable", unfollowed := true, recurses := true, apart := false, narrowed := true }
def PatternIrrefutableUptoSaid : Prop := patternIrrefutableUptoRow.holds Tryz.pinned (OpenSpec.upto patternIrrefutableSpec)

/-- 'cspchecklaw12.PatternSplits', WHERE WHAT IT READS IS OF BULK AT MOST 1048576: true; the input reads as it did. -/
def patternSplitsUptoRow : OpenClaim := { program := "ytdifpemohdnolaagreat", sum := "fb16d6a0a4580c0e334013ed43c8cb70ba9bb2eef8f327f264cf24892cfdb27b", func := "cspcheck/cspchecklaw12.PatternSplits", spec := "patternSplits", unfollowed := true, recurses := true, apart := false, narrowed := true }
def PatternSplitsUptoSaid : Prop := patternSplitsUptoRow.holds Tryz.pinned (OpenSpec.upto patternSplitsSpec)

end Rows
end Go.Proofs.YtdifpemohdnolaaGreat
