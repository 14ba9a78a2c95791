/-
  DERIVED. GIVEN WITH THE SEED: THE CARDS: each row of YtcnanbmbdajcaaaDoorRows.lean that lists a variable, with what it lists TIED to the program's text (the seventh form; the later family's looks); each row that meets fmt, with fmt's text TOLD by the authors' own Lean function (tested against real Go, not proved from fmt's source: count such statements apart). THE CARD IS WHAT COUNTS. Prove the row's statement (the work); the ties are given (YtcnanbmbdajcaaaDoorTie.lean); close each card by the builder's one call (the guide's Derived/Test/ToyasCard.lean, 'card_holds'). Laid BY PROGRAM, IN A SANDBOX (cutbox-door.mjs). By AI agents, Wed Nov 11 2026. No macro, syntax, notation, axiom, sorry.
-/
import Derived.Test.YtcnanbmbdajcaaaDoorRows
import GoSem.ClaimSeven
namespace Go.Proofs.YtcnanbmbdajcaaaDoor
namespace Rows

/-- THE TIED CARD OF 'cspchecklaw7.TypesDescribe'. -/
def typesDescribeCard : Claim7 := { stood := { row := typesDescribeRow, standIns := [], harness := (true, "b0240547e5059e76db12695c2ed6a36fb3abf5b5a0fbfc1ec202115464a9079e"), looks := false }, kinds := [], alts := [], laidByText := true, laidKinds := [.data, .data, .data], laidTests := true, laidLooks := .later }
def TypesDescribeCardSaid : Prop := Claim7.holds Tryd.pinned (.plain (OpenSpec.ofChange typesDescribeSpec)) typesDescribeCard

/-- THE TIED CARD OF 'cspchecklaw7.TypesMatch'. -/
def typesMatchCard : Claim7 := { stood := { row := typesMatchRow, standIns := [], harness := (true, "b0240547e5059e76db12695c2ed6a36fb3abf5b5a0fbfc1ec202115464a9079e"), looks := false }, kinds := [], alts := [], laidByText := true, laidKinds := [.data, .data, .data], laidTests := true, laidLooks := .later }
def TypesMatchCardSaid : Prop := Claim7.holds Tryd.pinned (.plain (OpenSpec.ofChange typesMatchSpec)) typesMatchCard

/-- THE SECOND FORM's CARD OF 'cspchecklaw7.TypesDescribe'. -/
def typesDescribeUptoCard : Claim7 := { stood := { row := typesDescribeUptoRow, standIns := [], harness := (true, "b0240547e5059e76db12695c2ed6a36fb3abf5b5a0fbfc1ec202115464a9079e"), looks := false }, kinds := [], alts := [], laidByText := true, laidKinds := [.data, .data, .data], laidTests := true, laidLooks := .later }
def TypesDescribeUptoCardSaid : Prop := Claim7.holds Tryd.pinned (.plain (OpenSpec.upto typesDescribeSpec)) typesDescribeUptoCard

/-- THE SECOND FORM's CARD OF 'cspchecklaw7.TypesMatch'. -/
def typesMatchUptoCard : Claim7 := { stood := { row := typesMatchUptoRow, standIns := [], harness := (true, "b0240547e5059e76db12695c2ed6a36fb3abf5b5a0fbfc1ec202115464a9079e"), looks := false }, kinds := [], alts := [], laidByText := true, laidKinds := [.data, .data, .data], laidTests := true, laidLooks := .later }
def TypesMatchUptoCardSaid : Prop := Claim7.holds Tryd.pinned (.plain (OpenSpec.upto typesMatchSpec)) typesMatchUptoCard
end Rows
end Go.Proofs.YtcnanbmbdajcaaaDoor
