/-
  DERIVED. GIVEN WITH THE SEED: THE CARDS: each row of YtcnanbmbdajcaabDoorRows.lean that lists a variable, with what it lists TIED to the program's text (the seventh form; the later family's looks); each row that meets fmt, with fmt's text TOLD by the authors' own Lean function (tested against real Go, not proved from fmt's source: count such statements apart). THE CARD IS WHAT COUNTS. Prove the row's statement (the work); the ties are given (YtcnanbmbdajcaabDoorTie.lean); close each card by the builder's one call (the guide's Derived/Test/ToyasCard.lean, 'card_holds'). Laid BY PROGRAM, IN A SANDBOX (cutbox-door.mjs). By AI agents, Wed Nov 11 2026. No macro, syntax, notation, axiom, sorry.
-/
import Derived.Test.YtcnanbmbdajcaabDoorRows
import GoSem.ClaimSeven
namespace Go.Proofs.YtcnanbmbdajcaabDoor
namespace Rows

/-- THE TIED CARD OF 'cspchecklaw9.ValueNesting'. -/
def valueNestingCard : Claim7 := { stood := { row := valueNestingRow, standIns := [], harness := (true, "e728e7cc9414a6b8d556754343556f9f4e9fd019c343880897e17820e002bc2c"), looks := false }, kinds := [], alts := [], laidByText := true, laidKinds := [.data, .data, .data], laidTests := true, laidLooks := .later }
def ValueNestingCardSaid : Prop := Claim7.holds Tryd.pinned (.plain (OpenSpec.ofChange valueNestingSpec)) valueNestingCard

/-- THE SECOND FORM's CARD OF 'cspchecklaw9.ValueNesting'. -/
def valueNestingUptoCard : Claim7 := { stood := { row := valueNestingUptoRow, standIns := [], harness := (true, "e728e7cc9414a6b8d556754343556f9f4e9fd019c343880897e17820e002bc2c"), looks := false }, kinds := [], alts := [], laidByText := true, laidKinds := [.data, .data, .data], laidTests := true, laidLooks := .later }
def ValueNestingUptoCardSaid : Prop := Claim7.holds Tryd.pinned (.plain (OpenSpec.upto valueNestingSpec)) valueNestingUptoCard
end Rows
end Go.Proofs.YtcnanbmbdajcaabDoor
