/-
  DERIVED. GIVEN WITH THE SEED: THE CARDS: each row of YticicijidlpplaaGreatDoorRows.lean that lists a variable, with what it lists TIED to the program's text (the seventh form; the later family's looks); each row that meets fmt, with fmt's text TOLD by the authors' own Lean function (tested against real Go, not proved from fmt's source: count such statements apart). THE CARD IS WHAT COUNTS. Prove the row's statement (the work); the ties are given (YticicijidlpplaaGreatDoorTie.lean); close each card by the builder's one call (the guide's Derived/Test/ToyasCard.lean, 'card_holds'). Laid BY PROGRAM, IN A SANDBOX (cutbox-door.mjs). By AI agents, Wed Nov 11 2026. No macro, syntax, notation, axiom, sorry.
-/
import Derived.Test.YticicijidlpplaaGreatDoorRows
import GoSem.ClaimSeven
namespace Go.Proofs.YticicijidlpplaaGreatDoor
namespace Rows

/-- THE TIED CARD OF 'cspchecklaw3.SyntaxArity'. -/
def syntaxArityCard : Claim7 := { stood := { row := syntaxArityRow, standIns := [], harness := (true, "beb98428ec408915c792ebb2b86acd25ee4cc0eee6e25049ca0a0fc6cc9f9175"), looks := true }, kinds := [], alts := [], laidByText := true, laidKinds := [.data, .data, .data, .data, .sentinel, .sentinel, .listed, .data, .data, .pinned], laidTests := true, laidLooks := .later }
def SyntaxArityCardSaid : Prop := Claim7.holds Tryz.pinned (.plain (OpenSpec.ofChange syntaxAritySpec)) syntaxArityCard

/-- THE SECOND FORM's CARD OF 'cspchecklaw3.SyntaxArity'. -/
def syntaxArityUptoCard : Claim7 := { stood := { row := syntaxArityUptoRow, standIns := [], harness := (true, "beb98428ec408915c792ebb2b86acd25ee4cc0eee6e25049ca0a0fc6cc9f9175"), looks := true }, kinds := [], alts := [], laidByText := true, laidKinds := [.data, .data, .data, .data, .sentinel, .sentinel, .listed, .data, .data, .pinned], laidTests := true, laidLooks := .later }
def SyntaxArityUptoCardSaid : Prop := Claim7.holds Tryz.pinned (.plain (OpenSpec.upto syntaxAritySpec)) syntaxArityUptoCard
end Rows
end Go.Proofs.YticicijidlpplaaGreatDoor
