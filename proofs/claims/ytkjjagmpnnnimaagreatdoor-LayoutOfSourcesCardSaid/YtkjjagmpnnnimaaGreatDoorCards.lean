/-
  DERIVED. GIVEN WITH THE SEED: THE CARDS: each row of YtkjjagmpnnnimaaGreatDoorRows.lean that lists a variable, with what it lists TIED to the program's text (the seventh form; the later family's looks); each row that meets fmt, with fmt's text TOLD by the authors' own Lean function (tested against real Go, not proved from fmt's source: count such statements apart). THE CARD IS WHAT COUNTS. Prove the row's statement (the work); the ties are given (YtkjjagmpnnnimaaGreatDoorTie.lean); close each card by the builder's one call (the guide's Derived/Test/ToyasCard.lean, 'card_holds'). Laid BY PROGRAM, IN A SANDBOX (cutbox-door.mjs). By AI agents, Wed Nov 11 2026. No macro, syntax, notation, axiom, sorry.
-/
import Derived.Test.YtkjjagmpnnnimaaGreatDoorRows
import GoSem.ClaimSeven
namespace Go.Proofs.YtkjjagmpnnnimaaGreatDoor
namespace Rows

/-- THE TIED CARD OF 'cspchecklaw2.LayoutOfSources'. -/
def layoutOfSourcesCard : Claim7 := { stood := { row := layoutOfSourcesRow, standIns := [], harness := (true, "40e6449d00acc13da15d3379a7836262bdac6b6484421c3a630ad27eef2fbfc7"), looks := true }, kinds := [], alts := [], laidByText := true, laidKinds := [.data, .data, .data, .sentinel, .sentinel], laidTests := true, laidLooks := .later }
def LayoutOfSourcesCardSaid : Prop := Claim7.holds Tryz.pinned (.plain (OpenSpec.ofChange layoutOfSourcesSpec)) layoutOfSourcesCard

/-- THE SECOND FORM's CARD OF 'cspchecklaw2.LayoutOfSources'. -/
def layoutOfSourcesUptoCard : Claim7 := { stood := { row := layoutOfSourcesUptoRow, standIns := [], harness := (true, "40e6449d00acc13da15d3379a7836262bdac6b6484421c3a630ad27eef2fbfc7"), looks := true }, kinds := [], alts := [], laidByText := true, laidKinds := [.data, .data, .data, .sentinel, .sentinel], laidTests := true, laidLooks := .later }
def LayoutOfSourcesUptoCardSaid : Prop := Claim7.holds Tryz.pinned (.plain (OpenSpec.upto layoutOfSourcesSpec)) layoutOfSourcesUptoCard
end Rows
end Go.Proofs.YtkjjagmpnnnimaaGreatDoor
