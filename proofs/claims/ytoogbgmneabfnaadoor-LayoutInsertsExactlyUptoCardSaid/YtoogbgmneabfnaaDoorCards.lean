/-
  DERIVED. GIVEN WITH THE SEED: THE CARDS: each row of YtoogbgmneabfnaaDoorRows.lean that lists a variable, with what it lists TIED to the program's text (the seventh form; the later family's looks); each row that meets fmt, with fmt's text TOLD by the authors' own Lean function (tested against real Go, not proved from fmt's source: count such statements apart). THE CARD IS WHAT COUNTS. Prove the row's statement (the work); the ties are given (YtoogbgmneabfnaaDoorTie.lean); close each card by the builder's one call (the guide's Derived/Test/ToyasCard.lean, 'card_holds'). Laid BY PROGRAM, IN A SANDBOX (cutbox-door.mjs). By AI agents, Wed Nov 11 2026. No macro, syntax, notation, axiom, sorry.
-/
import Derived.Test.YtoogbgmneabfnaaDoorRows
import GoSem.ClaimSeven
namespace Go.Proofs.YtoogbgmneabfnaaDoor
namespace Rows

/-- THE TIED CARD OF 'cspchecklaw2.LayoutInsertsExactly'. -/
def layoutInsertsExactlyCard : Claim7 := { stood := { row := layoutInsertsExactlyRow, standIns := [], harness := (true, "af7d159896fdf3f02932ed3ef0f26f90ac1f8e0d80e917b80e6c585f38ce2e13"), looks := true }, kinds := [], alts := [], laidByText := true, laidKinds := [.data, .data, .data, .sentinel, .sentinel], laidTests := true, laidLooks := .later }
def LayoutInsertsExactlyCardSaid : Prop := Claim7.holds Tryd.pinned (.plain (OpenSpec.ofChange layoutInsertsExactlySpec)) layoutInsertsExactlyCard

/-- THE SECOND FORM's CARD OF 'cspchecklaw2.LayoutInsertsExactly'. -/
def layoutInsertsExactlyUptoCard : Claim7 := { stood := { row := layoutInsertsExactlyUptoRow, standIns := [], harness := (true, "af7d159896fdf3f02932ed3ef0f26f90ac1f8e0d80e917b80e6c585f38ce2e13"), looks := true }, kinds := [], alts := [], laidByText := true, laidKinds := [.data, .data, .data, .sentinel, .sentinel], laidTests := true, laidLooks := .later }
def LayoutInsertsExactlyUptoCardSaid : Prop := Claim7.holds Tryd.pinned (.plain (OpenSpec.upto layoutInsertsExactlySpec)) layoutInsertsExactlyUptoCard
end Rows
end Go.Proofs.YtoogbgmneabfnaaDoor
