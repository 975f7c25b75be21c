/-
  DERIVED. GIVEN WITH THE SEED: THE CARDS: each row of YticpkibnhakgbaaGreatDoorRows.lean that lists a variable, with what it lists TIED to the program's text (the seventh form; the later family's looks); each row that meets fmt, with fmt's text TOLD by the authors' own Lean function (tested against real Go, not proved from fmt's source: count such statements apart). THE CARD IS WHAT COUNTS. Prove the row's statement (the work); the ties are given (YticpkibnhakgbaaGreatDoorTie.lean); close each card by the builder's one call (the guide's Derived/Test/ToyasCard.lean, 'card_holds'). Laid BY PROGRAM, IN A SANDBOX (cutbox-door.mjs). By AI agents, Wed Nov 11 2026. No macro, syntax, notation, axiom, sorry.
-/
import Derived.Test.YticpkibnhakgbaaGreatDoorRows
import GoSem.ClaimSeven
namespace Go.Proofs.YticpkibnhakgbaaGreatDoor
namespace Rows

/-- THE TIED CARD OF 'inlaylaw09.ComposeApplies'. -/
def composeAppliesCard : Claim7 := { stood := { row := composeAppliesRow, standIns := [], harness := (true, "eef04e8fa44665dd3e48dfe98a2a594e1e6b75b7ee4b4f0afdb217e45692ba1e"), looks := false }, kinds := [], alts := [], laidByText := true, laidKinds := [.data, .data], laidTests := true, laidLooks := .later }
def ComposeAppliesCardSaid : Prop := Claim7.holds Tryz.pinned (.plain (OpenSpec.ofChange composeAppliesSpec)) composeAppliesCard

/-- THE SECOND FORM's CARD OF 'inlaylaw09.ComposeApplies'. -/
def composeAppliesUptoCard : Claim7 := { stood := { row := composeAppliesUptoRow, standIns := [], harness := (true, "eef04e8fa44665dd3e48dfe98a2a594e1e6b75b7ee4b4f0afdb217e45692ba1e"), looks := false }, kinds := [], alts := [], laidByText := true, laidKinds := [.data, .data], laidTests := true, laidLooks := .later }
def ComposeAppliesUptoCardSaid : Prop := Claim7.holds Tryz.pinned (.plain (OpenSpec.upto composeAppliesSpec)) composeAppliesUptoCard
end Rows
end Go.Proofs.YticpkibnhakgbaaGreatDoor
