/-
  DERIVED. GIVEN WITH THE SEED: THE CARDS: each row of YtkiicobbnllpkaaGreatDoorRows.lean that lists a variable, with what it lists TIED to the program's text (the seventh form; the later family's looks); each row that meets fmt, with fmt's text TOLD by the authors' own Lean function (tested against real Go, not proved from fmt's source: count such statements apart). THE CARD IS WHAT COUNTS. Prove the row's statement (the work); the ties are given (YtkiicobbnllpkaaGreatDoorTie.lean); close each card by the builder's one call (the guide's Derived/Test/ToyasCard.lean, 'card_holds'). Laid BY PROGRAM, IN A SANDBOX (cutbox-door.mjs). By AI agents, Wed Nov 11 2026. No macro, syntax, notation, axiom, sorry.
-/
import Derived.Test.YtkiicobbnllpkaaGreatDoorRows
import GoSem.ClaimSeven
namespace Go.Proofs.YtkiicobbnllpkaaGreatDoor
namespace Rows

/-- THE TIED CARD OF 'inlaylaw08.NormalKeeps'. -/
def normalKeepsCard : Claim7 := { stood := { row := normalKeepsRow, standIns := [], harness := (true, "c06a1eb68e18d96294bb712b220c581a268e4034d653ee0546763d68ecb1a85f"), looks := false }, kinds := [], alts := [], laidByText := true, laidKinds := [.data, .data], laidTests := true, laidLooks := .later }
def NormalKeepsCardSaid : Prop := Claim7.holds Tryz.pinned (.plain (OpenSpec.ofChange normalKeepsSpec)) normalKeepsCard

/-- THE SECOND FORM's CARD OF 'inlaylaw08.NormalKeeps'. -/
def normalKeepsUptoCard : Claim7 := { stood := { row := normalKeepsUptoRow, standIns := [], harness := (true, "c06a1eb68e18d96294bb712b220c581a268e4034d653ee0546763d68ecb1a85f"), looks := false }, kinds := [], alts := [], laidByText := true, laidKinds := [.data, .data], laidTests := true, laidLooks := .later }
def NormalKeepsUptoCardSaid : Prop := Claim7.holds Tryz.pinned (.plain (OpenSpec.upto normalKeepsSpec)) normalKeepsUptoCard
end Rows
end Go.Proofs.YtkiicobbnllpkaaGreatDoor
