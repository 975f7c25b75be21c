/-
  DERIVED. GIVEN WITH THE SEED: THE CARDS: each row of YticpkibnhakgbaaDoorRows.lean that lists a variable, with what it lists TIED to the program's text (the seventh form; the later family's looks); each row that meets fmt, with fmt's text TOLD by the authors' own Lean function (tested against real Go, not proved from fmt's source: count such statements apart). THE CARD IS WHAT COUNTS. Prove the row's statement (the work); the ties are given (YticpkibnhakgbaaDoorTie.lean); close each card by the builder's one call (the guide's Derived/Test/ToyasCard.lean, 'card_holds'). Laid BY PROGRAM, IN A SANDBOX (cutbox-door.mjs). By AI agents, Wed Nov 11 2026. No macro, syntax, notation, axiom, sorry.
-/
import Derived.Test.YticpkibnhakgbaaDoorRows
import GoSem.ClaimSeven
namespace Go.Proofs.YticpkibnhakgbaaDoor
namespace Rows

/-- THE TIED CARD OF 'inlaylaw09.ComposeMatchesReference'. -/
def composeMatchesReferenceCard : Claim7 := { stood := { row := composeMatchesReferenceRow, standIns := [], harness := (true, "6da471fe7ce76add47b87fd35003daad0a663b4b8f5abc1c9b0046e1a463ccd5"), looks := false }, kinds := [], alts := [], laidByText := true, laidKinds := [.data], laidTests := true, laidLooks := .later }
def ComposeMatchesReferenceCardSaid : Prop := Claim7.holds Tryd.pinned (.plain (OpenSpec.ofChange composeMatchesReferenceSpec)) composeMatchesReferenceCard

/-- THE TIED CARD OF 'inlaylaw09.ComposeGroups'. -/
def composeGroupsCard : Claim7 := { stood := { row := composeGroupsRow, standIns := [], harness := (true, "6da471fe7ce76add47b87fd35003daad0a663b4b8f5abc1c9b0046e1a463ccd5"), looks := false }, kinds := [], alts := [], laidByText := true, laidKinds := [.data], laidTests := true, laidLooks := .later }
def ComposeGroupsCardSaid : Prop := Claim7.holds Tryd.pinned (.plain (OpenSpec.ofChange composeGroupsSpec)) composeGroupsCard

/-- THE TIED CARD OF 'inlaylaw09.ComposeWhole'. -/
def composeWholeCard : Claim7 := { stood := { row := composeWholeRow, standIns := [], harness := (true, "6da471fe7ce76add47b87fd35003daad0a663b4b8f5abc1c9b0046e1a463ccd5"), looks := false }, kinds := [], alts := [], laidByText := true, laidKinds := [.data], laidTests := true, laidLooks := .later }
def ComposeWholeCardSaid : Prop := Claim7.holds Tryd.pinned (.plain (OpenSpec.ofChange composeWholeSpec)) composeWholeCard

/-- THE TIED CARD OF 'inlaylaw09.ComposeLeast'. -/
def composeLeastCard : Claim7 := { stood := { row := composeLeastRow, standIns := [], harness := (true, "6da471fe7ce76add47b87fd35003daad0a663b4b8f5abc1c9b0046e1a463ccd5"), looks := false }, kinds := [], alts := [], laidByText := true, laidKinds := [.data], laidTests := true, laidLooks := .later }
def ComposeLeastCardSaid : Prop := Claim7.holds Tryd.pinned (.plain (OpenSpec.ofChange composeLeastSpec)) composeLeastCard

/-- THE TIED CARD OF 'inlaylaw09.ComposeThrough'. -/
def composeThroughCard : Claim7 := { stood := { row := composeThroughRow, standIns := [], harness := (true, "6da471fe7ce76add47b87fd35003daad0a663b4b8f5abc1c9b0046e1a463ccd5"), looks := false }, kinds := [], alts := [], laidByText := true, laidKinds := [.data], laidTests := true, laidLooks := .later }
def ComposeThroughCardSaid : Prop := Claim7.holds Tryd.pinned (.plain (OpenSpec.ofChange composeThroughSpec)) composeThroughCard

/-- THE TIED CARD OF 'inlaylaw09.ComposeRefuses'. -/
def composeRefusesCard : Claim7 := { stood := { row := composeRefusesRow, standIns := [], harness := (true, "6da471fe7ce76add47b87fd35003daad0a663b4b8f5abc1c9b0046e1a463ccd5"), looks := false }, kinds := [], alts := [], laidByText := true, laidKinds := [.data], laidTests := true, laidLooks := .later }
def ComposeRefusesCardSaid : Prop := Claim7.holds Tryd.pinned (.plain (OpenSpec.ofChange composeRefusesSpec)) composeRefusesCard

/-- THE SECOND FORM's CARD OF 'inlaylaw09.ComposeMatchesReference'. -/
def composeMatchesReferenceUptoCard : Claim7 := { stood := { row := composeMatchesReferenceUptoRow, standIns := [], harness := (true, "6da471fe7ce76add47b87fd35003daad0a663b4b8f5abc1c9b0046e1a463ccd5"), looks := false }, kinds := [], alts := [], laidByText := true, laidKinds := [.data], laidTests := true, laidLooks := .later }
def ComposeMatchesReferenceUptoCardSaid : Prop := Claim7.holds Tryd.pinned (.plain (OpenSpec.upto composeMatchesReferenceSpec)) composeMatchesReferenceUptoCard

/-- THE SECOND FORM's CARD OF 'inlaylaw09.ComposeGroups'. -/
def composeGroupsUptoCard : Claim7 := { stood := { row := composeGroupsUptoRow, standIns := [], harness := (true, "6da471fe7ce76add47b87fd35003daad0a663b4b8f5abc1c9b0046e1a463ccd5"), looks := false }, kinds := [], alts := [], laidByText := true, laidKinds := [.data], laidTests := true, laidLooks := .later }
def ComposeGroupsUptoCardSaid : Prop := Claim7.holds Tryd.pinned (.plain (OpenSpec.upto composeGroupsSpec)) composeGroupsUptoCard

/-- THE SECOND FORM's CARD OF 'inlaylaw09.ComposeWhole'. -/
def composeWholeUptoCard : Claim7 := { stood := { row := composeWholeUptoRow, standIns := [], harness := (true, "6da471fe7ce76add47b87fd35003daad0a663b4b8f5abc1c9b0046e1a463ccd5"), looks := false }, kinds := [], alts := [], laidByText := true, laidKinds := [.data], laidTests := true, laidLooks := .later }
def ComposeWholeUptoCardSaid : Prop := Claim7.holds Tryd.pinned (.plain (OpenSpec.upto composeWholeSpec)) composeWholeUptoCard

/-- THE SECOND FORM's CARD OF 'inlaylaw09.ComposeLeast'. -/
def composeLeastUptoCard : Claim7 := { stood := { row := composeLeastUptoRow, standIns := [], harness := (true, "6da471fe7ce76add47b87fd35003daad0a663b4b8f5abc1c9b0046e1a463ccd5"), looks := false }, kinds := [], alts := [], laidByText := true, laidKinds := [.data], laidTests := true, laidLooks := .later }
def ComposeLeastUptoCardSaid : Prop := Claim7.holds Tryd.pinned (.plain (OpenSpec.upto composeLeastSpec)) composeLeastUptoCard

/-- THE SECOND FORM's CARD OF 'inlaylaw09.ComposeThrough'. -/
def composeThroughUptoCard : Claim7 := { stood := { row := composeThroughUptoRow, standIns := [], harness := (true, "6da471fe7ce76add47b87fd35003daad0a663b4b8f5abc1c9b0046e1a463ccd5"), looks := false }, kinds := [], alts := [], laidByText := true, laidKinds := [.data], laidTests := true, laidLooks := .later }
def ComposeThroughUptoCardSaid : Prop := Claim7.holds Tryd.pinned (.plain (OpenSpec.upto composeThroughSpec)) composeThroughUptoCard

/-- THE SECOND FORM's CARD OF 'inlaylaw09.ComposeRefuses'. -/
def composeRefusesUptoCard : Claim7 := { stood := { row := composeRefusesUptoRow, standIns := [], harness := (true, "6da471fe7ce76add47b87fd35003daad0a663b4b8f5abc1c9b0046e1a463ccd5"), looks := false }, kinds := [], alts := [], laidByText := true, laidKinds := [.data], laidTests := true, laidLooks := .later }
def ComposeRefusesUptoCardSaid : Prop := Claim7.holds Tryd.pinned (.plain (OpenSpec.upto composeRefusesSpec)) composeRefusesUptoCard
end Rows
end Go.Proofs.YticpkibnhakgbaaDoor
