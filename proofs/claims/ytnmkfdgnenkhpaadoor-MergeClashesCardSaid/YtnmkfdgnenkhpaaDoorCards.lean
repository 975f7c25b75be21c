/-
  DERIVED. GIVEN WITH THE SEED: THE CARDS: each row of YtnmkfdgnenkhpaaDoorRows.lean that lists a variable, with what it lists TIED to the program's text (the seventh form; the later family's looks); each row that meets fmt, with fmt's text TOLD by the authors' own Lean function (tested against real Go, not proved from fmt's source: count such statements apart). THE CARD IS WHAT COUNTS. Prove the row's statement (the work); the ties are given (YtnmkfdgnenkhpaaDoorTie.lean); close each card by the builder's one call (the guide's Derived/Test/ToyasCard.lean, 'card_holds'). Laid BY PROGRAM, IN A SANDBOX (cutbox-door.mjs). By AI agents, Wed Nov 11 2026. No macro, syntax, notation, axiom, sorry.
-/
import Derived.Test.YtnmkfdgnenkhpaaDoorRows
import GoSem.ClaimSeven
namespace Go.Proofs.YtnmkfdgnenkhpaaDoor
namespace Rows

/-- THE TIED CARD OF 'inlaylaw11.MergeOrder'. -/
def mergeOrderCard : Claim7 := { stood := { row := mergeOrderRow, standIns := [], harness := (true, "de63ec5016c11dc8fd6ca349e490ef8681ce090f3e6054b2d0d4bd82c5c07536"), looks := false }, kinds := [], alts := [], laidByText := true, laidKinds := [.data], laidTests := true, laidLooks := .later }
def MergeOrderCardSaid : Prop := Claim7.holds Tryd.pinned (.plain (OpenSpec.ofChange mergeOrderSpec)) mergeOrderCard

/-- THE TIED CARD OF 'inlaylaw11.MergeClashes'. -/
def mergeClashesCard : Claim7 := { stood := { row := mergeClashesRow, standIns := [], harness := (true, "de63ec5016c11dc8fd6ca349e490ef8681ce090f3e6054b2d0d4bd82c5c07536"), looks := false }, kinds := [], alts := [], laidByText := true, laidKinds := [.data], laidTests := true, laidLooks := .later }
def MergeClashesCardSaid : Prop := Claim7.holds Tryd.pinned (.plain (OpenSpec.ofChange mergeClashesSpec)) mergeClashesCard

/-- THE TIED CARD OF 'inlaylaw11.MergeRefuses'. -/
def mergeRefusesCard : Claim7 := { stood := { row := mergeRefusesRow, standIns := [], harness := (true, "de63ec5016c11dc8fd6ca349e490ef8681ce090f3e6054b2d0d4bd82c5c07536"), looks := false }, kinds := [], alts := [], laidByText := true, laidKinds := [.data], laidTests := true, laidLooks := .later }
def MergeRefusesCardSaid : Prop := Claim7.holds Tryd.pinned (.plain (OpenSpec.ofChange mergeRefusesSpec)) mergeRefusesCard

/-- THE SECOND FORM's CARD OF 'inlaylaw11.MergeOrder'. -/
def mergeOrderUptoCard : Claim7 := { stood := { row := mergeOrderUptoRow, standIns := [], harness := (true, "de63ec5016c11dc8fd6ca349e490ef8681ce090f3e6054b2d0d4bd82c5c07536"), looks := false }, kinds := [], alts := [], laidByText := true, laidKinds := [.data], laidTests := true, laidLooks := .later }
def MergeOrderUptoCardSaid : Prop := Claim7.holds Tryd.pinned (.plain (OpenSpec.upto mergeOrderSpec)) mergeOrderUptoCard

/-- THE SECOND FORM's CARD OF 'inlaylaw11.MergeClashes'. -/
def mergeClashesUptoCard : Claim7 := { stood := { row := mergeClashesUptoRow, standIns := [], harness := (true, "de63ec5016c11dc8fd6ca349e490ef8681ce090f3e6054b2d0d4bd82c5c07536"), looks := false }, kinds := [], alts := [], laidByText := true, laidKinds := [.data], laidTests := true, laidLooks := .later }
def MergeClashesUptoCardSaid : Prop := Claim7.holds Tryd.pinned (.plain (OpenSpec.upto mergeClashesSpec)) mergeClashesUptoCard

/-- THE SECOND FORM's CARD OF 'inlaylaw11.MergeRefuses'. -/
def mergeRefusesUptoCard : Claim7 := { stood := { row := mergeRefusesUptoRow, standIns := [], harness := (true, "de63ec5016c11dc8fd6ca349e490ef8681ce090f3e6054b2d0d4bd82c5c07536"), looks := false }, kinds := [], alts := [], laidByText := true, laidKinds := [.data], laidTests := true, laidLooks := .later }
def MergeRefusesUptoCardSaid : Prop := Claim7.holds Tryd.pinned (.plain (OpenSpec.upto mergeRefusesSpec)) mergeRefusesUptoCard
end Rows
end Go.Proofs.YtnmkfdgnenkhpaaDoor
