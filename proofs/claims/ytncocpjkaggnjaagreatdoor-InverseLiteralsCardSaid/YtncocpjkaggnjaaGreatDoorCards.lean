/-
  DERIVED. GIVEN WITH THE SEED: THE CARDS: each row of YtncocpjkaggnjaaGreatDoorRows.lean that lists a variable, with what it lists TIED to the program's text (the seventh form; the later family's looks); each row that meets fmt, with fmt's text TOLD by the authors' own Lean function (tested against real Go, not proved from fmt's source: count such statements apart). THE CARD IS WHAT COUNTS. Prove the row's statement (the work); the ties are given (YtncocpjkaggnjaaGreatDoorTie.lean); close each card by the builder's one call (the guide's Derived/Test/ToyasCard.lean, 'card_holds'). Laid BY PROGRAM, IN A SANDBOX (cutbox-door.mjs). By AI agents, Wed Nov 11 2026. No macro, syntax, notation, axiom, sorry.
-/
import Derived.Test.YtncocpjkaggnjaaGreatDoorRows
import GoSem.ClaimSeven
namespace Go.Proofs.YtncocpjkaggnjaaGreatDoor
namespace Rows

/-- THE TIED CARD OF 'inlaylaw06.PatchChecks'. -/
def patchChecksCard : Claim7 := { stood := { row := patchChecksRow, standIns := [], harness := (true, "28ec364f5eba793e4f86dd5a94f8ee5cc998b0f674c03482c6c046172a714147"), looks := false }, kinds := [], alts := [], laidByText := true, laidKinds := [.data], laidTests := true, laidLooks := .later }
def PatchChecksCardSaid : Prop := Claim7.holds Tryz.pinned (.plain (OpenSpec.ofChange patchChecksSpec)) patchChecksCard

/-- THE TIED CARD OF 'inlaylaw06.PatchLifted'. -/
def patchLiftedCard : Claim7 := { stood := { row := patchLiftedRow, standIns := [], harness := (true, "28ec364f5eba793e4f86dd5a94f8ee5cc998b0f674c03482c6c046172a714147"), looks := false }, kinds := [], alts := [], laidByText := true, laidKinds := [.data], laidTests := true, laidLooks := .later }
def PatchLiftedCardSaid : Prop := Claim7.holds Tryz.pinned (.plain (OpenSpec.ofChange patchLiftedSpec)) patchLiftedCard

/-- THE TIED CARD OF 'inlaylaw10.InverseMatchesReference'. -/
def inverseMatchesReferenceCard : Claim7 := { stood := { row := inverseMatchesReferenceRow, standIns := [], harness := (true, "28ec364f5eba793e4f86dd5a94f8ee5cc998b0f674c03482c6c046172a714147"), looks := false }, kinds := [], alts := [], laidByText := true, laidKinds := [.data, .data], laidTests := true, laidLooks := .later }
def InverseMatchesReferenceCardSaid : Prop := Claim7.holds Tryz.pinned (.plain (OpenSpec.ofChange inverseMatchesReferenceSpec)) inverseMatchesReferenceCard

/-- THE TIED CARD OF 'inlaylaw10.InverseBack'. -/
def inverseBackCard : Claim7 := { stood := { row := inverseBackRow, standIns := [], harness := (true, "28ec364f5eba793e4f86dd5a94f8ee5cc998b0f674c03482c6c046172a714147"), looks := false }, kinds := [], alts := [], laidByText := true, laidKinds := [.data, .data], laidTests := true, laidLooks := .later }
def InverseBackCardSaid : Prop := Claim7.holds Tryz.pinned (.plain (OpenSpec.ofChange inverseBackSpec)) inverseBackCard

/-- THE TIED CARD OF 'inlaylaw10.InverseCode'. -/
def inverseCodeCard : Claim7 := { stood := { row := inverseCodeRow, standIns := [], harness := (true, "28ec364f5eba793e4f86dd5a94f8ee5cc998b0f674c03482c6c046172a714147"), looks := false }, kinds := [], alts := [], laidByText := true, laidKinds := [.data, .data], laidTests := true, laidLooks := .later }
def InverseCodeCardSaid : Prop := Claim7.holds Tryz.pinned (.plain (OpenSpec.ofChange inverseCodeSpec)) inverseCodeCard

/-- THE TIED CARD OF 'inlaylaw10.InverseLiterals'. -/
def inverseLiteralsCard : Claim7 := { stood := { row := inverseLiteralsRow, standIns := [], harness := (true, "28ec364f5eba793e4f86dd5a94f8ee5cc998b0f674c03482c6c046172a714147"), looks := false }, kinds := [], alts := [], laidByText := true, laidKinds := [.data, .data], laidTests := true, laidLooks := .later }
def InverseLiteralsCardSaid : Prop := Claim7.holds Tryz.pinned (.plain (OpenSpec.ofChange inverseLiteralsSpec)) inverseLiteralsCard

/-- THE TIED CARD OF 'inlaylaw10.InverseTwice'. -/
def inverseTwiceCard : Claim7 := { stood := { row := inverseTwiceRow, standIns := [], harness := (true, "28ec364f5eba793e4f86dd5a94f8ee5cc998b0f674c03482c6c046172a714147"), looks := false }, kinds := [], alts := [], laidByText := true, laidKinds := [.data, .data], laidTests := true, laidLooks := .later }
def InverseTwiceCardSaid : Prop := Claim7.holds Tryz.pinned (.plain (OpenSpec.ofChange inverseTwiceSpec)) inverseTwiceCard

/-- THE SECOND FORM's CARD OF 'inlaylaw06.PatchChecks'. -/
def patchChecksUptoCard : Claim7 := { stood := { row := patchChecksUptoRow, standIns := [], harness := (true, "28ec364f5eba793e4f86dd5a94f8ee5cc998b0f674c03482c6c046172a714147"), looks := false }, kinds := [], alts := [], laidByText := true, laidKinds := [.data], laidTests := true, laidLooks := .later }
def PatchChecksUptoCardSaid : Prop := Claim7.holds Tryz.pinned (.plain (OpenSpec.upto patchChecksSpec)) patchChecksUptoCard

/-- THE SECOND FORM's CARD OF 'inlaylaw06.PatchLifted'. -/
def patchLiftedUptoCard : Claim7 := { stood := { row := patchLiftedUptoRow, standIns := [], harness := (true, "28ec364f5eba793e4f86dd5a94f8ee5cc998b0f674c03482c6c046172a714147"), looks := false }, kinds := [], alts := [], laidByText := true, laidKinds := [.data], laidTests := true, laidLooks := .later }
def PatchLiftedUptoCardSaid : Prop := Claim7.holds Tryz.pinned (.plain (OpenSpec.upto patchLiftedSpec)) patchLiftedUptoCard

/-- THE SECOND FORM's CARD OF 'inlaylaw10.InverseMatchesReference'. -/
def inverseMatchesReferenceUptoCard : Claim7 := { stood := { row := inverseMatchesReferenceUptoRow, standIns := [], harness := (true, "28ec364f5eba793e4f86dd5a94f8ee5cc998b0f674c03482c6c046172a714147"), looks := false }, kinds := [], alts := [], laidByText := true, laidKinds := [.data, .data], laidTests := true, laidLooks := .later }
def InverseMatchesReferenceUptoCardSaid : Prop := Claim7.holds Tryz.pinned (.plain (OpenSpec.upto inverseMatchesReferenceSpec)) inverseMatchesReferenceUptoCard

/-- THE SECOND FORM's CARD OF 'inlaylaw10.InverseBack'. -/
def inverseBackUptoCard : Claim7 := { stood := { row := inverseBackUptoRow, standIns := [], harness := (true, "28ec364f5eba793e4f86dd5a94f8ee5cc998b0f674c03482c6c046172a714147"), looks := false }, kinds := [], alts := [], laidByText := true, laidKinds := [.data, .data], laidTests := true, laidLooks := .later }
def InverseBackUptoCardSaid : Prop := Claim7.holds Tryz.pinned (.plain (OpenSpec.upto inverseBackSpec)) inverseBackUptoCard

/-- THE SECOND FORM's CARD OF 'inlaylaw10.InverseCode'. -/
def inverseCodeUptoCard : Claim7 := { stood := { row := inverseCodeUptoRow, standIns := [], harness := (true, "28ec364f5eba793e4f86dd5a94f8ee5cc998b0f674c03482c6c046172a714147"), looks := false }, kinds := [], alts := [], laidByText := true, laidKinds := [.data, .data], laidTests := true, laidLooks := .later }
def InverseCodeUptoCardSaid : Prop := Claim7.holds Tryz.pinned (.plain (OpenSpec.upto inverseCodeSpec)) inverseCodeUptoCard

/-- THE SECOND FORM's CARD OF 'inlaylaw10.InverseLiterals'. -/
def inverseLiteralsUptoCard : Claim7 := { stood := { row := inverseLiteralsUptoRow, standIns := [], harness := (true, "28ec364f5eba793e4f86dd5a94f8ee5cc998b0f674c03482c6c046172a714147"), looks := false }, kinds := [], alts := [], laidByText := true, laidKinds := [.data, .data], laidTests := true, laidLooks := .later }
def InverseLiteralsUptoCardSaid : Prop := Claim7.holds Tryz.pinned (.plain (OpenSpec.upto inverseLiteralsSpec)) inverseLiteralsUptoCard

/-- THE SECOND FORM's CARD OF 'inlaylaw10.InverseTwice'. -/
def inverseTwiceUptoCard : Claim7 := { stood := { row := inverseTwiceUptoRow, standIns := [], harness := (true, "28ec364f5eba793e4f86dd5a94f8ee5cc998b0f674c03482c6c046172a714147"), looks := false }, kinds := [], alts := [], laidByText := true, laidKinds := [.data, .data], laidTests := true, laidLooks := .later }
def InverseTwiceUptoCardSaid : Prop := Claim7.holds Tryz.pinned (.plain (OpenSpec.upto inverseTwiceSpec)) inverseTwiceUptoCard
end Rows
end Go.Proofs.YtncocpjkaggnjaaGreatDoor
