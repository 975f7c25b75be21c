/-
  DERIVED. GIVEN WITH THE SEED: THE CARDS: each row of YtdeacfammdjajaaGreatDoorRows.lean that lists a variable, with what it lists TIED to the program's text (the seventh form; the later family's looks); each row that meets fmt, with fmt's text TOLD by the authors' own Lean function (tested against real Go, not proved from fmt's source: count such statements apart). THE CARD IS WHAT COUNTS. Prove the row's statement (the work); the ties are given (YtdeacfammdjajaaGreatDoorTie.lean); close each card by the builder's one call (the guide's Derived/Test/ToyasCard.lean, 'card_holds'). Laid BY PROGRAM, IN A SANDBOX (cutbox-door.mjs). By AI agents, Wed Nov 11 2026. No macro, syntax, notation, axiom, sorry.
-/
import Derived.Test.YtdeacfammdjajaaGreatDoorRows
import GoSem.ClaimSeven
namespace Go.Proofs.YtdeacfammdjajaaGreatDoor
namespace Rows

/-- THE TIED CARD OF 'inlaylaw11.MergeMatchesReference'. -/
def mergeMatchesReferenceCard : Claim7 := { stood := { row := mergeMatchesReferenceRow, standIns := [], harness := (true, "adcf7766dab46e28a1aed2023334088a0992e47de283f2dcc8d4e1564c562982"), looks := false }, kinds := [], alts := [], laidByText := true, laidKinds := [.data], laidTests := true, laidLooks := .later }
def MergeMatchesReferenceCardSaid : Prop := Claim7.holds Tryz.pinned (.plain (OpenSpec.ofChange mergeMatchesReferenceSpec)) mergeMatchesReferenceCard

/-- THE TIED CARD OF 'inlaylaw12.SplitSections'. -/
def splitSectionsCard : Claim7 := { stood := { row := splitSectionsRow, standIns := [], harness := (true, "adcf7766dab46e28a1aed2023334088a0992e47de283f2dcc8d4e1564c562982"), looks := false }, kinds := [], alts := [], laidByText := true, laidKinds := [.data, .data], laidTests := true, laidLooks := .later }
def SplitSectionsCardSaid : Prop := Claim7.holds Tryz.pinned (.plain (OpenSpec.ofChange splitSectionsSpec)) splitSectionsCard

/-- THE TIED CARD OF 'inlaylaw12.SplitSectors'. -/
def splitSectorsCard : Claim7 := { stood := { row := splitSectorsRow, standIns := [], harness := (true, "adcf7766dab46e28a1aed2023334088a0992e47de283f2dcc8d4e1564c562982"), looks := false }, kinds := [], alts := [], laidByText := true, laidKinds := [.data, .data], laidTests := true, laidLooks := .later }
def SplitSectorsCardSaid : Prop := Claim7.holds Tryz.pinned (.plain (OpenSpec.ofChange splitSectorsSpec)) splitSectorsCard

/-- THE TIED CARD OF 'inlaylaw12.SplitJoins'. -/
def splitJoinsCard : Claim7 := { stood := { row := splitJoinsRow, standIns := [], harness := (true, "adcf7766dab46e28a1aed2023334088a0992e47de283f2dcc8d4e1564c562982"), looks := false }, kinds := [], alts := [], laidByText := true, laidKinds := [.data, .data], laidTests := true, laidLooks := .later }
def SplitJoinsCardSaid : Prop := Claim7.holds Tryz.pinned (.plain (OpenSpec.ofChange splitJoinsSpec)) splitJoinsCard

/-- THE SECOND FORM's CARD OF 'inlaylaw11.MergeMatchesReference'. -/
def mergeMatchesReferenceUptoCard : Claim7 := { stood := { row := mergeMatchesReferenceUptoRow, standIns := [], harness := (true, "adcf7766dab46e28a1aed2023334088a0992e47de283f2dcc8d4e1564c562982"), looks := false }, kinds := [], alts := [], laidByText := true, laidKinds := [.data], laidTests := true, laidLooks := .later }
def MergeMatchesReferenceUptoCardSaid : Prop := Claim7.holds Tryz.pinned (.plain (OpenSpec.upto mergeMatchesReferenceSpec)) mergeMatchesReferenceUptoCard

/-- THE SECOND FORM's CARD OF 'inlaylaw12.SplitSections'. -/
def splitSectionsUptoCard : Claim7 := { stood := { row := splitSectionsUptoRow, standIns := [], harness := (true, "adcf7766dab46e28a1aed2023334088a0992e47de283f2dcc8d4e1564c562982"), looks := false }, kinds := [], alts := [], laidByText := true, laidKinds := [.data, .data], laidTests := true, laidLooks := .later }
def SplitSectionsUptoCardSaid : Prop := Claim7.holds Tryz.pinned (.plain (OpenSpec.upto splitSectionsSpec)) splitSectionsUptoCard

/-- THE SECOND FORM's CARD OF 'inlaylaw12.SplitSectors'. -/
def splitSectorsUptoCard : Claim7 := { stood := { row := splitSectorsUptoRow, standIns := [], harness := (true, "adcf7766dab46e28a1aed2023334088a0992e47de283f2dcc8d4e1564c562982"), looks := false }, kinds := [], alts := [], laidByText := true, laidKinds := [.data, .data], laidTests := true, laidLooks := .later }
def SplitSectorsUptoCardSaid : Prop := Claim7.holds Tryz.pinned (.plain (OpenSpec.upto splitSectorsSpec)) splitSectorsUptoCard

/-- THE SECOND FORM's CARD OF 'inlaylaw12.SplitJoins'. -/
def splitJoinsUptoCard : Claim7 := { stood := { row := splitJoinsUptoRow, standIns := [], harness := (true, "adcf7766dab46e28a1aed2023334088a0992e47de283f2dcc8d4e1564c562982"), looks := false }, kinds := [], alts := [], laidByText := true, laidKinds := [.data, .data], laidTests := true, laidLooks := .later }
def SplitJoinsUptoCardSaid : Prop := Claim7.holds Tryz.pinned (.plain (OpenSpec.upto splitJoinsSpec)) splitJoinsUptoCard
end Rows
end Go.Proofs.YtdeacfammdjajaaGreatDoor
