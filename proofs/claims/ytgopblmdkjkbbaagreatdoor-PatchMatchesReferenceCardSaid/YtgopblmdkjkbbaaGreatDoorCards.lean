/-
  DERIVED. GIVEN WITH THE SEED: THE CARDS: each row of YtgopblmdkjkbbaaGreatDoorRows.lean that lists a variable, with what it lists TIED to the program's text (the seventh form; the later family's looks); each row that meets fmt, with fmt's text TOLD by the authors' own Lean function (tested against real Go, not proved from fmt's source: count such statements apart). THE CARD IS WHAT COUNTS. Prove the row's statement (the work); the ties are given (YtgopblmdkjkbbaaGreatDoorTie.lean); close each card by the builder's one call (the guide's Derived/Test/ToyasCard.lean, 'card_holds'). Laid BY PROGRAM, IN A SANDBOX (cutbox-door.mjs). By AI agents, Wed Nov 11 2026. No macro, syntax, notation, axiom, sorry.
-/
import Derived.Test.YtgopblmdkjkbbaaGreatDoorRows
import GoSem.ClaimSeven
namespace Go.Proofs.YtgopblmdkjkbbaaGreatDoor
namespace Rows

/-- THE TIED CARD OF 'inlaylaw06.PatchMatchesReference'. -/
def patchMatchesReferenceCard : Claim7 := { stood := { row := patchMatchesReferenceRow, standIns := [], harness := (true, "6aa4773aaf4dca9365ecc93f1717081e92225607ddf1dab6446ad00e985ff6dd"), looks := false }, kinds := [], alts := [], laidByText := true, laidKinds := [.data], laidTests := true, laidLooks := .later }
def PatchMatchesReferenceCardSaid : Prop := Claim7.holds Tryz.pinned (.plain (OpenSpec.ofChange patchMatchesReferenceSpec)) patchMatchesReferenceCard

/-- THE TIED CARD OF 'inlaylaw11.MergeMatchesReference'. -/
def mergeMatchesReferenceCard : Claim7 := { stood := { row := mergeMatchesReferenceRow, standIns := [], harness := (true, "6aa4773aaf4dca9365ecc93f1717081e92225607ddf1dab6446ad00e985ff6dd"), looks := false }, kinds := [], alts := [], laidByText := true, laidKinds := [.data], laidTests := true, laidLooks := .later }
def MergeMatchesReferenceCardSaid : Prop := Claim7.holds Tryz.pinned (.plain (OpenSpec.ofChange mergeMatchesReferenceSpec)) mergeMatchesReferenceCard

/-- THE TIED CARD OF 'inlaylaw11.MergeTouched'. -/
def mergeTouchedCard : Claim7 := { stood := { row := mergeTouchedRow, standIns := [], harness := (true, "6aa4773aaf4dca9365ecc93f1717081e92225607ddf1dab6446ad00e985ff6dd"), looks := false }, kinds := [], alts := [], laidByText := true, laidKinds := [.data, .data], laidTests := true, laidLooks := .later }
def MergeTouchedCardSaid : Prop := Claim7.holds Tryz.pinned (.plain (OpenSpec.ofChange mergeTouchedSpec)) mergeTouchedCard

/-- THE TIED CARD OF 'inlaylaw11.MergeReads'. -/
def mergeReadsCard : Claim7 := { stood := { row := mergeReadsRow, standIns := [], harness := (true, "6aa4773aaf4dca9365ecc93f1717081e92225607ddf1dab6446ad00e985ff6dd"), looks := false }, kinds := [], alts := [], laidByText := true, laidKinds := [.data, .data], laidTests := true, laidLooks := .later }
def MergeReadsCardSaid : Prop := Claim7.holds Tryz.pinned (.plain (OpenSpec.ofChange mergeReadsSpec)) mergeReadsCard

/-- THE TIED CARD OF 'inlaylaw11.MergeBoth'. -/
def mergeBothCard : Claim7 := { stood := { row := mergeBothRow, standIns := [], harness := (true, "6aa4773aaf4dca9365ecc93f1717081e92225607ddf1dab6446ad00e985ff6dd"), looks := false }, kinds := [], alts := [], laidByText := true, laidKinds := [.data, .data], laidTests := true, laidLooks := .later }
def MergeBothCardSaid : Prop := Claim7.holds Tryz.pinned (.plain (OpenSpec.ofChange mergeBothSpec)) mergeBothCard

/-- THE TIED CARD OF 'inlaylaw11.MergeExchanges'. -/
def mergeExchangesCard : Claim7 := { stood := { row := mergeExchangesRow, standIns := [], harness := (true, "6aa4773aaf4dca9365ecc93f1717081e92225607ddf1dab6446ad00e985ff6dd"), looks := false }, kinds := [], alts := [], laidByText := true, laidKinds := [.data, .data], laidTests := true, laidLooks := .later }
def MergeExchangesCardSaid : Prop := Claim7.holds Tryz.pinned (.plain (OpenSpec.ofChange mergeExchangesSpec)) mergeExchangesCard

/-- THE TIED CARD OF 'inlaylaw12.SplitSections'. -/
def splitSectionsCard : Claim7 := { stood := { row := splitSectionsRow, standIns := [], harness := (true, "6aa4773aaf4dca9365ecc93f1717081e92225607ddf1dab6446ad00e985ff6dd"), looks := false }, kinds := [], alts := [], laidByText := true, laidKinds := [.data, .data], laidTests := true, laidLooks := .later }
def SplitSectionsCardSaid : Prop := Claim7.holds Tryz.pinned (.plain (OpenSpec.ofChange splitSectionsSpec)) splitSectionsCard

/-- THE TIED CARD OF 'inlaylaw12.SplitSectors'. -/
def splitSectorsCard : Claim7 := { stood := { row := splitSectorsRow, standIns := [], harness := (true, "6aa4773aaf4dca9365ecc93f1717081e92225607ddf1dab6446ad00e985ff6dd"), looks := false }, kinds := [], alts := [], laidByText := true, laidKinds := [.data, .data], laidTests := true, laidLooks := .later }
def SplitSectorsCardSaid : Prop := Claim7.holds Tryz.pinned (.plain (OpenSpec.ofChange splitSectorsSpec)) splitSectorsCard

/-- THE TIED CARD OF 'inlaylaw12.SplitJoins'. -/
def splitJoinsCard : Claim7 := { stood := { row := splitJoinsRow, standIns := [], harness := (true, "6aa4773aaf4dca9365ecc93f1717081e92225607ddf1dab6446ad00e985ff6dd"), looks := false }, kinds := [], alts := [], laidByText := true, laidKinds := [.data, .data], laidTests := true, laidLooks := .later }
def SplitJoinsCardSaid : Prop := Claim7.holds Tryz.pinned (.plain (OpenSpec.ofChange splitJoinsSpec)) splitJoinsCard

/-- THE SECOND FORM's CARD OF 'inlaylaw06.PatchMatchesReference'. -/
def patchMatchesReferenceUptoCard : Claim7 := { stood := { row := patchMatchesReferenceUptoRow, standIns := [], harness := (true, "6aa4773aaf4dca9365ecc93f1717081e92225607ddf1dab6446ad00e985ff6dd"), looks := false }, kinds := [], alts := [], laidByText := true, laidKinds := [.data], laidTests := true, laidLooks := .later }
def PatchMatchesReferenceUptoCardSaid : Prop := Claim7.holds Tryz.pinned (.plain (OpenSpec.upto patchMatchesReferenceSpec)) patchMatchesReferenceUptoCard

/-- THE SECOND FORM's CARD OF 'inlaylaw11.MergeMatchesReference'. -/
def mergeMatchesReferenceUptoCard : Claim7 := { stood := { row := mergeMatchesReferenceUptoRow, standIns := [], harness := (true, "6aa4773aaf4dca9365ecc93f1717081e92225607ddf1dab6446ad00e985ff6dd"), looks := false }, kinds := [], alts := [], laidByText := true, laidKinds := [.data], laidTests := true, laidLooks := .later }
def MergeMatchesReferenceUptoCardSaid : Prop := Claim7.holds Tryz.pinned (.plain (OpenSpec.upto mergeMatchesReferenceSpec)) mergeMatchesReferenceUptoCard

/-- THE SECOND FORM's CARD OF 'inlaylaw11.MergeTouched'. -/
def mergeTouchedUptoCard : Claim7 := { stood := { row := mergeTouchedUptoRow, standIns := [], harness := (true, "6aa4773aaf4dca9365ecc93f1717081e92225607ddf1dab6446ad00e985ff6dd"), looks := false }, kinds := [], alts := [], laidByText := true, laidKinds := [.data, .data], laidTests := true, laidLooks := .later }
def MergeTouchedUptoCardSaid : Prop := Claim7.holds Tryz.pinned (.plain (OpenSpec.upto mergeTouchedSpec)) mergeTouchedUptoCard

/-- THE SECOND FORM's CARD OF 'inlaylaw11.MergeReads'. -/
def mergeReadsUptoCard : Claim7 := { stood := { row := mergeReadsUptoRow, standIns := [], harness := (true, "6aa4773aaf4dca9365ecc93f1717081e92225607ddf1dab6446ad00e985ff6dd"), looks := false }, kinds := [], alts := [], laidByText := true, laidKinds := [.data, .data], laidTests := true, laidLooks := .later }
def MergeReadsUptoCardSaid : Prop := Claim7.holds Tryz.pinned (.plain (OpenSpec.upto mergeReadsSpec)) mergeReadsUptoCard

/-- THE SECOND FORM's CARD OF 'inlaylaw11.MergeBoth'. -/
def mergeBothUptoCard : Claim7 := { stood := { row := mergeBothUptoRow, standIns := [], harness := (true, "6aa4773aaf4dca9365ecc93f1717081e92225607ddf1dab6446ad00e985ff6dd"), looks := false }, kinds := [], alts := [], laidByText := true, laidKinds := [.data, .data], laidTests := true, laidLooks := .later }
def MergeBothUptoCardSaid : Prop := Claim7.holds Tryz.pinned (.plain (OpenSpec.upto mergeBothSpec)) mergeBothUptoCard

/-- THE SECOND FORM's CARD OF 'inlaylaw11.MergeExchanges'. -/
def mergeExchangesUptoCard : Claim7 := { stood := { row := mergeExchangesUptoRow, standIns := [], harness := (true, "6aa4773aaf4dca9365ecc93f1717081e92225607ddf1dab6446ad00e985ff6dd"), looks := false }, kinds := [], alts := [], laidByText := true, laidKinds := [.data, .data], laidTests := true, laidLooks := .later }
def MergeExchangesUptoCardSaid : Prop := Claim7.holds Tryz.pinned (.plain (OpenSpec.upto mergeExchangesSpec)) mergeExchangesUptoCard

/-- THE SECOND FORM's CARD OF 'inlaylaw12.SplitSections'. -/
def splitSectionsUptoCard : Claim7 := { stood := { row := splitSectionsUptoRow, standIns := [], harness := (true, "6aa4773aaf4dca9365ecc93f1717081e92225607ddf1dab6446ad00e985ff6dd"), looks := false }, kinds := [], alts := [], laidByText := true, laidKinds := [.data, .data], laidTests := true, laidLooks := .later }
def SplitSectionsUptoCardSaid : Prop := Claim7.holds Tryz.pinned (.plain (OpenSpec.upto splitSectionsSpec)) splitSectionsUptoCard

/-- THE SECOND FORM's CARD OF 'inlaylaw12.SplitSectors'. -/
def splitSectorsUptoCard : Claim7 := { stood := { row := splitSectorsUptoRow, standIns := [], harness := (true, "6aa4773aaf4dca9365ecc93f1717081e92225607ddf1dab6446ad00e985ff6dd"), looks := false }, kinds := [], alts := [], laidByText := true, laidKinds := [.data, .data], laidTests := true, laidLooks := .later }
def SplitSectorsUptoCardSaid : Prop := Claim7.holds Tryz.pinned (.plain (OpenSpec.upto splitSectorsSpec)) splitSectorsUptoCard

/-- THE SECOND FORM's CARD OF 'inlaylaw12.SplitJoins'. -/
def splitJoinsUptoCard : Claim7 := { stood := { row := splitJoinsUptoRow, standIns := [], harness := (true, "6aa4773aaf4dca9365ecc93f1717081e92225607ddf1dab6446ad00e985ff6dd"), looks := false }, kinds := [], alts := [], laidByText := true, laidKinds := [.data, .data], laidTests := true, laidLooks := .later }
def SplitJoinsUptoCardSaid : Prop := Claim7.holds Tryz.pinned (.plain (OpenSpec.upto splitJoinsSpec)) splitJoinsUptoCard
end Rows
end Go.Proofs.YtgopblmdkjkbbaaGreatDoor
