/-
  DERIVED. GIVEN WITH THE SEED: THE CARDS: each row of YthejkhpeokeccaaDoorRows.lean that lists a variable, with what it lists TIED to the program's text (the seventh form; the later family's looks); each row that meets fmt, with fmt's text TOLD by the authors' own Lean function (tested against real Go, not proved from fmt's source: count such statements apart). THE CARD IS WHAT COUNTS. Prove the row's statement (the work); the ties are given (YthejkhpeokeccaaDoorTie.lean); close each card by the builder's one call (the guide's Derived/Test/ToyasCard.lean, 'card_holds'). Laid BY PROGRAM, IN A SANDBOX (cutbox-door.mjs). By AI agents, Wed Nov 11 2026. No macro, syntax, notation, axiom, sorry.
-/
import Derived.Test.YthejkhpeokeccaaDoorRows
import GoSem.ClaimSeven
namespace Go.Proofs.YthejkhpeokeccaaDoor
namespace Rows

/-- THE TIED CARD OF 'inlaylaw03.LabelMatchesReference'. -/
def labelMatchesReferenceCard : Claim7 := { stood := { row := labelMatchesReferenceRow, standIns := [], harness := (true, "6e7fc81c8c699fb150b6d002095ee715f52c0268e801d7c2bc80ea25676c1378"), looks := false }, kinds := [], alts := [], laidByText := true, laidKinds := [.data], laidTests := true, laidLooks := .later }
def LabelMatchesReferenceCardSaid : Prop := Claim7.holds Tryd.pinned (.plain (OpenSpec.ofChange labelMatchesReferenceSpec)) labelMatchesReferenceCard

/-- THE TIED CARD OF 'inlaylaw03.LabelInverts'. -/
def labelInvertsCard : Claim7 := { stood := { row := labelInvertsRow, standIns := [], harness := (true, "6e7fc81c8c699fb150b6d002095ee715f52c0268e801d7c2bc80ea25676c1378"), looks := false }, kinds := [], alts := [], laidByText := true, laidKinds := [.data], laidTests := true, laidLooks := .later }
def LabelInvertsCardSaid : Prop := Claim7.holds Tryd.pinned (.plain (OpenSpec.ofChange labelInvertsSpec)) labelInvertsCard

/-- THE TIED CARD OF 'inlaylaw03.LabelLowers'. -/
def labelLowersCard : Claim7 := { stood := { row := labelLowersRow, standIns := [], harness := (true, "6e7fc81c8c699fb150b6d002095ee715f52c0268e801d7c2bc80ea25676c1378"), looks := false }, kinds := [], alts := [], laidByText := true, laidKinds := [.data], laidTests := true, laidLooks := .later }
def LabelLowersCardSaid : Prop := Claim7.holds Tryd.pinned (.plain (OpenSpec.ofChange labelLowersSpec)) labelLowersCard

/-- THE TIED CARD OF 'inlaylaw03.LabelReads'. -/
def labelReadsCard : Claim7 := { stood := { row := labelReadsRow, standIns := [], harness := (true, "6e7fc81c8c699fb150b6d002095ee715f52c0268e801d7c2bc80ea25676c1378"), looks := false }, kinds := [], alts := [], laidByText := true, laidKinds := [.data], laidTests := true, laidLooks := .later }
def LabelReadsCardSaid : Prop := Claim7.holds Tryd.pinned (.plain (OpenSpec.ofChange labelReadsSpec)) labelReadsCard

/-- THE TIED CARD OF 'inlaylaw03.LabelSizes'. -/
def labelSizesCard : Claim7 := { stood := { row := labelSizesRow, standIns := [], harness := (true, "6e7fc81c8c699fb150b6d002095ee715f52c0268e801d7c2bc80ea25676c1378"), looks := false }, kinds := [], alts := [], laidByText := true, laidKinds := [.data], laidTests := true, laidLooks := .later }
def LabelSizesCardSaid : Prop := Claim7.holds Tryd.pinned (.plain (OpenSpec.ofChange labelSizesSpec)) labelSizesCard

/-- THE SECOND FORM's CARD OF 'inlaylaw03.LabelMatchesReference'. -/
def labelMatchesReferenceUptoCard : Claim7 := { stood := { row := labelMatchesReferenceUptoRow, standIns := [], harness := (true, "6e7fc81c8c699fb150b6d002095ee715f52c0268e801d7c2bc80ea25676c1378"), looks := false }, kinds := [], alts := [], laidByText := true, laidKinds := [.data], laidTests := true, laidLooks := .later }
def LabelMatchesReferenceUptoCardSaid : Prop := Claim7.holds Tryd.pinned (.plain (OpenSpec.upto labelMatchesReferenceSpec)) labelMatchesReferenceUptoCard

/-- THE SECOND FORM's CARD OF 'inlaylaw03.LabelInverts'. -/
def labelInvertsUptoCard : Claim7 := { stood := { row := labelInvertsUptoRow, standIns := [], harness := (true, "6e7fc81c8c699fb150b6d002095ee715f52c0268e801d7c2bc80ea25676c1378"), looks := false }, kinds := [], alts := [], laidByText := true, laidKinds := [.data], laidTests := true, laidLooks := .later }
def LabelInvertsUptoCardSaid : Prop := Claim7.holds Tryd.pinned (.plain (OpenSpec.upto labelInvertsSpec)) labelInvertsUptoCard

/-- THE SECOND FORM's CARD OF 'inlaylaw03.LabelLowers'. -/
def labelLowersUptoCard : Claim7 := { stood := { row := labelLowersUptoRow, standIns := [], harness := (true, "6e7fc81c8c699fb150b6d002095ee715f52c0268e801d7c2bc80ea25676c1378"), looks := false }, kinds := [], alts := [], laidByText := true, laidKinds := [.data], laidTests := true, laidLooks := .later }
def LabelLowersUptoCardSaid : Prop := Claim7.holds Tryd.pinned (.plain (OpenSpec.upto labelLowersSpec)) labelLowersUptoCard

/-- THE SECOND FORM's CARD OF 'inlaylaw03.LabelReads'. -/
def labelReadsUptoCard : Claim7 := { stood := { row := labelReadsUptoRow, standIns := [], harness := (true, "6e7fc81c8c699fb150b6d002095ee715f52c0268e801d7c2bc80ea25676c1378"), looks := false }, kinds := [], alts := [], laidByText := true, laidKinds := [.data], laidTests := true, laidLooks := .later }
def LabelReadsUptoCardSaid : Prop := Claim7.holds Tryd.pinned (.plain (OpenSpec.upto labelReadsSpec)) labelReadsUptoCard

/-- THE SECOND FORM's CARD OF 'inlaylaw03.LabelSizes'. -/
def labelSizesUptoCard : Claim7 := { stood := { row := labelSizesUptoRow, standIns := [], harness := (true, "6e7fc81c8c699fb150b6d002095ee715f52c0268e801d7c2bc80ea25676c1378"), looks := false }, kinds := [], alts := [], laidByText := true, laidKinds := [.data], laidTests := true, laidLooks := .later }
def LabelSizesUptoCardSaid : Prop := Claim7.holds Tryd.pinned (.plain (OpenSpec.upto labelSizesSpec)) labelSizesUptoCard
end Rows
end Go.Proofs.YthejkhpeokeccaaDoor
