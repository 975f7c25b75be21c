/-
  DERIVED. GIVEN WITH THE SEED: THE CARDS: each row of YtikikmhlicoheaaGreatDoorRows.lean that lists a variable, with what it lists TIED to the program's text (the seventh form; the later family's looks); each row that meets fmt, with fmt's text TOLD by the authors' own Lean function (tested against real Go, not proved from fmt's source: count such statements apart). THE CARD IS WHAT COUNTS. Prove the row's statement (the work); the ties are given (YtikikmhlicoheaaGreatDoorTie.lean); close each card by the builder's one call (the guide's Derived/Test/ToyasCard.lean, 'card_holds'). Laid BY PROGRAM, IN A SANDBOX (cutbox-door.mjs). By AI agents, Wed Nov 11 2026. No macro, syntax, notation, axiom, sorry.
-/
import Derived.Test.YtikikmhlicoheaaGreatDoorRows
import GoSem.ClaimSeven
namespace Go.Proofs.YtikikmhlicoheaaGreatDoor
namespace Rows

/-- THE TIED CARD OF 'inlaylaw06.PatchMatchesReference'. -/
def patchMatchesReferenceCard : Claim7 := { stood := { row := patchMatchesReferenceRow, standIns := [], harness := (true, "b617706bcdd08f5ce203f2e959e889ed6e8f04ad02fb00324f9d065968494775"), looks := false }, kinds := [], alts := [], laidByText := true, laidKinds := [.data], laidTests := true, laidLooks := .later }
def PatchMatchesReferenceCardSaid : Prop := Claim7.holds Tryz.pinned (.plain (OpenSpec.ofChange patchMatchesReferenceSpec)) patchMatchesReferenceCard

/-- THE TIED CARD OF 'inlaylaw06.PatchChecks'. -/
def patchChecksCard : Claim7 := { stood := { row := patchChecksRow, standIns := [], harness := (true, "b617706bcdd08f5ce203f2e959e889ed6e8f04ad02fb00324f9d065968494775"), looks := false }, kinds := [], alts := [], laidByText := true, laidKinds := [.data], laidTests := true, laidLooks := .later }
def PatchChecksCardSaid : Prop := Claim7.holds Tryz.pinned (.plain (OpenSpec.ofChange patchChecksSpec)) patchChecksCard

/-- THE TIED CARD OF 'inlaylaw06.PatchSymbols'. -/
def patchSymbolsCard : Claim7 := { stood := { row := patchSymbolsRow, standIns := [], harness := (true, "b617706bcdd08f5ce203f2e959e889ed6e8f04ad02fb00324f9d065968494775"), looks := false }, kinds := [], alts := [], laidByText := true, laidKinds := [.data], laidTests := true, laidLooks := .later }
def PatchSymbolsCardSaid : Prop := Claim7.holds Tryz.pinned (.plain (OpenSpec.ofChange patchSymbolsSpec)) patchSymbolsCard

/-- THE TIED CARD OF 'inlaylaw06.PatchMakes'. -/
def patchMakesCard : Claim7 := { stood := { row := patchMakesRow, standIns := [], harness := (true, "b617706bcdd08f5ce203f2e959e889ed6e8f04ad02fb00324f9d065968494775"), looks := false }, kinds := [], alts := [], laidByText := true, laidKinds := [.data], laidTests := true, laidLooks := .later }
def PatchMakesCardSaid : Prop := Claim7.holds Tryz.pinned (.plain (OpenSpec.ofChange patchMakesSpec)) patchMakesCard

/-- THE TIED CARD OF 'inlaylaw06.PatchParts'. -/
def patchPartsCard : Claim7 := { stood := { row := patchPartsRow, standIns := [], harness := (true, "b617706bcdd08f5ce203f2e959e889ed6e8f04ad02fb00324f9d065968494775"), looks := false }, kinds := [], alts := [], laidByText := true, laidKinds := [.data], laidTests := true, laidLooks := .later }
def PatchPartsCardSaid : Prop := Claim7.holds Tryz.pinned (.plain (OpenSpec.ofChange patchPartsSpec)) patchPartsCard

/-- THE TIED CARD OF 'inlaylaw06.PatchLifted'. -/
def patchLiftedCard : Claim7 := { stood := { row := patchLiftedRow, standIns := [], harness := (true, "b617706bcdd08f5ce203f2e959e889ed6e8f04ad02fb00324f9d065968494775"), looks := false }, kinds := [], alts := [], laidByText := true, laidKinds := [.data], laidTests := true, laidLooks := .later }
def PatchLiftedCardSaid : Prop := Claim7.holds Tryz.pinned (.plain (OpenSpec.ofChange patchLiftedSpec)) patchLiftedCard

/-- THE SECOND FORM's CARD OF 'inlaylaw06.PatchMatchesReference'. -/
def patchMatchesReferenceUptoCard : Claim7 := { stood := { row := patchMatchesReferenceUptoRow, standIns := [], harness := (true, "b617706bcdd08f5ce203f2e959e889ed6e8f04ad02fb00324f9d065968494775"), looks := false }, kinds := [], alts := [], laidByText := true, laidKinds := [.data], laidTests := true, laidLooks := .later }
def PatchMatchesReferenceUptoCardSaid : Prop := Claim7.holds Tryz.pinned (.plain (OpenSpec.upto patchMatchesReferenceSpec)) patchMatchesReferenceUptoCard

/-- THE SECOND FORM's CARD OF 'inlaylaw06.PatchChecks'. -/
def patchChecksUptoCard : Claim7 := { stood := { row := patchChecksUptoRow, standIns := [], harness := (true, "b617706bcdd08f5ce203f2e959e889ed6e8f04ad02fb00324f9d065968494775"), looks := false }, kinds := [], alts := [], laidByText := true, laidKinds := [.data], laidTests := true, laidLooks := .later }
def PatchChecksUptoCardSaid : Prop := Claim7.holds Tryz.pinned (.plain (OpenSpec.upto patchChecksSpec)) patchChecksUptoCard

/-- THE SECOND FORM's CARD OF 'inlaylaw06.PatchSymbols'. -/
def patchSymbolsUptoCard : Claim7 := { stood := { row := patchSymbolsUptoRow, standIns := [], harness := (true, "b617706bcdd08f5ce203f2e959e889ed6e8f04ad02fb00324f9d065968494775"), looks := false }, kinds := [], alts := [], laidByText := true, laidKinds := [.data], laidTests := true, laidLooks := .later }
def PatchSymbolsUptoCardSaid : Prop := Claim7.holds Tryz.pinned (.plain (OpenSpec.upto patchSymbolsSpec)) patchSymbolsUptoCard

/-- THE SECOND FORM's CARD OF 'inlaylaw06.PatchMakes'. -/
def patchMakesUptoCard : Claim7 := { stood := { row := patchMakesUptoRow, standIns := [], harness := (true, "b617706bcdd08f5ce203f2e959e889ed6e8f04ad02fb00324f9d065968494775"), looks := false }, kinds := [], alts := [], laidByText := true, laidKinds := [.data], laidTests := true, laidLooks := .later }
def PatchMakesUptoCardSaid : Prop := Claim7.holds Tryz.pinned (.plain (OpenSpec.upto patchMakesSpec)) patchMakesUptoCard

/-- THE SECOND FORM's CARD OF 'inlaylaw06.PatchParts'. -/
def patchPartsUptoCard : Claim7 := { stood := { row := patchPartsUptoRow, standIns := [], harness := (true, "b617706bcdd08f5ce203f2e959e889ed6e8f04ad02fb00324f9d065968494775"), looks := false }, kinds := [], alts := [], laidByText := true, laidKinds := [.data], laidTests := true, laidLooks := .later }
def PatchPartsUptoCardSaid : Prop := Claim7.holds Tryz.pinned (.plain (OpenSpec.upto patchPartsSpec)) patchPartsUptoCard

/-- THE SECOND FORM's CARD OF 'inlaylaw06.PatchLifted'. -/
def patchLiftedUptoCard : Claim7 := { stood := { row := patchLiftedUptoRow, standIns := [], harness := (true, "b617706bcdd08f5ce203f2e959e889ed6e8f04ad02fb00324f9d065968494775"), looks := false }, kinds := [], alts := [], laidByText := true, laidKinds := [.data], laidTests := true, laidLooks := .later }
def PatchLiftedUptoCardSaid : Prop := Claim7.holds Tryz.pinned (.plain (OpenSpec.upto patchLiftedSpec)) patchLiftedUptoCard
end Rows
end Go.Proofs.YtikikmhlicoheaaGreatDoor
