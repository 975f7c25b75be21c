/-
  DERIVED. GIVEN WITH THE SEED: THE CARDS: each row of YtdeacfammdjajaaDoorRows.lean that lists a variable, with what it lists TIED to the program's text (the seventh form; the later family's looks); each row that meets fmt, with fmt's text TOLD by the authors' own Lean function (tested against real Go, not proved from fmt's source: count such statements apart). THE CARD IS WHAT COUNTS. Prove the row's statement (the work); the ties are given (YtdeacfammdjajaaDoorTie.lean); close each card by the builder's one call (the guide's Derived/Test/ToyasCard.lean, 'card_holds'). Laid BY PROGRAM, IN A SANDBOX (cutbox-door.mjs). By AI agents, Wed Nov 11 2026. No macro, syntax, notation, axiom, sorry.
-/
import Derived.Test.YtdeacfammdjajaaDoorRows
import GoSem.ClaimSeven
namespace Go.Proofs.YtdeacfammdjajaaDoor
namespace Rows

/-- THE TIED CARD OF 'inlaylaw12.SplitMatchesReference'. -/
def splitMatchesReferenceCard : Claim7 := { stood := { row := splitMatchesReferenceRow, standIns := [], harness := (true, "bd64fcc3cc6e580f378faaad8721e73331265035044e0f39e88cec771334d375"), looks := false }, kinds := [], alts := [], laidByText := true, laidKinds := [.data], laidTests := true, laidLooks := .later }
def SplitMatchesReferenceCardSaid : Prop := Claim7.holds Tryd.pinned (.plain (OpenSpec.ofChange splitMatchesReferenceSpec)) splitMatchesReferenceCard

/-- THE TIED CARD OF 'inlaylaw12.SplitLifted'. -/
def splitLiftedCard : Claim7 := { stood := { row := splitLiftedRow, standIns := [], harness := (true, "bd64fcc3cc6e580f378faaad8721e73331265035044e0f39e88cec771334d375"), looks := false }, kinds := [], alts := [], laidByText := true, laidKinds := [.data], laidTests := true, laidLooks := .later }
def SplitLiftedCardSaid : Prop := Claim7.holds Tryd.pinned (.plain (OpenSpec.ofChange splitLiftedSpec)) splitLiftedCard

/-- THE TIED CARD OF 'inlaylaw12.SplitRefuses'. -/
def splitRefusesCard : Claim7 := { stood := { row := splitRefusesRow, standIns := [], harness := (true, "bd64fcc3cc6e580f378faaad8721e73331265035044e0f39e88cec771334d375"), looks := false }, kinds := [], alts := [], laidByText := true, laidKinds := [.data], laidTests := true, laidLooks := .later }
def SplitRefusesCardSaid : Prop := Claim7.holds Tryd.pinned (.plain (OpenSpec.ofChange splitRefusesSpec)) splitRefusesCard

/-- THE SECOND FORM's CARD OF 'inlaylaw12.SplitMatchesReference'. -/
def splitMatchesReferenceUptoCard : Claim7 := { stood := { row := splitMatchesReferenceUptoRow, standIns := [], harness := (true, "bd64fcc3cc6e580f378faaad8721e73331265035044e0f39e88cec771334d375"), looks := false }, kinds := [], alts := [], laidByText := true, laidKinds := [.data], laidTests := true, laidLooks := .later }
def SplitMatchesReferenceUptoCardSaid : Prop := Claim7.holds Tryd.pinned (.plain (OpenSpec.upto splitMatchesReferenceSpec)) splitMatchesReferenceUptoCard

/-- THE SECOND FORM's CARD OF 'inlaylaw12.SplitLifted'. -/
def splitLiftedUptoCard : Claim7 := { stood := { row := splitLiftedUptoRow, standIns := [], harness := (true, "bd64fcc3cc6e580f378faaad8721e73331265035044e0f39e88cec771334d375"), looks := false }, kinds := [], alts := [], laidByText := true, laidKinds := [.data], laidTests := true, laidLooks := .later }
def SplitLiftedUptoCardSaid : Prop := Claim7.holds Tryd.pinned (.plain (OpenSpec.upto splitLiftedSpec)) splitLiftedUptoCard

/-- THE SECOND FORM's CARD OF 'inlaylaw12.SplitRefuses'. -/
def splitRefusesUptoCard : Claim7 := { stood := { row := splitRefusesUptoRow, standIns := [], harness := (true, "bd64fcc3cc6e580f378faaad8721e73331265035044e0f39e88cec771334d375"), looks := false }, kinds := [], alts := [], laidByText := true, laidKinds := [.data], laidTests := true, laidLooks := .later }
def SplitRefusesUptoCardSaid : Prop := Claim7.holds Tryd.pinned (.plain (OpenSpec.upto splitRefusesSpec)) splitRefusesUptoCard
end Rows
end Go.Proofs.YtdeacfammdjajaaDoor
