/-
  DERIVED. GIVEN WITH THE SEED: THE CARDS: each row of YtdlbcbgkpmpjlaaDoorRows.lean that lists a variable, with what it lists TIED to the program's text (the seventh form; the later family's looks); each row that meets fmt, with fmt's text TOLD by the authors' own Lean function (tested against real Go, not proved from fmt's source: count such statements apart). THE CARD IS WHAT COUNTS. Prove the row's statement (the work); the ties are given (YtdlbcbgkpmpjlaaDoorTie.lean); close each card by the builder's one call (the guide's Derived/Test/ToyasCard.lean, 'card_holds'). Laid BY PROGRAM, IN A SANDBOX (cutbox-door.mjs). By AI agents, Wed Nov 11 2026. No macro, syntax, notation, axiom, sorry.
-/
import Derived.Test.YtdlbcbgkpmpjlaaDoorRows
import GoSem.ClaimSeven
namespace Go.Proofs.YtdlbcbgkpmpjlaaDoor
namespace Rows

/-- THE TIED CARD OF 'inlaylaw06.PatchLimits'. -/
def patchLimitsCard : Claim7 := { stood := { row := patchLimitsRow, standIns := [], harness := (true, "a72398294cde05bf16eb37f75ee7bfd105fdca79f0db3cfd9ef878afa6e57af2"), looks := false }, kinds := [], alts := [], laidByText := true, laidKinds := [.data], laidTests := true, laidLooks := .later }
def PatchLimitsCardSaid : Prop := Claim7.holds Tryd.pinned (.plain (OpenSpec.ofChange patchLimitsSpec)) patchLimitsCard

/-- THE SECOND FORM's CARD OF 'inlaylaw06.PatchLimits'. -/
def patchLimitsUptoCard : Claim7 := { stood := { row := patchLimitsUptoRow, standIns := [], harness := (true, "a72398294cde05bf16eb37f75ee7bfd105fdca79f0db3cfd9ef878afa6e57af2"), looks := false }, kinds := [], alts := [], laidByText := true, laidKinds := [.data], laidTests := true, laidLooks := .later }
def PatchLimitsUptoCardSaid : Prop := Claim7.holds Tryd.pinned (.plain (OpenSpec.upto patchLimitsSpec)) patchLimitsUptoCard
end Rows
end Go.Proofs.YtdlbcbgkpmpjlaaDoor
