/-
  DERIVED. GIVEN WITH THE SEED: THE CARDS: each row of YtkiicobbnllpkaaDoorRows.lean that lists a variable, with what it lists TIED to the program's text (the seventh form; the later family's looks); each row that meets fmt, with fmt's text TOLD by the authors' own Lean function (tested against real Go, not proved from fmt's source: count such statements apart). THE CARD IS WHAT COUNTS. Prove the row's statement (the work); the ties are given (YtkiicobbnllpkaaDoorTie.lean); close each card by the builder's one call (the guide's Derived/Test/ToyasCard.lean, 'card_holds'). Laid BY PROGRAM, IN A SANDBOX (cutbox-door.mjs). By AI agents, Wed Nov 11 2026. No macro, syntax, notation, axiom, sorry.
-/
import Derived.Test.YtkiicobbnllpkaaDoorRows
import GoSem.ClaimSeven
namespace Go.Proofs.YtkiicobbnllpkaaDoor
namespace Rows

/-- THE TIED CARD OF 'inlaylaw08.NormalMatchesReference'. -/
def normalMatchesReferenceCard : Claim7 := { stood := { row := normalMatchesReferenceRow, standIns := [], harness := (true, "89e9b264a8bd72f99c90ace661b246a16c966cd85721dceecffff539f43129d6"), looks := false }, kinds := [], alts := [], laidByText := true, laidKinds := [.data], laidTests := true, laidLooks := .later }
def NormalMatchesReferenceCardSaid : Prop := Claim7.holds Tryd.pinned (.plain (OpenSpec.ofChange normalMatchesReferenceSpec)) normalMatchesReferenceCard

/-- THE TIED CARD OF 'inlaylaw08.NormalLeast'. -/
def normalLeastCard : Claim7 := { stood := { row := normalLeastRow, standIns := [], harness := (true, "89e9b264a8bd72f99c90ace661b246a16c966cd85721dceecffff539f43129d6"), looks := false }, kinds := [], alts := [], laidByText := true, laidKinds := [.data], laidTests := true, laidLooks := .later }
def NormalLeastCardSaid : Prop := Claim7.holds Tryd.pinned (.plain (OpenSpec.ofChange normalLeastSpec)) normalLeastCard

/-- THE TIED CARD OF 'inlaylaw08.NormalOnce'. -/
def normalOnceCard : Claim7 := { stood := { row := normalOnceRow, standIns := [], harness := (true, "89e9b264a8bd72f99c90ace661b246a16c966cd85721dceecffff539f43129d6"), looks := false }, kinds := [], alts := [], laidByText := true, laidKinds := [.data], laidTests := true, laidLooks := .later }
def NormalOnceCardSaid : Prop := Claim7.holds Tryd.pinned (.plain (OpenSpec.ofChange normalOnceSpec)) normalOnceCard

/-- THE TIED CARD OF 'inlaylaw08.NormalJoins'. -/
def normalJoinsCard : Claim7 := { stood := { row := normalJoinsRow, standIns := [], harness := (true, "89e9b264a8bd72f99c90ace661b246a16c966cd85721dceecffff539f43129d6"), looks := false }, kinds := [], alts := [], laidByText := true, laidKinds := [.data], laidTests := true, laidLooks := .later }
def NormalJoinsCardSaid : Prop := Claim7.holds Tryd.pinned (.plain (OpenSpec.ofChange normalJoinsSpec)) normalJoinsCard

/-- THE TIED CARD OF 'inlaylaw08.NormalRuns'. -/
def normalRunsCard : Claim7 := { stood := { row := normalRunsRow, standIns := [], harness := (true, "89e9b264a8bd72f99c90ace661b246a16c966cd85721dceecffff539f43129d6"), looks := false }, kinds := [], alts := [], laidByText := true, laidKinds := [.data], laidTests := true, laidLooks := .later }
def NormalRunsCardSaid : Prop := Claim7.holds Tryd.pinned (.plain (OpenSpec.ofChange normalRunsSpec)) normalRunsCard

/-- THE TIED CARD OF 'inlaylaw08.NormalCuts'. -/
def normalCutsCard : Claim7 := { stood := { row := normalCutsRow, standIns := [], harness := (true, "89e9b264a8bd72f99c90ace661b246a16c966cd85721dceecffff539f43129d6"), looks := false }, kinds := [], alts := [], laidByText := true, laidKinds := [.data], laidTests := true, laidLooks := .later }
def NormalCutsCardSaid : Prop := Claim7.holds Tryd.pinned (.plain (OpenSpec.ofChange normalCutsSpec)) normalCutsCard

/-- THE TIED CARD OF 'inlaylaw08.NormalRefuses'. -/
def normalRefusesCard : Claim7 := { stood := { row := normalRefusesRow, standIns := [], harness := (true, "89e9b264a8bd72f99c90ace661b246a16c966cd85721dceecffff539f43129d6"), looks := false }, kinds := [], alts := [], laidByText := true, laidKinds := [.data], laidTests := true, laidLooks := .later }
def NormalRefusesCardSaid : Prop := Claim7.holds Tryd.pinned (.plain (OpenSpec.ofChange normalRefusesSpec)) normalRefusesCard

/-- THE SECOND FORM's CARD OF 'inlaylaw08.NormalMatchesReference'. -/
def normalMatchesReferenceUptoCard : Claim7 := { stood := { row := normalMatchesReferenceUptoRow, standIns := [], harness := (true, "89e9b264a8bd72f99c90ace661b246a16c966cd85721dceecffff539f43129d6"), looks := false }, kinds := [], alts := [], laidByText := true, laidKinds := [.data], laidTests := true, laidLooks := .later }
def NormalMatchesReferenceUptoCardSaid : Prop := Claim7.holds Tryd.pinned (.plain (OpenSpec.upto normalMatchesReferenceSpec)) normalMatchesReferenceUptoCard

/-- THE SECOND FORM's CARD OF 'inlaylaw08.NormalLeast'. -/
def normalLeastUptoCard : Claim7 := { stood := { row := normalLeastUptoRow, standIns := [], harness := (true, "89e9b264a8bd72f99c90ace661b246a16c966cd85721dceecffff539f43129d6"), looks := false }, kinds := [], alts := [], laidByText := true, laidKinds := [.data], laidTests := true, laidLooks := .later }
def NormalLeastUptoCardSaid : Prop := Claim7.holds Tryd.pinned (.plain (OpenSpec.upto normalLeastSpec)) normalLeastUptoCard

/-- THE SECOND FORM's CARD OF 'inlaylaw08.NormalOnce'. -/
def normalOnceUptoCard : Claim7 := { stood := { row := normalOnceUptoRow, standIns := [], harness := (true, "89e9b264a8bd72f99c90ace661b246a16c966cd85721dceecffff539f43129d6"), looks := false }, kinds := [], alts := [], laidByText := true, laidKinds := [.data], laidTests := true, laidLooks := .later }
def NormalOnceUptoCardSaid : Prop := Claim7.holds Tryd.pinned (.plain (OpenSpec.upto normalOnceSpec)) normalOnceUptoCard

/-- THE SECOND FORM's CARD OF 'inlaylaw08.NormalJoins'. -/
def normalJoinsUptoCard : Claim7 := { stood := { row := normalJoinsUptoRow, standIns := [], harness := (true, "89e9b264a8bd72f99c90ace661b246a16c966cd85721dceecffff539f43129d6"), looks := false }, kinds := [], alts := [], laidByText := true, laidKinds := [.data], laidTests := true, laidLooks := .later }
def NormalJoinsUptoCardSaid : Prop := Claim7.holds Tryd.pinned (.plain (OpenSpec.upto normalJoinsSpec)) normalJoinsUptoCard

/-- THE SECOND FORM's CARD OF 'inlaylaw08.NormalRuns'. -/
def normalRunsUptoCard : Claim7 := { stood := { row := normalRunsUptoRow, standIns := [], harness := (true, "89e9b264a8bd72f99c90ace661b246a16c966cd85721dceecffff539f43129d6"), looks := false }, kinds := [], alts := [], laidByText := true, laidKinds := [.data], laidTests := true, laidLooks := .later }
def NormalRunsUptoCardSaid : Prop := Claim7.holds Tryd.pinned (.plain (OpenSpec.upto normalRunsSpec)) normalRunsUptoCard

/-- THE SECOND FORM's CARD OF 'inlaylaw08.NormalCuts'. -/
def normalCutsUptoCard : Claim7 := { stood := { row := normalCutsUptoRow, standIns := [], harness := (true, "89e9b264a8bd72f99c90ace661b246a16c966cd85721dceecffff539f43129d6"), looks := false }, kinds := [], alts := [], laidByText := true, laidKinds := [.data], laidTests := true, laidLooks := .later }
def NormalCutsUptoCardSaid : Prop := Claim7.holds Tryd.pinned (.plain (OpenSpec.upto normalCutsSpec)) normalCutsUptoCard

/-- THE SECOND FORM's CARD OF 'inlaylaw08.NormalRefuses'. -/
def normalRefusesUptoCard : Claim7 := { stood := { row := normalRefusesUptoRow, standIns := [], harness := (true, "89e9b264a8bd72f99c90ace661b246a16c966cd85721dceecffff539f43129d6"), looks := false }, kinds := [], alts := [], laidByText := true, laidKinds := [.data], laidTests := true, laidLooks := .later }
def NormalRefusesUptoCardSaid : Prop := Claim7.holds Tryd.pinned (.plain (OpenSpec.upto normalRefusesSpec)) normalRefusesUptoCard
end Rows
end Go.Proofs.YtkiicobbnllpkaaDoor
