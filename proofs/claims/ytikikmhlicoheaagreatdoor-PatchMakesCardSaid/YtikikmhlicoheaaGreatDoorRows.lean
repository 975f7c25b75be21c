/-
  NARROWER THAN 'FOR EVERY INPUT', by the rows' own cells (each row's printed sentence says how): PatchMatchesReference: laid · PatchChecks: laid · PatchSymbols: laid · PatchMakes: laid · PatchParts: laid · PatchLifted: laid.
  DERIVED. THE GIVEN ROWS OF THIS SEAT. 6 by the template 'for every input the law returns true; each argument reads behind the call as it read before'; 0 by the template 'total and deterministic' (their statements: YtikikmhlicoheaaGreatDoorTotals.lean).
  GIVEN WITH THE SEED: the statements are not yours to turn. If you find one false, say at which input.
  Laid BY PROGRAM, IN A SANDBOX (cutbox-rows.mjs): the forced cells as the released guide's own fill.sh prints them over the translation 4470599181a96881… (all of the seat's roots in one cut). By AI agents, Wed Nov 11 2026. No macro, syntax, notation, axiom, sorry.
-/
import Derived.Test.YtikikmhlicoheaaGreatDoorChecked
import GoSem.Claim
import GoSem.ClaimJoined
import GoSem.ClaimMapViews
import Derived.JoinedTies
import Derived.KernelRfl
namespace Go.Proofs.YtikikmhlicoheaaGreatDoor
/- THE CELL 'sum', in the pinned program and in every row, IS THE sha256 OF THE DUMP (.gsa) THAT YtikikmhlicoheaaGreatDoorProg.lean LOADS. Nothing in Lean hashes anything: it is a label: what it is worth is what the hold of that sum in a sandbox is worth. -/
noncomputable def Tryz.pinned : Pinned := { name := "ytikikmhlicoheaagreatdoor", sum := "4470599181a96881d74135e6f9064ffe8c388caf852baebdd408abff5becfffb", checked := Tryz.checked }
namespace Rows
def none {H : Type} : Left H := { results := [], args := [] }

/- WHAT THE LISTED PACKAGE-LEVEL VARIABLES READ AS WHEN THE CALL BEGINS. Each datum BY PROGRAM (the guide's laid-datum.mjs) off the statement by which the dump's own 'gosem.cut.vars' lays the variable. In a bare row this is a premise. The card (YtikikmhlicoheaaGreatDoorCards.lean) ties it to the program's text. -/
def laid_inlay_inst_kinds {H : Type} : DataW H := .agg [.agg [.lit (.string [100, 97, 116, 97]), .lit (.int .i64 0), .lit (.int .i64 32), .lit (.bool false), .lit (.bool false)], .agg [.lit (.string [97, 100, 100]), .lit (.int .i64 3), .lit (.int .i64 0), .lit (.bool false), .lit (.bool false)], .agg [.lit (.string [115, 101, 116]), .lit (.int .i64 1), .lit (.int .i64 16), .lit (.bool false), .lit (.bool false)], .agg [.lit (.string [108, 111, 97, 100]), .lit (.int .i64 3), .lit (.int .i64 0), .lit (.bool false), .lit (.bool false)], .agg [.lit (.string [115, 116, 111, 114, 101]), .lit (.int .i64 3), .lit (.int .i64 0), .lit (.bool false), .lit (.bool false)], .agg [.lit (.string [106, 117, 109, 112]), .lit (.int .i64 0), .lit (.int .i64 24), .lit (.bool true), .lit (.bool true)], .agg [.lit (.string [99, 97, 108, 108]), .lit (.int .i64 0), .lit (.int .i64 24), .lit (.bool true), .lit (.bool true)], .agg [.lit (.string [98, 114, 97, 110, 99, 104]), .lit (.int .i64 1), .lit (.int .i64 16), .lit (.bool true), .lit (.bool true)], .agg [.lit (.string [112, 111, 111, 108]), .lit (.int .i64 1), .lit (.int .i64 16), .lit (.bool false), .lit (.bool true)]]

/-- 'inlaylaw06.PatchMatchesReference': WHATEVER THE INPUT: true; the input reads as it did. -/
def patchMatchesReferenceSpec : ChangeSpec := { name := "patchMatchesReference", fn := fun _ => fun
  | [d1, d2, d3] => { results := [.lit (.bool true)], args := [d1, d2, d3] }
  | _ => none }
def patchMatchesReferenceRow : OpenClaim := { program := "ytikikmhlicoheaagreatdoor", sum := "4470599181a96881d74135e6f9064ffe8c388caf852baebdd408abff5becfffb", func := "inlay/inlaylaw06.PatchMatchesReference", spec := "patchMatchesReference", unfollowed := true, recurses := true, named := ["inlay/inst.kinds"], apart := false, laid := [("inlay/inst.kinds", laid_inlay_inst_kinds)] }
def PatchMatchesReferenceSaid : Prop := patchMatchesReferenceRow.holds Tryz.pinned (OpenSpec.ofChange patchMatchesReferenceSpec)

/-- ITS FALSE NEIGHBOUR: 'it returns false'. Refute it at one input. -/
def patchMatchesReferenceWrong : ChangeSpec := { name := "patchMatchesReference", fn := fun _ => fun
  | [d1, d2, d3] => { results := [.lit (.bool false)], args := [d1, d2, d3] }
  | _ => none }
def PatchMatchesReferenceWrongFalsely : Prop := patchMatchesReferenceRow.holds Tryz.pinned (OpenSpec.ofChange patchMatchesReferenceWrong)

/-- 'inlaylaw06.PatchChecks': WHATEVER THE INPUT: true; the input reads as it did. -/
def patchChecksSpec : ChangeSpec := { name := "patchChecks", fn := fun _ => fun
  | [d1, d2, d3] => { results := [.lit (.bool true)], args := [d1, d2, d3] }
  | _ => none }
def patchChecksRow : OpenClaim := { program := "ytikikmhlicoheaagreatdoor", sum := "4470599181a96881d74135e6f9064ffe8c388caf852baebdd408abff5becfffb", func := "inlay/inlaylaw06.PatchChecks", spec := "patchChecks", unfollowed := true, recurses := true, named := ["inlay/inst.kinds"], apart := false, laid := [("inlay/inst.kinds", laid_inlay_inst_kinds)] }
def PatchChecksSaid : Prop := patchChecksRow.holds Tryz.pinned (OpenSpec.ofChange patchChecksSpec)

/-- ITS FALSE NEIGHBOUR: 'it returns false'. Refute it at one input. -/
def patchChecksWrong : ChangeSpec := { name := "patchChecks", fn := fun _ => fun
  | [d1, d2, d3] => { results := [.lit (.bool false)], args := [d1, d2, d3] }
  | _ => none }
def PatchChecksWrongFalsely : Prop := patchChecksRow.holds Tryz.pinned (OpenSpec.ofChange patchChecksWrong)

/-- 'inlaylaw06.PatchSymbols': WHATEVER THE INPUT: true; the input reads as it did. -/
def patchSymbolsSpec : ChangeSpec := { name := "patchSymbols", fn := fun _ => fun
  | [d1, d2] => { results := [.lit (.bool true)], args := [d1, d2] }
  | _ => none }
def patchSymbolsRow : OpenClaim := { program := "ytikikmhlicoheaagreatdoor", sum := "4470599181a96881d74135e6f9064ffe8c388caf852baebdd408abff5becfffb", func := "inlay/inlaylaw06.PatchSymbols", spec := "patchSymbols", unfollowed := true, recurses := true, named := ["inlay/inst.kinds"], apart := false, laid := [("inlay/inst.kinds", laid_inlay_inst_kinds)] }
def PatchSymbolsSaid : Prop := patchSymbolsRow.holds Tryz.pinned (OpenSpec.ofChange patchSymbolsSpec)

/-- ITS FALSE NEIGHBOUR: 'it returns false'. Refute it at one input. -/
def patchSymbolsWrong : ChangeSpec := { name := "patchSymbols", fn := fun _ => fun
  | [d1, d2] => { results := [.lit (.bool false)], args := [d1, d2] }
  | _ => none }
def PatchSymbolsWrongFalsely : Prop := patchSymbolsRow.holds Tryz.pinned (OpenSpec.ofChange patchSymbolsWrong)

/-- 'inlaylaw06.PatchMakes': WHATEVER THE INPUT: true; the input reads as it did. -/
def patchMakesSpec : ChangeSpec := { name := "patchMakes", fn := fun _ => fun
  | [d1, d2, d3] => { results := [.lit (.bool true)], args := [d1, d2, d3] }
  | _ => none }
def patchMakesRow : OpenClaim := { program := "ytikikmhlicoheaagreatdoor", sum := "4470599181a96881d74135e6f9064ffe8c388caf852baebdd408abff5becfffb", func := "inlay/inlaylaw06.PatchMakes", spec := "patchMakes", unfollowed := true, recurses := true, named := ["inlay/inst.kinds"], apart := false, laid := [("inlay/inst.kinds", laid_inlay_inst_kinds)] }
def PatchMakesSaid : Prop := patchMakesRow.holds Tryz.pinned (OpenSpec.ofChange patchMakesSpec)

/-- ITS FALSE NEIGHBOUR: 'it returns false'. Refute it at one input. -/
def patchMakesWrong : ChangeSpec := { name := "patchMakes", fn := fun _ => fun
  | [d1, d2, d3] => { results := [.lit (.bool false)], args := [d1, d2, d3] }
  | _ => none }
def PatchMakesWrongFalsely : Prop := patchMakesRow.holds Tryz.pinned (OpenSpec.ofChange patchMakesWrong)

/-- 'inlaylaw06.PatchParts': WHATEVER THE INPUT: true; the input reads as it did. -/
def patchPartsSpec : ChangeSpec := { name := "patchParts", fn := fun _ => fun
  | [d1, d2, d3] => { results := [.lit (.bool true)], args := [d1, d2, d3] }
  | _ => none }
def patchPartsRow : OpenClaim := { program := "ytikikmhlicoheaagreatdoor", sum := "4470599181a96881d74135e6f9064ffe8c388caf852baebdd408abff5becfffb", func := "inlay/inlaylaw06.PatchParts", spec := "patchParts", unfollowed := true, recurses := true, named := ["inlay/inst.kinds"], apart := false, laid := [("inlay/inst.kinds", laid_inlay_inst_kinds)] }
def PatchPartsSaid : Prop := patchPartsRow.holds Tryz.pinned (OpenSpec.ofChange patchPartsSpec)

/-- ITS FALSE NEIGHBOUR: 'it returns false'. Refute it at one input. -/
def patchPartsWrong : ChangeSpec := { name := "patchParts", fn := fun _ => fun
  | [d1, d2, d3] => { results := [.lit (.bool false)], args := [d1, d2, d3] }
  | _ => none }
def PatchPartsWrongFalsely : Prop := patchPartsRow.holds Tryz.pinned (OpenSpec.ofChange patchPartsWrong)

/-- 'inlaylaw06.PatchLifted': WHATEVER THE INPUT: true; the input reads as it did. -/
def patchLiftedSpec : ChangeSpec := { name := "patchLifted", fn := fun _ => fun
  | [d1, d2, d3] => { results := [.lit (.bool true)], args := [d1, d2, d3] }
  | _ => none }
def patchLiftedRow : OpenClaim := { program := "ytikikmhlicoheaagreatdoor", sum := "4470599181a96881d74135e6f9064ffe8c388caf852baebdd408abff5becfffb", func := "inlay/inlaylaw06.PatchLifted", spec := "patchLifted", unfollowed := true, recurses := true, named := ["inlay/inst.kinds"], apart := false, laid := [("inlay/inst.kinds", laid_inlay_inst_kinds)] }
def PatchLiftedSaid : Prop := patchLiftedRow.holds Tryz.pinned (OpenSpec.ofChange patchLiftedSpec)

/-- ITS FALSE NEIGHBOUR: 'it returns false'. Refute it at one input. -/
def patchLiftedWrong : ChangeSpec := { name := "patchLifted", fn := fun _ => fun
  | [d1, d2, d3] => { results := [.lit (.bool false)], args := [d1, d2, d3] }
  | _ => none }
def PatchLiftedWrongFalsely : Prop := patchLiftedRow.holds Tryz.pinned (OpenSpec.ofChange patchLiftedWrong)

/- THE SECOND FORM. 'bulk': how many values and letters a reading holds, each counted each time it is reached (what is shared counts as often as it is met; a slice's spare places count too). A statement '..UptoSaid' is the law's where the arguments, and the package variables that the reading takes, are together of bulk at most 1048576: NARROWER than '..Said'. Prove '..Said' where nothing that the law and all that it calls make is longer than what came in: it says more and counts as full. Else prove '..UptoSaid'. A law counts once. -/
mutual
def uptoBulk {H : Type} : DataW H → Nat
  | .lit (.string bytes) => bytes.length + 1
  | .lit _ => 1
  | .nil => 1
  | .ptr d => uptoBulk d + 1
  | .slice elems spare => uptoBulkAll elems + uptoBulkAll spare + 1
  | .agg parts => uptoBulkAll parts + 1
  | .iface _ d => uptoBulk d + 1
  | .map entries => uptoBulkEntries entries + 1
  | .held _ => 1
def uptoBulkAll {H : Type} : List (DataW H) → Nat
  | [] => 0
  | d :: r => uptoBulk d + uptoBulkAll r
def uptoBulkEntries {H : Type} : List (Lit × DataW H) → Nat
  | [] => 0
  | x :: r => uptoBulkEntry x + uptoBulkEntries r
def uptoBulkEntry {H : Type} : Lit × DataW H → Nat
  | (.string bytes, d) => bytes.length + uptoBulk d + 1
  | (_, d) => uptoBulk d + 1
 end
def uptoSmall : (H : Type) → List (DataW H) → Bool := fun _ ds => decide (uptoBulkAll ds ≤ 1048576)
def OpenSpec.upto (s : _root_.Go.ChangeSpec) : _root_.Go.OpenSpec := { _root_.Go.OpenSpec.ofChange s with cond := some uptoSmall }

/-- 'inlaylaw06.PatchMatchesReference', WHERE WHAT IT READS IS OF BULK AT MOST 1048576: true; the input reads as it did. -/
def patchMatchesReferenceUptoRow : OpenClaim := { program := "ytikikmhlicoheaagreatdoor", sum := "4470599181a96881d74135e6f9064ffe8c388caf852baebdd408abff5becfffb", func := "inlay/inlaylaw06.PatchMatchesReference", spec := "patchMatchesReference", unfollowed := true, recurses := true, named := ["inlay/inst.kinds"], apart := false, laid := [("inlay/inst.kinds", laid_inlay_inst_kinds)], narrowed := true }
def PatchMatchesReferenceUptoSaid : Prop := patchMatchesReferenceUptoRow.holds Tryz.pinned (OpenSpec.upto patchMatchesReferenceSpec)

/-- 'inlaylaw06.PatchChecks', WHERE WHAT IT READS IS OF BULK AT MOST 1048576: true; the input reads as it did. -/
def patchChecksUptoRow : OpenClaim := { program := "ytikikmhlicoheaagreatdoor", sum := "4470599181a96881d74135e6f9064ffe8c388caf852baebdd408abff5becfffb", func := "inlay/inlaylaw06.PatchChecks", spec := "patchChecks", unfollowed := true, recurses := true, named := ["inlay/inst.kinds"], apart := false, laid := [("inlay/inst.kinds", laid_inlay_inst_kinds)], narrowed := true }
def PatchChecksUptoSaid : Prop := patchChecksUptoRow.holds Tryz.pinned (OpenSpec.upto patchChecksSpec)

/-- 'inlaylaw06.PatchSymbols', WHERE WHAT IT READS IS OF BULK AT MOST 1048576: true; the input reads as it did. -/
def patchSymbolsUptoRow : OpenClaim := { program := "ytikikmhlicoheaagreatdoor", sum := "4470599181a96881d74135e6f9064ffe8c388caf852baebdd408abff5becfffb", func := "inlay/inlaylaw06.PatchSymbols", spec := "patchSymbols", unfollowed := true, recurses := true, named := ["inlay/inst.kinds"], apart := false, laid := [("inlay/inst.kinds", laid_inlay_inst_kinds)], narrowed := true }
def PatchSymbolsUptoSaid : Prop := patchSymbolsUptoRow.holds Tryz.pinned (OpenSpec.upto patchSymbolsSpec)

/-- 'inlaylaw06.PatchMakes', WHERE WHAT IT READS IS OF BULK AT MOST 1048576: true; the input reads as it did. -/
def patchMakesUptoRow : OpenClaim := { program := "ytikikmhlicoheaagreatdoor", sum := "4470599181a96881d74135e6f9064ffe8c388caf852baebdd408abff5becfffb", func := "inlay/inlaylaw06.PatchMakes", spec := "patchMakes", unfollowed := true, recurses := true, named := ["inlay/inst.kinds"], apart := false, laid := [("inlay/inst.kinds", laid_inlay_inst_kinds)], narrowed := true }
def PatchMakesUptoSaid : Prop := patchMakesUptoRow.holds Tryz.pinned (OpenSpec.upto patchMakesSpec)

/-- 'inlaylaw06.PatchParts', WHERE WHAT IT READS IS OF BULK AT MOST 1048576: true; the input reads as it did. -/
def patchPartsUptoRow : OpenClaim := { program := "ytikikmhlicoheaagreatdoor", sum := "4470599181a96881d74135e6f9064ffe8c388caf852baebdd408abff5becfffb", func := "inlay/inlaylaw06.PatchParts", spec := "patchParts", unfollowed := true, recurses := true, named := ["inlay/inst.kinds"], apart := false, laid := [("inlay/inst.kinds", laid_inlay_inst_kinds)], narrowed := true }
def PatchPartsUptoSaid : Prop := patchPartsUptoRow.holds Tryz.pinned (OpenSpec.upto patchPartsSpec)

/-- 'inlaylaw06.PatchLifted', WHERE WHAT IT READS IS OF BULK AT MOST 1048576: true; the input reads as it did. -/
def patchLiftedUptoRow : OpenClaim := { program := "ytikikmhlicoheaagreatdoor", sum := "4470599181a96881d74135e6f9064ffe8c388caf852baebdd408abff5becfffb", func := "inlay/inlaylaw06.PatchLifted", spec := "patchLifted", unfollowed := true, recurses := true, named := ["inlay/inst.kinds"], apart := false, laid := [("inlay/inst.kinds", laid_inlay_inst_kinds)], narrowed := true }
def PatchLiftedUptoSaid : Prop := patchLiftedUptoRow.holds Tryz.pinned (OpenSpec.upto patchLiftedSpec)

end Rows
end Go.Proofs.YtikikmhlicoheaaGreatDoor
