/-
  NARROWER THAN 'FOR EVERY INPUT', by the rows' own cells (each row's printed sentence says how): InstWords: laid · InstInstructions: laid · InstMoves: laid · InstTargets: laid · InstRefuses: laid · InstBytes: laid · InstTexts: laid.
  DERIVED. THE GIVEN ROWS OF THIS SEAT. 7 by the template 'for every input the law returns true; each argument reads behind the call as it read before'; 0 by the template 'total and deterministic' (their statements: YtjihaaibammbnaaDoorTotals.lean).
  GIVEN WITH THE SEED: the statements are not yours to turn. If you find one false, say at which input.
  Laid BY PROGRAM, IN A SANDBOX (cutbox-rows.mjs): the forced cells as the released guide's own fill.sh prints them over the translation 1d01a8cf0f9c3dbb… (all of the seat's roots in one cut). By AI agents, Wed Nov 11 2026. No macro, syntax, notation, axiom, sorry.
-/
import Derived.Test.YtjihaaibammbnaaDoorChecked
import GoSem.Claim
import GoSem.ClaimJoined
import GoSem.ClaimMapViews
import Derived.JoinedTies
import Derived.KernelRfl
namespace Go.Proofs.YtjihaaibammbnaaDoor
/- THE CELL 'sum', in the pinned program and in every row, IS THE sha256 OF THE DUMP (.gsa) THAT YtjihaaibammbnaaDoorProg.lean LOADS. Nothing in Lean hashes anything: it is a label: what it is worth is what the hold of that sum in a sandbox is worth. -/
noncomputable def Tryd.pinned : Pinned := { name := "ytjihaaibammbnaadoor", sum := "1d01a8cf0f9c3dbbd86958c494a182a0968970c08c0d9c0aeecf917a15d0cde2", checked := Tryd.checked }
namespace Rows
def none {H : Type} : Left H := { results := [], args := [] }

/- WHAT THE LISTED PACKAGE-LEVEL VARIABLES READ AS WHEN THE CALL BEGINS. Each datum BY PROGRAM (the guide's laid-datum.mjs) off the statement by which the dump's own 'gosem.cut.vars' lays the variable. In a bare row this is a premise. The card (YtjihaaibammbnaaDoorCards.lean) ties it to the program's text. -/
def laid_inlay_inst_kinds {H : Type} : DataW H := .agg [.agg [.lit (.string [100, 97, 116, 97]), .lit (.int .i64 0), .lit (.int .i64 32), .lit (.bool false), .lit (.bool false)], .agg [.lit (.string [97, 100, 100]), .lit (.int .i64 3), .lit (.int .i64 0), .lit (.bool false), .lit (.bool false)], .agg [.lit (.string [115, 101, 116]), .lit (.int .i64 1), .lit (.int .i64 16), .lit (.bool false), .lit (.bool false)], .agg [.lit (.string [108, 111, 97, 100]), .lit (.int .i64 3), .lit (.int .i64 0), .lit (.bool false), .lit (.bool false)], .agg [.lit (.string [115, 116, 111, 114, 101]), .lit (.int .i64 3), .lit (.int .i64 0), .lit (.bool false), .lit (.bool false)], .agg [.lit (.string [106, 117, 109, 112]), .lit (.int .i64 0), .lit (.int .i64 24), .lit (.bool true), .lit (.bool true)], .agg [.lit (.string [99, 97, 108, 108]), .lit (.int .i64 0), .lit (.int .i64 24), .lit (.bool true), .lit (.bool true)], .agg [.lit (.string [98, 114, 97, 110, 99, 104]), .lit (.int .i64 1), .lit (.int .i64 16), .lit (.bool true), .lit (.bool true)], .agg [.lit (.string [112, 111, 111, 108]), .lit (.int .i64 1), .lit (.int .i64 16), .lit (.bool false), .lit (.bool true)]]

/-- 'inlaylaw02.InstWords': WHATEVER THE INPUT: true; the input reads as it did. -/
def instWordsSpec : ChangeSpec := { name := "instWords", fn := fun _ => fun
  | [d1, d2, d3] => { results := [.lit (.bool true)], args := [d1, d2, d3] }
  | _ => none }
def instWordsRow : OpenClaim := { program := "ytjihaaibammbnaadoor", sum := "1d01a8cf0f9c3dbbd86958c494a182a0968970c08c0d9c0aeecf917a15d0cde2", func := "inlay/inlaylaw02.InstWords", spec := "instWords", unfollowed := true, recurses := true, named := ["inlay/inst.kinds"], apart := false, laid := [("inlay/inst.kinds", laid_inlay_inst_kinds)] }
def InstWordsSaid : Prop := instWordsRow.holds Tryd.pinned (OpenSpec.ofChange instWordsSpec)

/-- ITS FALSE NEIGHBOUR: 'it returns false'. Refute it at one input. -/
def instWordsWrong : ChangeSpec := { name := "instWords", fn := fun _ => fun
  | [d1, d2, d3] => { results := [.lit (.bool false)], args := [d1, d2, d3] }
  | _ => none }
def InstWordsWrongFalsely : Prop := instWordsRow.holds Tryd.pinned (OpenSpec.ofChange instWordsWrong)

/-- 'inlaylaw02.InstInstructions': WHATEVER THE INPUT: true; the input reads as it did. -/
def instInstructionsSpec : ChangeSpec := { name := "instInstructions", fn := fun _ => fun
  | [d1, d2] => { results := [.lit (.bool true)], args := [d1, d2] }
  | _ => none }
def instInstructionsRow : OpenClaim := { program := "ytjihaaibammbnaadoor", sum := "1d01a8cf0f9c3dbbd86958c494a182a0968970c08c0d9c0aeecf917a15d0cde2", func := "inlay/inlaylaw02.InstInstructions", spec := "instInstructions", unfollowed := true, recurses := true, named := ["inlay/inst.kinds"], apart := false, laid := [("inlay/inst.kinds", laid_inlay_inst_kinds)] }
def InstInstructionsSaid : Prop := instInstructionsRow.holds Tryd.pinned (OpenSpec.ofChange instInstructionsSpec)

/-- ITS FALSE NEIGHBOUR: 'it returns false'. Refute it at one input. -/
def instInstructionsWrong : ChangeSpec := { name := "instInstructions", fn := fun _ => fun
  | [d1, d2] => { results := [.lit (.bool false)], args := [d1, d2] }
  | _ => none }
def InstInstructionsWrongFalsely : Prop := instInstructionsRow.holds Tryd.pinned (OpenSpec.ofChange instInstructionsWrong)

/-- 'inlaylaw02.InstMoves': WHATEVER THE INPUT: true; the input reads as it did. -/
def instMovesSpec : ChangeSpec := { name := "instMoves", fn := fun _ => fun
  | [d1, d2, d3] => { results := [.lit (.bool true)], args := [d1, d2, d3] }
  | _ => none }
def instMovesRow : OpenClaim := { program := "ytjihaaibammbnaadoor", sum := "1d01a8cf0f9c3dbbd86958c494a182a0968970c08c0d9c0aeecf917a15d0cde2", func := "inlay/inlaylaw02.InstMoves", spec := "instMoves", unfollowed := true, recurses := true, named := ["inlay/inst.kinds"], apart := false, laid := [("inlay/inst.kinds", laid_inlay_inst_kinds)] }
def InstMovesSaid : Prop := instMovesRow.holds Tryd.pinned (OpenSpec.ofChange instMovesSpec)

/-- ITS FALSE NEIGHBOUR: 'it returns false'. Refute it at one input. -/
def instMovesWrong : ChangeSpec := { name := "instMoves", fn := fun _ => fun
  | [d1, d2, d3] => { results := [.lit (.bool false)], args := [d1, d2, d3] }
  | _ => none }
def InstMovesWrongFalsely : Prop := instMovesRow.holds Tryd.pinned (OpenSpec.ofChange instMovesWrong)

/-- 'inlaylaw02.InstTargets': WHATEVER THE INPUT: true; the input reads as it did. -/
def instTargetsSpec : ChangeSpec := { name := "instTargets", fn := fun _ => fun
  | [d1, d2, d3] => { results := [.lit (.bool true)], args := [d1, d2, d3] }
  | _ => none }
def instTargetsRow : OpenClaim := { program := "ytjihaaibammbnaadoor", sum := "1d01a8cf0f9c3dbbd86958c494a182a0968970c08c0d9c0aeecf917a15d0cde2", func := "inlay/inlaylaw02.InstTargets", spec := "instTargets", unfollowed := true, recurses := true, named := ["inlay/inst.kinds"], apart := false, laid := [("inlay/inst.kinds", laid_inlay_inst_kinds)] }
def InstTargetsSaid : Prop := instTargetsRow.holds Tryd.pinned (OpenSpec.ofChange instTargetsSpec)

/-- ITS FALSE NEIGHBOUR: 'it returns false'. Refute it at one input. -/
def instTargetsWrong : ChangeSpec := { name := "instTargets", fn := fun _ => fun
  | [d1, d2, d3] => { results := [.lit (.bool false)], args := [d1, d2, d3] }
  | _ => none }
def InstTargetsWrongFalsely : Prop := instTargetsRow.holds Tryd.pinned (OpenSpec.ofChange instTargetsWrong)

/-- 'inlaylaw02.InstRefuses': WHATEVER THE INPUT: true; the input reads as it did. -/
def instRefusesSpec : ChangeSpec := { name := "instRefuses", fn := fun _ => fun
  | [d1, d2, d3] => { results := [.lit (.bool true)], args := [d1, d2, d3] }
  | _ => none }
def instRefusesRow : OpenClaim := { program := "ytjihaaibammbnaadoor", sum := "1d01a8cf0f9c3dbbd86958c494a182a0968970c08c0d9c0aeecf917a15d0cde2", func := "inlay/inlaylaw02.InstRefuses", spec := "instRefuses", unfollowed := true, recurses := true, named := ["inlay/inst.kinds"], apart := false, laid := [("inlay/inst.kinds", laid_inlay_inst_kinds)] }
def InstRefusesSaid : Prop := instRefusesRow.holds Tryd.pinned (OpenSpec.ofChange instRefusesSpec)

/-- ITS FALSE NEIGHBOUR: 'it returns false'. Refute it at one input. -/
def instRefusesWrong : ChangeSpec := { name := "instRefuses", fn := fun _ => fun
  | [d1, d2, d3] => { results := [.lit (.bool false)], args := [d1, d2, d3] }
  | _ => none }
def InstRefusesWrongFalsely : Prop := instRefusesRow.holds Tryd.pinned (OpenSpec.ofChange instRefusesWrong)

/-- 'inlaylaw02.InstBytes': WHATEVER THE INPUT: true; the input reads as it did. -/
def instBytesSpec : ChangeSpec := { name := "instBytes", fn := fun _ => fun
  | [d1, d2] => { results := [.lit (.bool true)], args := [d1, d2] }
  | _ => none }
def instBytesRow : OpenClaim := { program := "ytjihaaibammbnaadoor", sum := "1d01a8cf0f9c3dbbd86958c494a182a0968970c08c0d9c0aeecf917a15d0cde2", func := "inlay/inlaylaw02.InstBytes", spec := "instBytes", unfollowed := true, recurses := true, named := ["inlay/inst.kinds"], apart := false, laid := [("inlay/inst.kinds", laid_inlay_inst_kinds)] }
def InstBytesSaid : Prop := instBytesRow.holds Tryd.pinned (OpenSpec.ofChange instBytesSpec)

/-- ITS FALSE NEIGHBOUR: 'it returns false'. Refute it at one input. -/
def instBytesWrong : ChangeSpec := { name := "instBytes", fn := fun _ => fun
  | [d1, d2] => { results := [.lit (.bool false)], args := [d1, d2] }
  | _ => none }
def InstBytesWrongFalsely : Prop := instBytesRow.holds Tryd.pinned (OpenSpec.ofChange instBytesWrong)

/-- 'inlaylaw02.InstTexts': WHATEVER THE INPUT: true; the input reads as it did. -/
def instTextsSpec : ChangeSpec := { name := "instTexts", fn := fun _ => fun
  | [d1, d2, d3] => { results := [.lit (.bool true)], args := [d1, d2, d3] }
  | _ => none }
def instTextsRow : OpenClaim := { program := "ytjihaaibammbnaadoor", sum := "1d01a8cf0f9c3dbbd86958c494a182a0968970c08c0d9c0aeecf917a15d0cde2", func := "inlay/inlaylaw02.InstTexts", spec := "instTexts", unfollowed := true, recurses := true, named := ["inlay/inst.kinds"], apart := false, laid := [("inlay/inst.kinds", laid_inlay_inst_kinds)] }
def InstTextsSaid : Prop := instTextsRow.holds Tryd.pinned (OpenSpec.ofChange instTextsSpec)

/-- ITS FALSE NEIGHBOUR: 'it returns false'. Refute it at one input. -/
def instTextsWrong : ChangeSpec := { name := "instTexts", fn := fun _ => fun
  | [d1, d2, d3] => { results := [.lit (.bool false)], args := [d1, d2, d3] }
  | _ => none }
def InstTextsWrongFalsely : Prop := instTextsRow.holds Tryd.pinned (OpenSpec.ofChange instTextsWrong)

/- THE SECOND FORM. 'bulk': how many values and letters a reading holds, each counted each time it is reached (what is shared counts as often as it is met; a slice's spare places count too). A statement '..UptoSaid' is the law's where the arguments, and the package variables that the reading takes, are together of bulk at most 1048576: NARROWER than '..Said'. Prove '..Said' where nothing that the law and all that it calls make is longer than what came in: it says more and counts as full. Else prove '..UptoSaid'. A law counts once. -/
mutual
def uptoBulk {H : Type} : DataW H → Nat
  | .lit (.string bytes) => bytes.length + 1
  | .lit _ => 1
  | .nil => 1
  | .ptr d => uptoBulk d + 1
  | .slice elems spare => uptoBulkAll elems + uptoBulkAll spare + 1
  | .agg parts => uptoBulkAll parts + 1
  | .iface _ d => uptoBulk d + 1
  | .map entries => uptoBulkEntries entries + 1
  | .held _ => 1
def uptoBulkAll {H : Type} : List (DataW H) → Nat
  | [] => 0
  | d :: r => uptoBulk d + uptoBulkAll r
def uptoBulkEntries {H : Type} : List (Lit × DataW H) → Nat
  | [] => 0
  | x :: r => uptoBulkEntry x + uptoBulkEntries r
def uptoBulkEntry {H : Type} : Lit × DataW H → Nat
  | (.string bytes, d) => bytes.length + uptoBulk d + 1
  | (_, d) => uptoBulk d + 1
 end
def uptoSmall : (H : Type) → List (DataW H) → Bool := fun _ ds => decide (uptoBulkAll ds ≤ 1048576)
def OpenSpec.upto (s : _root_.Go.ChangeSpec) : _root_.Go.OpenSpec := { _root_.Go.OpenSpec.ofChange s with cond := some uptoSmall }

/-- 'inlaylaw02.InstWords', WHERE WHAT IT READS IS OF BULK AT MOST 1048576: true; the input reads as it did. -/
def instWordsUptoRow : OpenClaim := { program := "ytjihaaibammbnaadoor", sum := "1d01a8cf0f9c3dbbd86958c494a182a0968970c08c0d9c0aeecf917a15d0cde2", func := "inlay/inlaylaw02.InstWords", spec := "instWords", unfollowed := true, recurses := true, named := ["inlay/inst.kinds"], apart := false, laid := [("inlay/inst.kinds", laid_inlay_inst_kinds)], narrowed := true }
def InstWordsUptoSaid : Prop := instWordsUptoRow.holds Tryd.pinned (OpenSpec.upto instWordsSpec)

/-- 'inlaylaw02.InstInstructions', WHERE WHAT IT READS IS OF BULK AT MOST 1048576: true; the input reads as it did. -/
def instInstructionsUptoRow : OpenClaim := { program := "ytjihaaibammbnaadoor", sum := "1d01a8cf0f9c3dbbd86958c494a182a0968970c08c0d9c0aeecf917a15d0cde2", func := "inlay/inlaylaw02.InstInstructions", spec := "instInstructions", unfollowed := true, recurses := true, named := ["inlay/inst.kinds"], apart := false, laid := [("inlay/inst.kinds", laid_inlay_inst_kinds)], narrowed := true }
def InstInstructionsUptoSaid : Prop := instInstructionsUptoRow.holds Tryd.pinned (OpenSpec.upto instInstructionsSpec)

/-- 'inlaylaw02.InstMoves', WHERE WHAT IT READS IS OF BULK AT MOST 1048576: true; the input reads as it did. -/
def instMovesUptoRow : OpenClaim := { program := "ytjihaaibammbnaadoor", sum := "1d01a8cf0f9c3dbbd86958c494a182a0968970c08c0d9c0aeecf917a15d0cde2", func := "inlay/inlaylaw02.InstMoves", spec := "instMoves", unfollowed := true, recurses := true, named := ["inlay/inst.kinds"], apart := false, laid := [("inlay/inst.kinds", laid_inlay_inst_kinds)], narrowed := true }
def InstMovesUptoSaid : Prop := instMovesUptoRow.holds Tryd.pinned (OpenSpec.upto instMovesSpec)

/-- 'inlaylaw02.InstTargets', WHERE WHAT IT READS IS OF BULK AT MOST 1048576: true; the input reads as it did. -/
def instTargetsUptoRow : OpenClaim := { program := "ytjihaaibammbnaadoor", sum := "1d01a8cf0f9c3dbbd86958c494a182a0968970c08c0d9c0aeecf917a15d0cde2", func := "inlay/inlaylaw02.InstTargets", spec := "instTargets", unfollowed := true, recurses := true, named := ["inlay/inst.kinds"], apart := false, laid := [("inlay/inst.kinds", laid_inlay_inst_kinds)], narrowed := true }
def InstTargetsUptoSaid : Prop := instTargetsUptoRow.holds Tryd.pinned (OpenSpec.upto instTargetsSpec)

/-- 'inlaylaw02.InstRefuses', WHERE WHAT IT READS IS OF BULK AT MOST 1048576: true; the input reads as it did. -/
def instRefusesUptoRow : OpenClaim := { program := "ytjihaaibammbnaadoor", sum := "1d01a8cf0f9c3dbbd86958c494a182a0968970c08c0d9c0aeecf917a15d0cde2", func := "inlay/inlaylaw02.InstRefuses", spec := "instRefuses", unfollowed := true, recurses := true, named := ["inlay/inst.kinds"], apart := false, laid := [("inlay/inst.kinds", laid_inlay_inst_kinds)], narrowed := true }
def InstRefusesUptoSaid : Prop := instRefusesUptoRow.holds Tryd.pinned (OpenSpec.upto instRefusesSpec)

/-- 'inlaylaw02.InstBytes', WHERE WHAT IT READS IS OF BULK AT MOST 1048576: true; the input reads as it did. -/
def instBytesUptoRow : OpenClaim := { program := "ytjihaaibammbnaadoor", sum := "1d01a8cf0f9c3dbbd86958c494a182a0968970c08c0d9c0aeecf917a15d0cde2", func := "inlay/inlaylaw02.InstBytes", spec := "instBytes", unfollowed := true, recurses := true, named := ["inlay/inst.kinds"], apart := false, laid := [("inlay/inst.kinds", laid_inlay_inst_kinds)], narrowed := true }
def InstBytesUptoSaid : Prop := instBytesUptoRow.holds Tryd.pinned (OpenSpec.upto instBytesSpec)

/-- 'inlaylaw02.InstTexts', WHERE WHAT IT READS IS OF BULK AT MOST 1048576: true; the input reads as it did. -/
def instTextsUptoRow : OpenClaim := { program := "ytjihaaibammbnaadoor", sum := "1d01a8cf0f9c3dbbd86958c494a182a0968970c08c0d9c0aeecf917a15d0cde2", func := "inlay/inlaylaw02.InstTexts", spec := "instTexts", unfollowed := true, recurses := true, named := ["inlay/inst.kinds"], apart := false, laid := [("inlay/inst.kinds", laid_inlay_inst_kinds)], narrowed := true }
def InstTextsUptoSaid : Prop := instTextsUptoRow.holds Tryd.pinned (OpenSpec.upto instTextsSpec)

end Rows
end Go.Proofs.YtjihaaibammbnaaDoor
