/-
  NARROWER THAN 'FOR EVERY INPUT', by the rows' own cells (each row's printed sentence says how): LabelMatchesReference: laid · LabelInverts: laid · LabelLowers: laid · LabelReads: laid · LabelSizes: laid.
  DERIVED. THE GIVEN ROWS OF THIS SEAT. 5 by the template 'for every input the law returns true; each argument reads behind the call as it read before'; 0 by the template 'total and deterministic' (their statements: YthejkhpeokeccaaDoorTotals.lean).
  GIVEN WITH THE SEED: the statements are not yours to turn. If you find one false, say at which input.
  Laid BY PROGRAM, IN A SANDBOX (cutbox-rows.mjs): the forced cells as the released guide's own fill.sh prints them over the translation e667913a451ccd7f… (all of the seat's roots in one cut). By AI agents, Wed Nov 11 2026. No macro, syntax, notation, axiom, sorry.
-/
import Derived.Test.YthejkhpeokeccaaDoorChecked
import GoSem.Claim
import GoSem.ClaimJoined
import GoSem.ClaimMapViews
import Derived.JoinedTies
import Derived.KernelRfl
namespace Go.Proofs.YthejkhpeokeccaaDoor
/- THE CELL 'sum', in the pinned program and in every row, IS THE sha256 OF THE DUMP (.gsa) THAT YthejkhpeokeccaaDoorProg.lean LOADS. Nothing in Lean hashes anything: it is a label: what it is worth is what the hold of that sum in a sandbox is worth. -/
noncomputable def Tryd.pinned : Pinned := { name := "ythejkhpeokeccaadoor", sum := "e667913a451ccd7f1a933e218cc73ad4665b251708203235210475102df7c602", checked := Tryd.checked }
namespace Rows
def none {H : Type} : Left H := { results := [], args := [] }

/- WHAT THE LISTED PACKAGE-LEVEL VARIABLES READ AS WHEN THE CALL BEGINS. Each datum BY PROGRAM (the guide's laid-datum.mjs) off the statement by which the dump's own 'gosem.cut.vars' lays the variable. In a bare row this is a premise. The card (YthejkhpeokeccaaDoorCards.lean) ties it to the program's text. -/
def laid_inlay_inst_kinds {H : Type} : DataW H := .agg [.agg [.lit (.string [100, 97, 116, 97]), .lit (.int .i64 0), .lit (.int .i64 32), .lit (.bool false), .lit (.bool false)], .agg [.lit (.string [97, 100, 100]), .lit (.int .i64 3), .lit (.int .i64 0), .lit (.bool false), .lit (.bool false)], .agg [.lit (.string [115, 101, 116]), .lit (.int .i64 1), .lit (.int .i64 16), .lit (.bool false), .lit (.bool false)], .agg [.lit (.string [108, 111, 97, 100]), .lit (.int .i64 3), .lit (.int .i64 0), .lit (.bool false), .lit (.bool false)], .agg [.lit (.string [115, 116, 111, 114, 101]), .lit (.int .i64 3), .lit (.int .i64 0), .lit (.bool false), .lit (.bool false)], .agg [.lit (.string [106, 117, 109, 112]), .lit (.int .i64 0), .lit (.int .i64 24), .lit (.bool true), .lit (.bool true)], .agg [.lit (.string [99, 97, 108, 108]), .lit (.int .i64 0), .lit (.int .i64 24), .lit (.bool true), .lit (.bool true)], .agg [.lit (.string [98, 114, 97, 110, 99, 104]), .lit (.int .i64 1), .lit (.int .i64 16), .lit (.bool true), .lit (.bool true)], .agg [.lit (.string [112, 111, 111, 108]), .lit (.int .i64 1), .lit (.int .i64 16), .lit (.bool false), .lit (.bool true)]]

/-- 'inlaylaw03.LabelMatchesReference': WHATEVER THE INPUT: true; the input reads as it did. -/
def labelMatchesReferenceSpec : ChangeSpec := { name := "labelMatchesReference", fn := fun _ => fun
  | [d1, d2] => { results := [.lit (.bool true)], args := [d1, d2] }
  | _ => none }
def labelMatchesReferenceRow : OpenClaim := { program := "ythejkhpeokeccaadoor", sum := "e667913a451ccd7f1a933e218cc73ad4665b251708203235210475102df7c602", func := "inlay/inlaylaw03.LabelMatchesReference", spec := "labelMatchesReference", unfollowed := true, recurses := true, named := ["inlay/inst.kinds"], apart := false, laid := [("inlay/inst.kinds", laid_inlay_inst_kinds)] }
def LabelMatchesReferenceSaid : Prop := labelMatchesReferenceRow.holds Tryd.pinned (OpenSpec.ofChange labelMatchesReferenceSpec)

/-- ITS FALSE NEIGHBOUR: 'it returns false'. Refute it at one input. -/
def labelMatchesReferenceWrong : ChangeSpec := { name := "labelMatchesReference", fn := fun _ => fun
  | [d1, d2] => { results := [.lit (.bool false)], args := [d1, d2] }
  | _ => none }
def LabelMatchesReferenceWrongFalsely : Prop := labelMatchesReferenceRow.holds Tryd.pinned (OpenSpec.ofChange labelMatchesReferenceWrong)

/-- 'inlaylaw03.LabelInverts': WHATEVER THE INPUT: true; the input reads as it did. -/
def labelInvertsSpec : ChangeSpec := { name := "labelInverts", fn := fun _ => fun
  | [d] => { results := [.lit (.bool true)], args := [d] }
  | _ => none }
def labelInvertsRow : OpenClaim := { program := "ythejkhpeokeccaadoor", sum := "e667913a451ccd7f1a933e218cc73ad4665b251708203235210475102df7c602", func := "inlay/inlaylaw03.LabelInverts", spec := "labelInverts", unfollowed := true, recurses := true, named := ["inlay/inst.kinds"], apart := false, laid := [("inlay/inst.kinds", laid_inlay_inst_kinds)] }
def LabelInvertsSaid : Prop := labelInvertsRow.holds Tryd.pinned (OpenSpec.ofChange labelInvertsSpec)

/-- ITS FALSE NEIGHBOUR: 'it returns false'. Refute it at one input. -/
def labelInvertsWrong : ChangeSpec := { name := "labelInverts", fn := fun _ => fun
  | [d] => { results := [.lit (.bool false)], args := [d] }
  | _ => none }
def LabelInvertsWrongFalsely : Prop := labelInvertsRow.holds Tryd.pinned (OpenSpec.ofChange labelInvertsWrong)

/-- 'inlaylaw03.LabelLowers': WHATEVER THE INPUT: true; the input reads as it did. -/
def labelLowersSpec : ChangeSpec := { name := "labelLowers", fn := fun _ => fun
  | [d1, d2, d3] => { results := [.lit (.bool true)], args := [d1, d2, d3] }
  | _ => none }
def labelLowersRow : OpenClaim := { program := "ythejkhpeokeccaadoor", sum := "e667913a451ccd7f1a933e218cc73ad4665b251708203235210475102df7c602", func := "inlay/inlaylaw03.LabelLowers", spec := "labelLowers", unfollowed := true, recurses := true, named := ["inlay/inst.kinds"], apart := false, laid := [("inlay/inst.kinds", laid_inlay_inst_kinds)] }
def LabelLowersSaid : Prop := labelLowersRow.holds Tryd.pinned (OpenSpec.ofChange labelLowersSpec)

/-- ITS FALSE NEIGHBOUR: 'it returns false'. Refute it at one input. -/
def labelLowersWrong : ChangeSpec := { name := "labelLowers", fn := fun _ => fun
  | [d1, d2, d3] => { results := [.lit (.bool false)], args := [d1, d2, d3] }
  | _ => none }
def LabelLowersWrongFalsely : Prop := labelLowersRow.holds Tryd.pinned (OpenSpec.ofChange labelLowersWrong)

/-- 'inlaylaw03.LabelReads': WHATEVER THE INPUT: true; the input reads as it did. -/
def labelReadsSpec : ChangeSpec := { name := "labelReads", fn := fun _ => fun
  | [d1, d2, d3] => { results := [.lit (.bool true)], args := [d1, d2, d3] }
  | _ => none }
def labelReadsRow : OpenClaim := { program := "ythejkhpeokeccaadoor", sum := "e667913a451ccd7f1a933e218cc73ad4665b251708203235210475102df7c602", func := "inlay/inlaylaw03.LabelReads", spec := "labelReads", unfollowed := true, recurses := true, named := ["inlay/inst.kinds"], apart := false, laid := [("inlay/inst.kinds", laid_inlay_inst_kinds)] }
def LabelReadsSaid : Prop := labelReadsRow.holds Tryd.pinned (OpenSpec.ofChange labelReadsSpec)

/-- ITS FALSE NEIGHBOUR: 'it returns false'. Refute it at one input. -/
def labelReadsWrong : ChangeSpec := { name := "labelReads", fn := fun _ => fun
  | [d1, d2, d3] => { results := [.lit (.bool false)], args := [d1, d2, d3] }
  | _ => none }
def LabelReadsWrongFalsely : Prop := labelReadsRow.holds Tryd.pinned (OpenSpec.ofChange labelReadsWrong)

/-- 'inlaylaw03.LabelSizes': WHATEVER THE INPUT: true; the input reads as it did. -/
def labelSizesSpec : ChangeSpec := { name := "labelSizes", fn := fun _ => fun
  | [d1, d2, d3] => { results := [.lit (.bool true)], args := [d1, d2, d3] }
  | _ => none }
def labelSizesRow : OpenClaim := { program := "ythejkhpeokeccaadoor", sum := "e667913a451ccd7f1a933e218cc73ad4665b251708203235210475102df7c602", func := "inlay/inlaylaw03.LabelSizes", spec := "labelSizes", unfollowed := true, recurses := true, named := ["inlay/inst.kinds"], apart := false, laid := [("inlay/inst.kinds", laid_inlay_inst_kinds)] }
def LabelSizesSaid : Prop := labelSizesRow.holds Tryd.pinned (OpenSpec.ofChange labelSizesSpec)

/-- ITS FALSE NEIGHBOUR: 'it returns false'. Refute it at one input. -/
def labelSizesWrong : ChangeSpec := { name := "labelSizes", fn := fun _ => fun
  | [d1, d2, d3] => { results := [.lit (.bool false)], args := [d1, d2, d3] }
  | _ => none }
def LabelSizesWrongFalsely : Prop := labelSizesRow.holds Tryd.pinned (OpenSpec.ofChange labelSizesWrong)

/- THE SECOND FORM. 'bulk': how many values and letters a reading holds, each counted each time it is reached (what is shared counts as often as it is met; a slice's spare places count too). A statement '..UptoSaid' is the law's where the arguments, and the package variables that the reading takes, are together of bulk at most 1048576: NARROWER than '..Said'. Prove '..Said' where nothing that the law and all that it calls make is longer than what came in: it says more and counts as full. Else prove '..UptoSaid'. A law counts once. -/
mutual
def uptoBulk {H : Type} : DataW H → Nat
  | .lit (.string bytes) => bytes.length + 1
  | .lit _ => 1
  | .nil => 1
  | .ptr d => uptoBulk d + 1
  | .slice elems spare => uptoBulkAll elems + uptoBulkAll spare + 1
  | .agg parts => uptoBulkAll parts + 1
  | .iface _ d => uptoBulk d + 1
  | .map entries => uptoBulkEntries entries + 1
  | .held _ => 1
def uptoBulkAll {H : Type} : List (DataW H) → Nat
  | [] => 0
  | d :: r => uptoBulk d + uptoBulkAll r
def uptoBulkEntries {H : Type} : List (Lit × DataW H) → Nat
  | [] => 0
  | x :: r => uptoBulkEntry x + uptoBulkEntries r
def uptoBulkEntry {H : Type} : Lit × DataW H → Nat
  | (.string bytes, d) => bytes.length + uptoBulk d + 1
  | (_, d) => uptoBulk d + 1
 end
def uptoSmall : (H : Type) → List (DataW H) → Bool := fun _ ds => decide (uptoBulkAll ds ≤ 1048576)
def OpenSpec.upto (s : _root_.Go.ChangeSpec) : _root_.Go.OpenSpec := { _root_.Go.OpenSpec.ofChange s with cond := some uptoSmall }

/-- 'inlaylaw03.LabelMatchesReference', WHERE WHAT IT READS IS OF BULK AT MOST 1048576: true; the input reads as it did. -/
def labelMatchesReferenceUptoRow : OpenClaim := { program := "ythejkhpeokeccaadoor", sum := "e667913a451ccd7f1a933e218cc73ad4665b251708203235210475102df7c602", func := "inlay/inlaylaw03.LabelMatchesReference", spec := "labelMatchesReference", unfollowed := true, recurses := true, named := ["inlay/inst.kinds"], apart := false, laid := [("inlay/inst.kinds", laid_inlay_inst_kinds)], narrowed := true }
def LabelMatchesReferenceUptoSaid : Prop := labelMatchesReferenceUptoRow.holds Tryd.pinned (OpenSpec.upto labelMatchesReferenceSpec)

/-- 'inlaylaw03.LabelInverts', WHERE WHAT IT READS IS OF BULK AT MOST 1048576: true; the input reads as it did. -/
def labelInvertsUptoRow : OpenClaim := { program := "ythejkhpeokeccaadoor", sum := "e667913a451ccd7f1a933e218cc73ad4665b251708203235210475102df7c602", func := "inlay/inlaylaw03.LabelInverts", spec := "labelInverts", unfollowed := true, recurses := true, named := ["inlay/inst.kinds"], apart := false, laid := [("inlay/inst.kinds", laid_inlay_inst_kinds)], narrowed := true }
def LabelInvertsUptoSaid : Prop := labelInvertsUptoRow.holds Tryd.pinned (OpenSpec.upto labelInvertsSpec)

/-- 'inlaylaw03.LabelLowers', WHERE WHAT IT READS IS OF BULK AT MOST 1048576: true; the input reads as it did. -/
def labelLowersUptoRow : OpenClaim := { program := "ythejkhpeokeccaadoor", sum := "e667913a451ccd7f1a933e218cc73ad4665b251708203235210475102df7c602", func := "inlay/inlaylaw03.LabelLowers", spec := "labelLowers", unfollowed := true, recurses := true, named := ["inlay/inst.kinds"], apart := false, laid := [("inlay/inst.kinds", laid_inlay_inst_kinds)], narrowed := true }
def LabelLowersUptoSaid : Prop := labelLowersUptoRow.holds Tryd.pinned (OpenSpec.upto labelLowersSpec)

/-- 'inlaylaw03.LabelReads', WHERE WHAT IT READS IS OF BULK AT MOST 1048576: true; the input reads as it did. -/
def labelReadsUptoRow : OpenClaim := { program := "ythejkhpeokeccaadoor", sum := "e667913a451ccd7f1a933e218cc73ad4665b251708203235210475102df7c602", func := "inlay/inlaylaw03.LabelReads", spec := "labelReads", unfollowed := true, recurses := true, named := ["inlay/inst.kinds"], apart := false, laid := [("inlay/inst.kinds", laid_inlay_inst_kinds)], narrowed := true }
def LabelReadsUptoSaid : Prop := labelReadsUptoRow.holds Tryd.pinned (OpenSpec.upto labelReadsSpec)

/-- 'inlaylaw03.LabelSizes', WHERE WHAT IT READS IS OF BULK AT MOST 1048576: true; the input reads as it did. -/
def labelSizesUptoRow : OpenClaim := { program := "ythejkhpeokeccaadoor", sum := "e667913a451ccd7f1a933e218cc73ad4665b251708203235210475102df7c602", func := "inlay/inlaylaw03.LabelSizes", spec := "labelSizes", unfollowed := true, recurses := true, named := ["inlay/inst.kinds"], apart := false, laid := [("inlay/inst.kinds", laid_inlay_inst_kinds)], narrowed := true }
def LabelSizesUptoSaid : Prop := labelSizesUptoRow.holds Tryd.pinned (OpenSpec.upto labelSizesSpec)

end Rows
end Go.Proofs.YthejkhpeokeccaaDoor
