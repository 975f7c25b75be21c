/-
  NARROWER THAN 'FOR EVERY INPUT', by the rows' own cells (each row's printed sentence says how): NormalMatchesReference: laid · NormalLeast: laid · NormalOnce: laid · NormalJoins: laid · NormalRuns: laid · NormalCuts: laid · NormalRefuses: laid.
  DERIVED. THE GIVEN ROWS OF THIS SEAT. 7 by the template 'for every input the law returns true; each argument reads behind the call as it read before'; 0 by the template 'total and deterministic' (their statements: YtkiicobbnllpkaaDoorTotals.lean).
  GIVEN WITH THE SEED: the statements are not yours to turn. If you find one false, say at which input.
  Laid BY PROGRAM, IN A SANDBOX (cutbox-rows.mjs): the forced cells as the released guide's own fill.sh prints them over the translation a6d641dca031cf07… (all of the seat's roots in one cut). By AI agents, Wed Nov 11 2026. No macro, syntax, notation, axiom, sorry.
-/
import Derived.Test.YtkiicobbnllpkaaDoorChecked
import GoSem.Claim
import GoSem.ClaimJoined
import GoSem.ClaimMapViews
import Derived.JoinedTies
import Derived.KernelRfl
namespace Go.Proofs.YtkiicobbnllpkaaDoor
/- THE CELL 'sum', in the pinned program and in every row, IS THE sha256 OF THE DUMP (.gsa) THAT YtkiicobbnllpkaaDoorProg.lean LOADS. Nothing in Lean hashes anything: it is a label: what it is worth is what the hold of that sum in a sandbox is worth. -/
noncomputable def Tryd.pinned : Pinned := { name := "ytkiicobbnllpkaadoor", sum := "a6d641dca031cf077b3d0ff96c677a7c1ffd81b1601e01d204ccfb66b70f87e1", checked := Tryd.checked }
namespace Rows
def none {H : Type} : Left H := { results := [], args := [] }

/- WHAT THE LISTED PACKAGE-LEVEL VARIABLES READ AS WHEN THE CALL BEGINS. Each datum BY PROGRAM (the guide's laid-datum.mjs) off the statement by which the dump's own 'gosem.cut.vars' lays the variable. In a bare row this is a premise. The card (YtkiicobbnllpkaaDoorCards.lean) ties it to the program's text. -/
def laid_inlay_normal_costs {H : Type} : DataW H := .agg [.agg [.lit (.int .i64 0), .lit (.int .i64 0)], .agg [.lit (.int .i64 4), .lit (.int .i64 0)], .agg [.lit (.int .i64 4), .lit (.int .i64 1)], .agg [.lit (.int .i64 4), .lit (.int .i64 0)], .agg [.lit (.int .i64 2), .lit (.int .i64 1)]]

/-- 'inlaylaw08.NormalMatchesReference': WHATEVER THE INPUT: true; the input reads as it did. -/
def normalMatchesReferenceSpec : ChangeSpec := { name := "normalMatchesReference", fn := fun _ => fun
  | [d1, d2, d3] => { results := [.lit (.bool true)], args := [d1, d2, d3] }
  | _ => none }
def normalMatchesReferenceRow : OpenClaim := { program := "ytkiicobbnllpkaadoor", sum := "a6d641dca031cf077b3d0ff96c677a7c1ffd81b1601e01d204ccfb66b70f87e1", func := "inlay/inlaylaw08.NormalMatchesReference", spec := "normalMatchesReference", unfollowed := true, recurses := true, named := ["inlay/normal.costs"], apart := false, laid := [("inlay/normal.costs", laid_inlay_normal_costs)] }
def NormalMatchesReferenceSaid : Prop := normalMatchesReferenceRow.holds Tryd.pinned (OpenSpec.ofChange normalMatchesReferenceSpec)

/-- ITS FALSE NEIGHBOUR: 'it returns false'. Refute it at one input. -/
def normalMatchesReferenceWrong : ChangeSpec := { name := "normalMatchesReference", fn := fun _ => fun
  | [d1, d2, d3] => { results := [.lit (.bool false)], args := [d1, d2, d3] }
  | _ => none }
def NormalMatchesReferenceWrongFalsely : Prop := normalMatchesReferenceRow.holds Tryd.pinned (OpenSpec.ofChange normalMatchesReferenceWrong)

/-- 'inlaylaw08.NormalLeast': WHATEVER THE INPUT: true; the input reads as it did. -/
def normalLeastSpec : ChangeSpec := { name := "normalLeast", fn := fun _ => fun
  | [d1, d2] => { results := [.lit (.bool true)], args := [d1, d2] }
  | _ => none }
def normalLeastRow : OpenClaim := { program := "ytkiicobbnllpkaadoor", sum := "a6d641dca031cf077b3d0ff96c677a7c1ffd81b1601e01d204ccfb66b70f87e1", func := "inlay/inlaylaw08.NormalLeast", spec := "normalLeast", unfollowed := true, recurses := true, named := ["inlay/normal.costs"], apart := false, laid := [("inlay/normal.costs", laid_inlay_normal_costs)] }
def NormalLeastSaid : Prop := normalLeastRow.holds Tryd.pinned (OpenSpec.ofChange normalLeastSpec)

/-- ITS FALSE NEIGHBOUR: 'it returns false'. Refute it at one input. -/
def normalLeastWrong : ChangeSpec := { name := "normalLeast", fn := fun _ => fun
  | [d1, d2] => { results := [.lit (.bool false)], args := [d1, d2] }
  | _ => none }
def NormalLeastWrongFalsely : Prop := normalLeastRow.holds Tryd.pinned (OpenSpec.ofChange normalLeastWrong)

/-- 'inlaylaw08.NormalOnce': WHATEVER THE INPUT: true; the input reads as it did. -/
def normalOnceSpec : ChangeSpec := { name := "normalOnce", fn := fun _ => fun
  | [d1, d2, d3] => { results := [.lit (.bool true)], args := [d1, d2, d3] }
  | _ => none }
def normalOnceRow : OpenClaim := { program := "ytkiicobbnllpkaadoor", sum := "a6d641dca031cf077b3d0ff96c677a7c1ffd81b1601e01d204ccfb66b70f87e1", func := "inlay/inlaylaw08.NormalOnce", spec := "normalOnce", unfollowed := true, recurses := true, named := ["inlay/normal.costs"], apart := false, laid := [("inlay/normal.costs", laid_inlay_normal_costs)] }
def NormalOnceSaid : Prop := normalOnceRow.holds Tryd.pinned (OpenSpec.ofChange normalOnceSpec)

/-- ITS FALSE NEIGHBOUR: 'it returns false'. Refute it at one input. -/
def normalOnceWrong : ChangeSpec := { name := "normalOnce", fn := fun _ => fun
  | [d1, d2, d3] => { results := [.lit (.bool false)], args := [d1, d2, d3] }
  | _ => none }
def NormalOnceWrongFalsely : Prop := normalOnceRow.holds Tryd.pinned (OpenSpec.ofChange normalOnceWrong)

/-- 'inlaylaw08.NormalJoins': WHATEVER THE INPUT: true; the input reads as it did. -/
def normalJoinsSpec : ChangeSpec := { name := "normalJoins", fn := fun _ => fun
  | [d1, d2, d3] => { results := [.lit (.bool true)], args := [d1, d2, d3] }
  | _ => none }
def normalJoinsRow : OpenClaim := { program := "ytkiicobbnllpkaadoor", sum := "a6d641dca031cf077b3d0ff96c677a7c1ffd81b1601e01d204ccfb66b70f87e1", func := "inlay/inlaylaw08.NormalJoins", spec := "normalJoins", unfollowed := true, recurses := true, named := ["inlay/normal.costs"], apart := false, laid := [("inlay/normal.costs", laid_inlay_normal_costs)] }
def NormalJoinsSaid : Prop := normalJoinsRow.holds Tryd.pinned (OpenSpec.ofChange normalJoinsSpec)

/-- ITS FALSE NEIGHBOUR: 'it returns false'. Refute it at one input. -/
def normalJoinsWrong : ChangeSpec := { name := "normalJoins", fn := fun _ => fun
  | [d1, d2, d3] => { results := [.lit (.bool false)], args := [d1, d2, d3] }
  | _ => none }
def NormalJoinsWrongFalsely : Prop := normalJoinsRow.holds Tryd.pinned (OpenSpec.ofChange normalJoinsWrong)

/-- 'inlaylaw08.NormalRuns': WHATEVER THE INPUT: true; the input reads as it did. -/
def normalRunsSpec : ChangeSpec := { name := "normalRuns", fn := fun _ => fun
  | [d1, d2, d3] => { results := [.lit (.bool true)], args := [d1, d2, d3] }
  | _ => none }
def normalRunsRow : OpenClaim := { program := "ytkiicobbnllpkaadoor", sum := "a6d641dca031cf077b3d0ff96c677a7c1ffd81b1601e01d204ccfb66b70f87e1", func := "inlay/inlaylaw08.NormalRuns", spec := "normalRuns", unfollowed := true, recurses := true, named := ["inlay/normal.costs"], apart := false, laid := [("inlay/normal.costs", laid_inlay_normal_costs)] }
def NormalRunsSaid : Prop := normalRunsRow.holds Tryd.pinned (OpenSpec.ofChange normalRunsSpec)

/-- ITS FALSE NEIGHBOUR: 'it returns false'. Refute it at one input. -/
def normalRunsWrong : ChangeSpec := { name := "normalRuns", fn := fun _ => fun
  | [d1, d2, d3] => { results := [.lit (.bool false)], args := [d1, d2, d3] }
  | _ => none }
def NormalRunsWrongFalsely : Prop := normalRunsRow.holds Tryd.pinned (OpenSpec.ofChange normalRunsWrong)

/-- 'inlaylaw08.NormalCuts': WHATEVER THE INPUT: true; the input reads as it did. -/
def normalCutsSpec : ChangeSpec := { name := "normalCuts", fn := fun _ => fun
  | [d1, d2] => { results := [.lit (.bool true)], args := [d1, d2] }
  | _ => none }
def normalCutsRow : OpenClaim := { program := "ytkiicobbnllpkaadoor", sum := "a6d641dca031cf077b3d0ff96c677a7c1ffd81b1601e01d204ccfb66b70f87e1", func := "inlay/inlaylaw08.NormalCuts", spec := "normalCuts", unfollowed := true, recurses := true, named := ["inlay/normal.costs"], apart := false, laid := [("inlay/normal.costs", laid_inlay_normal_costs)] }
def NormalCutsSaid : Prop := normalCutsRow.holds Tryd.pinned (OpenSpec.ofChange normalCutsSpec)

/-- ITS FALSE NEIGHBOUR: 'it returns false'. Refute it at one input. -/
def normalCutsWrong : ChangeSpec := { name := "normalCuts", fn := fun _ => fun
  | [d1, d2] => { results := [.lit (.bool false)], args := [d1, d2] }
  | _ => none }
def NormalCutsWrongFalsely : Prop := normalCutsRow.holds Tryd.pinned (OpenSpec.ofChange normalCutsWrong)

/-- 'inlaylaw08.NormalRefuses': WHATEVER THE INPUT: true; the input reads as it did. -/
def normalRefusesSpec : ChangeSpec := { name := "normalRefuses", fn := fun _ => fun
  | [d1, d2, d3] => { results := [.lit (.bool true)], args := [d1, d2, d3] }
  | _ => none }
def normalRefusesRow : OpenClaim := { program := "ytkiicobbnllpkaadoor", sum := "a6d641dca031cf077b3d0ff96c677a7c1ffd81b1601e01d204ccfb66b70f87e1", func := "inlay/inlaylaw08.NormalRefuses", spec := "normalRefuses", unfollowed := true, recurses := true, named := ["inlay/normal.costs"], apart := false, laid := [("inlay/normal.costs", laid_inlay_normal_costs)] }
def NormalRefusesSaid : Prop := normalRefusesRow.holds Tryd.pinned (OpenSpec.ofChange normalRefusesSpec)

/-- ITS FALSE NEIGHBOUR: 'it returns false'. Refute it at one input. -/
def normalRefusesWrong : ChangeSpec := { name := "normalRefuses", fn := fun _ => fun
  | [d1, d2, d3] => { results := [.lit (.bool false)], args := [d1, d2, d3] }
  | _ => none }
def NormalRefusesWrongFalsely : Prop := normalRefusesRow.holds Tryd.pinned (OpenSpec.ofChange normalRefusesWrong)

/- THE SECOND FORM. 'bulk': how many values and letters a reading holds, each counted each time it is reached (what is shared counts as often as it is met; a slice's spare places count too). A statement '..UptoSaid' is the law's where the arguments, and the package variables that the reading takes, are together of bulk at most 1048576: NARROWER than '..Said'. Prove '..Said' where nothing that the law and all that it calls make is longer than what came in: it says more and counts as full. Else prove '..UptoSaid'. A law counts once. -/
mutual
def uptoBulk {H : Type} : DataW H → Nat
  | .lit (.string bytes) => bytes.length + 1
  | .lit _ => 1
  | .nil => 1
  | .ptr d => uptoBulk d + 1
  | .slice elems spare => uptoBulkAll elems + uptoBulkAll spare + 1
  | .agg parts => uptoBulkAll parts + 1
  | .iface _ d => uptoBulk d + 1
  | .map entries => uptoBulkEntries entries + 1
  | .held _ => 1
def uptoBulkAll {H : Type} : List (DataW H) → Nat
  | [] => 0
  | d :: r => uptoBulk d + uptoBulkAll r
def uptoBulkEntries {H : Type} : List (Lit × DataW H) → Nat
  | [] => 0
  | x :: r => uptoBulkEntry x + uptoBulkEntries r
def uptoBulkEntry {H : Type} : Lit × DataW H → Nat
  | (.string bytes, d) => bytes.length + uptoBulk d + 1
  | (_, d) => uptoBulk d + 1
 end
def uptoSmall : (H : Type) → List (DataW H) → Bool := fun _ ds => decide (uptoBulkAll ds ≤ 1048576)
def OpenSpec.upto (s : _root_.Go.ChangeSpec) : _root_.Go.OpenSpec := { _root_.Go.OpenSpec.ofChange s with cond := some uptoSmall }

/-- 'inlaylaw08.NormalMatchesReference', WHERE WHAT IT READS IS OF BULK AT MOST 1048576: true; the input reads as it did. -/
def normalMatchesReferenceUptoRow : OpenClaim := { program := "ytkiicobbnllpkaadoor", sum := "a6d641dca031cf077b3d0ff96c677a7c1ffd81b1601e01d204ccfb66b70f87e1", func := "inlay/inlaylaw08.NormalMatchesReference", spec := "normalMatchesReference", unfollowed := true, recurses := true, named := ["inlay/normal.costs"], apart := false, laid := [("inlay/normal.costs", laid_inlay_normal_costs)], narrowed := true }
def NormalMatchesReferenceUptoSaid : Prop := normalMatchesReferenceUptoRow.holds Tryd.pinned (OpenSpec.upto normalMatchesReferenceSpec)

/-- 'inlaylaw08.NormalLeast', WHERE WHAT IT READS IS OF BULK AT MOST 1048576: true; the input reads as it did. -/
def normalLeastUptoRow : OpenClaim := { program := "ytkiicobbnllpkaadoor", sum := "a6d641dca031cf077b3d0ff96c677a7c1ffd81b1601e01d204ccfb66b70f87e1", func := "inlay/inlaylaw08.NormalLeast", spec := "normalLeast", unfollowed := true, recurses := true, named := ["inlay/normal.costs"], apart := false, laid := [("inlay/normal.costs", laid_inlay_normal_costs)], narrowed := true }
def NormalLeastUptoSaid : Prop := normalLeastUptoRow.holds Tryd.pinned (OpenSpec.upto normalLeastSpec)

/-- 'inlaylaw08.NormalOnce', WHERE WHAT IT READS IS OF BULK AT MOST 1048576: true; the input reads as it did. -/
def normalOnceUptoRow : OpenClaim := { program := "ytkiicobbnllpkaadoor", sum := "a6d641dca031cf077b3d0ff96c677a7c1ffd81b1601e01d204ccfb66b70f87e1", func := "inlay/inlaylaw08.NormalOnce", spec := "normalOnce", unfollowed := true, recurses := true, named := ["inlay/normal.costs"], apart := false, laid := [("inlay/normal.costs", laid_inlay_normal_costs)], narrowed := true }
def NormalOnceUptoSaid : Prop := normalOnceUptoRow.holds Tryd.pinned (OpenSpec.upto normalOnceSpec)

/-- 'inlaylaw08.NormalJoins', WHERE WHAT IT READS IS OF BULK AT MOST 1048576: true; the input reads as it did. -/
def normalJoinsUptoRow : OpenClaim := { program := "ytkiicobbnllpkaadoor", sum := "a6d641dca031cf077b3d0ff96c677a7c1ffd81b1601e01d204ccfb66b70f87e1", func := "inlay/inlaylaw08.NormalJoins", spec := "normalJoins", unfollowed := true, recurses := true, named := ["inlay/normal.costs"], apart := false, laid := [("inlay/normal.costs", laid_inlay_normal_costs)], narrowed := true }
def NormalJoinsUptoSaid : Prop := normalJoinsUptoRow.holds Tryd.pinned (OpenSpec.upto normalJoinsSpec)

/-- 'inlaylaw08.NormalRuns', WHERE WHAT IT READS IS OF BULK AT MOST 1048576: true; the input reads as it did. -/
def normalRunsUptoRow : OpenClaim := { program := "ytkiicobbnllpkaadoor", sum := "a6d641dca031cf077b3d0ff96c677a7c1ffd81b1601e01d204ccfb66b70f87e1", func := "inlay/inlaylaw08.NormalRuns", spec := "normalRuns", unfollowed := true, recurses := true, named := ["inlay/normal.costs"], apart := false, laid := [("inlay/normal.costs", laid_inlay_normal_costs)], narrowed := true }
def NormalRunsUptoSaid : Prop := normalRunsUptoRow.holds Tryd.pinned (OpenSpec.upto normalRunsSpec)

/-- 'inlaylaw08.NormalCuts', WHERE WHAT IT READS IS OF BULK AT MOST 1048576: true; the input reads as it did. -/
def normalCutsUptoRow : OpenClaim := { program := "ytkiicobbnllpkaadoor", sum := "a6d641dca031cf077b3d0ff96c677a7c1ffd81b1601e01d204ccfb66b70f87e1", func := "inlay/inlaylaw08.NormalCuts", spec := "normalCuts", unfollowed := true, recurses := true, named := ["inlay/normal.costs"], apart := false, laid := [("inlay/normal.costs", laid_inlay_normal_costs)], narrowed := true }
def NormalCutsUptoSaid : Prop := normalCutsUptoRow.holds Tryd.pinned (OpenSpec.upto normalCutsSpec)

/-- 'inlaylaw08.NormalRefuses', WHERE WHAT IT READS IS OF BULK AT MOST 1048576: true; the input reads as it did. -/
def normalRefusesUptoRow : OpenClaim := { program := "ytkiicobbnllpkaadoor", sum := "a6d641dca031cf077b3d0ff96c677a7c1ffd81b1601e01d204ccfb66b70f87e1", func := "inlay/inlaylaw08.NormalRefuses", spec := "normalRefuses", unfollowed := true, recurses := true, named := ["inlay/normal.costs"], apart := false, laid := [("inlay/normal.costs", laid_inlay_normal_costs)], narrowed := true }
def NormalRefusesUptoSaid : Prop := normalRefusesUptoRow.holds Tryd.pinned (OpenSpec.upto normalRefusesSpec)

end Rows
end Go.Proofs.YtkiicobbnllpkaaDoor
