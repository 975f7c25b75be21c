/-
  NARROWER THAN 'FOR EVERY INPUT', by the rows' own cells (each row's printed sentence says how): ComposeMatchesReference: laid · ComposeGroups: laid · ComposeWhole: laid · ComposeLeast: laid · ComposeThrough: laid · ComposeRefuses: laid.
  DERIVED. THE GIVEN ROWS OF THIS SEAT. 6 by the template 'for every input the law returns true; each argument reads behind the call as it read before'; 0 by the template 'total and deterministic' (their statements: YticpkibnhakgbaaDoorTotals.lean).
  GIVEN WITH THE SEED: the statements are not yours to turn. If you find one false, say at which input.
  Laid BY PROGRAM, IN A SANDBOX (cutbox-rows.mjs): the forced cells as the released guide's own fill.sh prints them over the translation 02a2051f59a18113… (all of the seat's roots in one cut). By AI agents, Wed Nov 11 2026. No macro, syntax, notation, axiom, sorry.
-/
import Derived.Test.YticpkibnhakgbaaDoorChecked
import GoSem.Claim
import GoSem.ClaimJoined
import GoSem.ClaimMapViews
import Derived.JoinedTies
import Derived.KernelRfl
namespace Go.Proofs.YticpkibnhakgbaaDoor
/- THE CELL 'sum', in the pinned program and in every row, IS THE sha256 OF THE DUMP (.gsa) THAT YticpkibnhakgbaaDoorProg.lean LOADS. Nothing in Lean hashes anything: it is a label: what it is worth is what the hold of that sum in a sandbox is worth. -/
noncomputable def Tryd.pinned : Pinned := { name := "yticpkibnhakgbaadoor", sum := "02a2051f59a18113c9db1809222b2cb6f83727ecda28dd48f3957ef89bffa6f4", checked := Tryd.checked }
namespace Rows
def none {H : Type} : Left H := { results := [], args := [] }

/- WHAT THE LISTED PACKAGE-LEVEL VARIABLES READ AS WHEN THE CALL BEGINS. Each datum BY PROGRAM (the guide's laid-datum.mjs) off the statement by which the dump's own 'gosem.cut.vars' lays the variable. In a bare row this is a premise. The card (YticpkibnhakgbaaDoorCards.lean) ties it to the program's text. -/
def laid_inlay_normal_costs {H : Type} : DataW H := .agg [.agg [.lit (.int .i64 0), .lit (.int .i64 0)], .agg [.lit (.int .i64 4), .lit (.int .i64 0)], .agg [.lit (.int .i64 4), .lit (.int .i64 1)], .agg [.lit (.int .i64 4), .lit (.int .i64 0)], .agg [.lit (.int .i64 2), .lit (.int .i64 1)]]

/-- 'inlaylaw09.ComposeMatchesReference': WHATEVER THE INPUT: true; the input reads as it did. -/
def composeMatchesReferenceSpec : ChangeSpec := { name := "composeMatchesReference", fn := fun _ => fun
  | [d1, d2, d3] => { results := [.lit (.bool true)], args := [d1, d2, d3] }
  | _ => none }
def composeMatchesReferenceRow : OpenClaim := { program := "yticpkibnhakgbaadoor", sum := "02a2051f59a18113c9db1809222b2cb6f83727ecda28dd48f3957ef89bffa6f4", func := "inlay/inlaylaw09.ComposeMatchesReference", spec := "composeMatchesReference", unfollowed := true, recurses := true, named := ["inlay/normal.costs"], apart := false, laid := [("inlay/normal.costs", laid_inlay_normal_costs)] }
def ComposeMatchesReferenceSaid : Prop := composeMatchesReferenceRow.holds Tryd.pinned (OpenSpec.ofChange composeMatchesReferenceSpec)

/-- ITS FALSE NEIGHBOUR: 'it returns false'. Refute it at one input. -/
def composeMatchesReferenceWrong : ChangeSpec := { name := "composeMatchesReference", fn := fun _ => fun
  | [d1, d2, d3] => { results := [.lit (.bool false)], args := [d1, d2, d3] }
  | _ => none }
def ComposeMatchesReferenceWrongFalsely : Prop := composeMatchesReferenceRow.holds Tryd.pinned (OpenSpec.ofChange composeMatchesReferenceWrong)

/-- 'inlaylaw09.ComposeGroups': WHATEVER THE INPUT: true; the input reads as it did. -/
def composeGroupsSpec : ChangeSpec := { name := "composeGroups", fn := fun _ => fun
  | [d1, d2] => { results := [.lit (.bool true)], args := [d1, d2] }
  | _ => none }
def composeGroupsRow : OpenClaim := { program := "yticpkibnhakgbaadoor", sum := "02a2051f59a18113c9db1809222b2cb6f83727ecda28dd48f3957ef89bffa6f4", func := "inlay/inlaylaw09.ComposeGroups", spec := "composeGroups", unfollowed := true, recurses := true, named := ["inlay/normal.costs"], apart := false, laid := [("inlay/normal.costs", laid_inlay_normal_costs)] }
def ComposeGroupsSaid : Prop := composeGroupsRow.holds Tryd.pinned (OpenSpec.ofChange composeGroupsSpec)

/-- ITS FALSE NEIGHBOUR: 'it returns false'. Refute it at one input. -/
def composeGroupsWrong : ChangeSpec := { name := "composeGroups", fn := fun _ => fun
  | [d1, d2] => { results := [.lit (.bool false)], args := [d1, d2] }
  | _ => none }
def ComposeGroupsWrongFalsely : Prop := composeGroupsRow.holds Tryd.pinned (OpenSpec.ofChange composeGroupsWrong)

/-- 'inlaylaw09.ComposeWhole': WHATEVER THE INPUT: true; the input reads as it did. -/
def composeWholeSpec : ChangeSpec := { name := "composeWhole", fn := fun _ => fun
  | [d1, d2] => { results := [.lit (.bool true)], args := [d1, d2] }
  | _ => none }
def composeWholeRow : OpenClaim := { program := "yticpkibnhakgbaadoor", sum := "02a2051f59a18113c9db1809222b2cb6f83727ecda28dd48f3957ef89bffa6f4", func := "inlay/inlaylaw09.ComposeWhole", spec := "composeWhole", unfollowed := true, recurses := true, named := ["inlay/normal.costs"], apart := false, laid := [("inlay/normal.costs", laid_inlay_normal_costs)] }
def ComposeWholeSaid : Prop := composeWholeRow.holds Tryd.pinned (OpenSpec.ofChange composeWholeSpec)

/-- ITS FALSE NEIGHBOUR: 'it returns false'. Refute it at one input. -/
def composeWholeWrong : ChangeSpec := { name := "composeWhole", fn := fun _ => fun
  | [d1, d2] => { results := [.lit (.bool false)], args := [d1, d2] }
  | _ => none }
def ComposeWholeWrongFalsely : Prop := composeWholeRow.holds Tryd.pinned (OpenSpec.ofChange composeWholeWrong)

/-- 'inlaylaw09.ComposeLeast': WHATEVER THE INPUT: true; the input reads as it did. -/
def composeLeastSpec : ChangeSpec := { name := "composeLeast", fn := fun _ => fun
  | [d1, d2] => { results := [.lit (.bool true)], args := [d1, d2] }
  | _ => none }
def composeLeastRow : OpenClaim := { program := "yticpkibnhakgbaadoor", sum := "02a2051f59a18113c9db1809222b2cb6f83727ecda28dd48f3957ef89bffa6f4", func := "inlay/inlaylaw09.ComposeLeast", spec := "composeLeast", unfollowed := true, recurses := true, named := ["inlay/normal.costs"], apart := false, laid := [("inlay/normal.costs", laid_inlay_normal_costs)] }
def ComposeLeastSaid : Prop := composeLeastRow.holds Tryd.pinned (OpenSpec.ofChange composeLeastSpec)

/-- ITS FALSE NEIGHBOUR: 'it returns false'. Refute it at one input. -/
def composeLeastWrong : ChangeSpec := { name := "composeLeast", fn := fun _ => fun
  | [d1, d2] => { results := [.lit (.bool false)], args := [d1, d2] }
  | _ => none }
def ComposeLeastWrongFalsely : Prop := composeLeastRow.holds Tryd.pinned (OpenSpec.ofChange composeLeastWrong)

/-- 'inlaylaw09.ComposeThrough': WHATEVER THE INPUT: true; the input reads as it did. -/
def composeThroughSpec : ChangeSpec := { name := "composeThrough", fn := fun _ => fun
  | [d1, d2] => { results := [.lit (.bool true)], args := [d1, d2] }
  | _ => none }
def composeThroughRow : OpenClaim := { program := "yticpkibnhakgbaadoor", sum := "02a2051f59a18113c9db1809222b2cb6f83727ecda28dd48f3957ef89bffa6f4", func := "inlay/inlaylaw09.ComposeThrough", spec := "composeThrough", unfollowed := true, recurses := true, named := ["inlay/normal.costs"], apart := false, laid := [("inlay/normal.costs", laid_inlay_normal_costs)] }
def ComposeThroughSaid : Prop := composeThroughRow.holds Tryd.pinned (OpenSpec.ofChange composeThroughSpec)

/-- ITS FALSE NEIGHBOUR: 'it returns false'. Refute it at one input. -/
def composeThroughWrong : ChangeSpec := { name := "composeThrough", fn := fun _ => fun
  | [d1, d2] => { results := [.lit (.bool false)], args := [d1, d2] }
  | _ => none }
def ComposeThroughWrongFalsely : Prop := composeThroughRow.holds Tryd.pinned (OpenSpec.ofChange composeThroughWrong)

/-- 'inlaylaw09.ComposeRefuses': WHATEVER THE INPUT: true; the input reads as it did. -/
def composeRefusesSpec : ChangeSpec := { name := "composeRefuses", fn := fun _ => fun
  | [d1, d2, d3] => { results := [.lit (.bool true)], args := [d1, d2, d3] }
  | _ => none }
def composeRefusesRow : OpenClaim := { program := "yticpkibnhakgbaadoor", sum := "02a2051f59a18113c9db1809222b2cb6f83727ecda28dd48f3957ef89bffa6f4", func := "inlay/inlaylaw09.ComposeRefuses", spec := "composeRefuses", unfollowed := true, recurses := true, named := ["inlay/normal.costs"], apart := false, laid := [("inlay/normal.costs", laid_inlay_normal_costs)] }
def ComposeRefusesSaid : Prop := composeRefusesRow.holds Tryd.pinned (OpenSpec.ofChange composeRefusesSpec)

/-- ITS FALSE NEIGHBOUR: 'it returns false'. Refute it at one input. -/
def composeRefusesWrong : ChangeSpec := { name := "composeRefuses", fn := fun _ => fun
  | [d1, d2, d3] => { results := [.lit (.bool false)], args := [d1, d2, d3] }
  | _ => none }
def ComposeRefusesWrongFalsely : Prop := composeRefusesRow.holds Tryd.pinned (OpenSpec.ofChange composeRefusesWrong)

/- THE SECOND FORM. 'bulk': how many values and letters a reading holds, each counted each time it is reached (what is shared counts as often as it is met; a slice's spare places count too). A statement '..UptoSaid' is the law's where the arguments, and the package variables that the reading takes, are together of bulk at most 1048576: NARROWER than '..Said'. Prove '..Said' where nothing that the law and all that it calls make is longer than what came in: it says more and counts as full. Else prove '..UptoSaid'. A law counts once. -/
mutual
def uptoBulk {H : Type} : DataW H → Nat
  | .lit (.string bytes) => bytes.length + 1
  | .lit _ => 1
  | .nil => 1
  | .ptr d => uptoBulk d + 1
  | .slice elems spare => uptoBulkAll elems + uptoBulkAll spare + 1
  | .agg parts => uptoBulkAll parts + 1
  | .iface _ d => uptoBulk d + 1
  | .map entries => uptoBulkEntries entries + 1
  | .held _ => 1
def uptoBulkAll {H : Type} : List (DataW H) → Nat
  | [] => 0
  | d :: r => uptoBulk d + uptoBulkAll r
def uptoBulkEntries {H : Type} : List (Lit × DataW H) → Nat
  | [] => 0
  | x :: r => uptoBulkEntry x + uptoBulkEntries r
def uptoBulkEntry {H : Type} : Lit × DataW H → Nat
  | (.string bytes, d) => bytes.length + uptoBulk d + 1
  | (_, d) => uptoBulk d + 1
 end
def uptoSmall : (H : Type) → List (DataW H) → Bool := fun _ ds => decide (uptoBulkAll ds ≤ 1048576)
def OpenSpec.upto (s : _root_.Go.ChangeSpec) : _root_.Go.OpenSpec := { _root_.Go.OpenSpec.ofChange s with cond := some uptoSmall }

/-- 'inlaylaw09.ComposeMatchesReference', WHERE WHAT IT READS IS OF BULK AT MOST 1048576: true; the input reads as it did. -/
def composeMatchesReferenceUptoRow : OpenClaim := { program := "yticpkibnhakgbaadoor", sum := "02a2051f59a18113c9db1809222b2cb6f83727ecda28dd48f3957ef89bffa6f4", func := "inlay/inlaylaw09.ComposeMatchesReference", spec := "composeMatchesReference", unfollowed := true, recurses := true, named := ["inlay/normal.costs"], apart := false, laid := [("inlay/normal.costs", laid_inlay_normal_costs)], narrowed := true }
def ComposeMatchesReferenceUptoSaid : Prop := composeMatchesReferenceUptoRow.holds Tryd.pinned (OpenSpec.upto composeMatchesReferenceSpec)

/-- 'inlaylaw09.ComposeGroups', WHERE WHAT IT READS IS OF BULK AT MOST 1048576: true; the input reads as it did. -/
def composeGroupsUptoRow : OpenClaim := { program := "yticpkibnhakgbaadoor", sum := "02a2051f59a18113c9db1809222b2cb6f83727ecda28dd48f3957ef89bffa6f4", func := "inlay/inlaylaw09.ComposeGroups", spec := "composeGroups", unfollowed := true, recurses := true, named := ["inlay/normal.costs"], apart := false, laid := [("inlay/normal.costs", laid_inlay_normal_costs)], narrowed := true }
def ComposeGroupsUptoSaid : Prop := composeGroupsUptoRow.holds Tryd.pinned (OpenSpec.upto composeGroupsSpec)

/-- 'inlaylaw09.ComposeWhole', WHERE WHAT IT READS IS OF BULK AT MOST 1048576: true; the input reads as it did. -/
def composeWholeUptoRow : OpenClaim := { program := "yticpkibnhakgbaadoor", sum := "02a2051f59a18113c9db1809222b2cb6f83727ecda28dd48f3957ef89bffa6f4", func := "inlay/inlaylaw09.ComposeWhole", spec := "composeWhole", unfollowed := true, recurses := true, named := ["inlay/normal.costs"], apart := false, laid := [("inlay/normal.costs", laid_inlay_normal_costs)], narrowed := true }
def ComposeWholeUptoSaid : Prop := composeWholeUptoRow.holds Tryd.pinned (OpenSpec.upto composeWholeSpec)

/-- 'inlaylaw09.ComposeLeast', WHERE WHAT IT READS IS OF BULK AT MOST 1048576: true; the input reads as it did. -/
def composeLeastUptoRow : OpenClaim := { program := "yticpkibnhakgbaadoor", sum := "02a2051f59a18113c9db1809222b2cb6f83727ecda28dd48f3957ef89bffa6f4", func := "inlay/inlaylaw09.ComposeLeast", spec := "composeLeast", unfollowed := true, recurses := true, named := ["inlay/normal.costs"], apart := false, laid := [("inlay/normal.costs", laid_inlay_normal_costs)], narrowed := true }
def ComposeLeastUptoSaid : Prop := composeLeastUptoRow.holds Tryd.pinned (OpenSpec.upto composeLeastSpec)

/-- 'inlaylaw09.ComposeThrough', WHERE WHAT IT READS IS OF BULK AT MOST 1048576: true; the input reads as it did. -/
def composeThroughUptoRow : OpenClaim := { program := "yticpkibnhakgbaadoor", sum := "02a2051f59a18113c9db1809222b2cb6f83727ecda28dd48f3957ef89bffa6f4", func := "inlay/inlaylaw09.ComposeThrough", spec := "composeThrough", unfollowed := true, recurses := true, named := ["inlay/normal.costs"], apart := false, laid := [("inlay/normal.costs", laid_inlay_normal_costs)], narrowed := true }
def ComposeThroughUptoSaid : Prop := composeThroughUptoRow.holds Tryd.pinned (OpenSpec.upto composeThroughSpec)

/-- 'inlaylaw09.ComposeRefuses', WHERE WHAT IT READS IS OF BULK AT MOST 1048576: true; the input reads as it did. -/
def composeRefusesUptoRow : OpenClaim := { program := "yticpkibnhakgbaadoor", sum := "02a2051f59a18113c9db1809222b2cb6f83727ecda28dd48f3957ef89bffa6f4", func := "inlay/inlaylaw09.ComposeRefuses", spec := "composeRefuses", unfollowed := true, recurses := true, named := ["inlay/normal.costs"], apart := false, laid := [("inlay/normal.costs", laid_inlay_normal_costs)], narrowed := true }
def ComposeRefusesUptoSaid : Prop := composeRefusesUptoRow.holds Tryd.pinned (OpenSpec.upto composeRefusesSpec)

end Rows
end Go.Proofs.YticpkibnhakgbaaDoor
