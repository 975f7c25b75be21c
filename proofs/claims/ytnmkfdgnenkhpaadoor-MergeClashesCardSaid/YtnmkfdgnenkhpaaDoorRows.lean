/-
  NARROWER THAN 'FOR EVERY INPUT', by the rows' own cells (each row's printed sentence says how): MergeOrder: laid · MergeClashes: laid · MergeRefuses: laid.
  DERIVED. THE GIVEN ROWS OF THIS SEAT. 3 by the template 'for every input the law returns true; each argument reads behind the call as it read before'; 0 by the template 'total and deterministic' (their statements: YtnmkfdgnenkhpaaDoorTotals.lean).
  GIVEN WITH THE SEED: the statements are not yours to turn. If you find one false, say at which input.
  Laid BY PROGRAM, IN A SANDBOX (cutbox-rows.mjs): the forced cells as the released guide's own fill.sh prints them over the translation 17f16b1921bcb626… (all of the seat's roots in one cut). By AI agents, Wed Nov 11 2026. No macro, syntax, notation, axiom, sorry.
-/
import Derived.Test.YtnmkfdgnenkhpaaDoorChecked
import GoSem.Claim
import GoSem.ClaimJoined
import GoSem.ClaimMapViews
import Derived.JoinedTies
import Derived.KernelRfl
namespace Go.Proofs.YtnmkfdgnenkhpaaDoor
/- THE CELL 'sum', in the pinned program and in every row, IS THE sha256 OF THE DUMP (.gsa) THAT YtnmkfdgnenkhpaaDoorProg.lean LOADS. Nothing in Lean hashes anything: it is a label: what it is worth is what the hold of that sum in a sandbox is worth. -/
noncomputable def Tryd.pinned : Pinned := { name := "ytnmkfdgnenkhpaadoor", sum := "17f16b1921bcb6265e983ad7235d7eb78477c95012f6d4cf004dc0661230abde", checked := Tryd.checked }
namespace Rows
def none {H : Type} : Left H := { results := [], args := [] }

/- WHAT THE LISTED PACKAGE-LEVEL VARIABLES READ AS WHEN THE CALL BEGINS. Each datum BY PROGRAM (the guide's laid-datum.mjs) off the statement by which the dump's own 'gosem.cut.vars' lays the variable. In a bare row this is a premise. The card (YtnmkfdgnenkhpaaDoorCards.lean) ties it to the program's text. -/
def laid_inlay_normal_costs {H : Type} : DataW H := .agg [.agg [.lit (.int .i64 0), .lit (.int .i64 0)], .agg [.lit (.int .i64 4), .lit (.int .i64 0)], .agg [.lit (.int .i64 4), .lit (.int .i64 1)], .agg [.lit (.int .i64 4), .lit (.int .i64 0)], .agg [.lit (.int .i64 2), .lit (.int .i64 1)]]

/-- 'inlaylaw11.MergeOrder': WHATEVER THE INPUT: true; the input reads as it did. -/
def mergeOrderSpec : ChangeSpec := { name := "mergeOrder", fn := fun _ => fun
  | [d] => { results := [.lit (.bool true)], args := [d] }
  | _ => none }
def mergeOrderRow : OpenClaim := { program := "ytnmkfdgnenkhpaadoor", sum := "17f16b1921bcb6265e983ad7235d7eb78477c95012f6d4cf004dc0661230abde", func := "inlay/inlaylaw11.MergeOrder", spec := "mergeOrder", unfollowed := true, recurses := true, named := ["inlay/normal.costs"], apart := false, laid := [("inlay/normal.costs", laid_inlay_normal_costs)] }
def MergeOrderSaid : Prop := mergeOrderRow.holds Tryd.pinned (OpenSpec.ofChange mergeOrderSpec)

/-- ITS FALSE NEIGHBOUR: 'it returns false'. Refute it at one input. -/
def mergeOrderWrong : ChangeSpec := { name := "mergeOrder", fn := fun _ => fun
  | [d] => { results := [.lit (.bool false)], args := [d] }
  | _ => none }
def MergeOrderWrongFalsely : Prop := mergeOrderRow.holds Tryd.pinned (OpenSpec.ofChange mergeOrderWrong)

/-- 'inlaylaw11.MergeClashes': WHATEVER THE INPUT: true; the input reads as it did. -/
def mergeClashesSpec : ChangeSpec := { name := "mergeClashes", fn := fun _ => fun
  | [d] => { results := [.lit (.bool true)], args := [d] }
  | _ => none }
def mergeClashesRow : OpenClaim := { program := "ytnmkfdgnenkhpaadoor", sum := "17f16b1921bcb6265e983ad7235d7eb78477c95012f6d4cf004dc0661230abde", func := "inlay/inlaylaw11.MergeClashes", spec := "mergeClashes", unfollowed := true, recurses := true, named := ["inlay/normal.costs"], apart := false, laid := [("inlay/normal.costs", laid_inlay_normal_costs)] }
def MergeClashesSaid : Prop := mergeClashesRow.holds Tryd.pinned (OpenSpec.ofChange mergeClashesSpec)

/-- ITS FALSE NEIGHBOUR: 'it returns false'. Refute it at one input. -/
def mergeClashesWrong : ChangeSpec := { name := "mergeClashes", fn := fun _ => fun
  | [d] => { results := [.lit (.bool false)], args := [d] }
  | _ => none }
def MergeClashesWrongFalsely : Prop := mergeClashesRow.holds Tryd.pinned (OpenSpec.ofChange mergeClashesWrong)

/-- 'inlaylaw11.MergeRefuses': WHATEVER THE INPUT: true; the input reads as it did. -/
def mergeRefusesSpec : ChangeSpec := { name := "mergeRefuses", fn := fun _ => fun
  | [d1, d2] => { results := [.lit (.bool true)], args := [d1, d2] }
  | _ => none }
def mergeRefusesRow : OpenClaim := { program := "ytnmkfdgnenkhpaadoor", sum := "17f16b1921bcb6265e983ad7235d7eb78477c95012f6d4cf004dc0661230abde", func := "inlay/inlaylaw11.MergeRefuses", spec := "mergeRefuses", unfollowed := true, recurses := true, named := ["inlay/normal.costs"], apart := false, laid := [("inlay/normal.costs", laid_inlay_normal_costs)] }
def MergeRefusesSaid : Prop := mergeRefusesRow.holds Tryd.pinned (OpenSpec.ofChange mergeRefusesSpec)

/-- ITS FALSE NEIGHBOUR: 'it returns false'. Refute it at one input. -/
def mergeRefusesWrong : ChangeSpec := { name := "mergeRefuses", fn := fun _ => fun
  | [d1, d2] => { results := [.lit (.bool false)], args := [d1, d2] }
  | _ => none }
def MergeRefusesWrongFalsely : Prop := mergeRefusesRow.holds Tryd.pinned (OpenSpec.ofChange mergeRefusesWrong)

/- THE SECOND FORM. 'bulk': how many values and letters a reading holds, each counted each time it is reached (what is shared counts as often as it is met; a slice's spare places count too). A statement '..UptoSaid' is the law's where the arguments, and the package variables that the reading takes, are together of bulk at most 1048576: NARROWER than '..Said'. Prove '..Said' where nothing that the law and all that it calls make is longer than what came in: it says more and counts as full. Else prove '..UptoSaid'. A law counts once. -/
mutual
def uptoBulk {H : Type} : DataW H → Nat
  | .lit (.string bytes) => bytes.length + 1
  | .lit _ => 1
  | .nil => 1
  | .ptr d => uptoBulk d + 1
  | .slice elems spare => uptoBulkAll elems + uptoBulkAll spare + 1
  | .agg parts => uptoBulkAll parts + 1
  | .iface _ d => uptoBulk d + 1
  | .map entries => uptoBulkEntries entries + 1
  | .held _ => 1
def uptoBulkAll {H : Type} : List (DataW H) → Nat
  | [] => 0
  | d :: r => uptoBulk d + uptoBulkAll r
def uptoBulkEntries {H : Type} : List (Lit × DataW H) → Nat
  | [] => 0
  | x :: r => uptoBulkEntry x + uptoBulkEntries r
def uptoBulkEntry {H : Type} : Lit × DataW H → Nat
  | (.string bytes, d) => bytes.length + uptoBulk d + 1
  | (_, d) => uptoBulk d + 1
 end
def uptoSmall : (H : Type) → List (DataW H) → Bool := fun _ ds => decide (uptoBulkAll ds ≤ 1048576)
def OpenSpec.upto (s : _root_.Go.ChangeSpec) : _root_.Go.OpenSpec := { _root_.Go.OpenSpec.ofChange s with cond := some uptoSmall }

/-- 'inlaylaw11.MergeOrder', WHERE WHAT IT READS IS OF BULK AT MOST 1048576: true; the input reads as it did. -/
def mergeOrderUptoRow : OpenClaim := { program := "ytnmkfdgnenkhpaadoor", sum := "17f16b1921bcb6265e983ad7235d7eb78477c95012f6d4cf004dc0661230abde", func := "inlay/inlaylaw11.MergeOrder", spec := "mergeOrder", unfollowed := true, recurses := true, named := ["inlay/normal.costs"], apart := false, laid := [("inlay/normal.costs", laid_inlay_normal_costs)], narrowed := true }
def MergeOrderUptoSaid : Prop := mergeOrderUptoRow.holds Tryd.pinned (OpenSpec.upto mergeOrderSpec)

/-- 'inlaylaw11.MergeClashes', WHERE WHAT IT READS IS OF BULK AT MOST 1048576: true; the input reads as it did. -/
def mergeClashesUptoRow : OpenClaim := { program := "ytnmkfdgnenkhpaadoor", sum := "17f16b1921bcb6265e983ad7235d7eb78477c95012f6d4cf004dc0661230abde", func := "inlay/inlaylaw11.MergeClashes", spec := "mergeClashes", unfollowed := true, recurses := true, named := ["inlay/normal.costs"], apart := false, laid := [("inlay/normal.costs", laid_inlay_normal_costs)], narrowed := true }
def MergeClashesUptoSaid : Prop := mergeClashesUptoRow.holds Tryd.pinned (OpenSpec.upto mergeClashesSpec)

/-- 'inlaylaw11.MergeRefuses', WHERE WHAT IT READS IS OF BULK AT MOST 1048576: true; the input reads as it did. -/
def mergeRefusesUptoRow : OpenClaim := { program := "ytnmkfdgnenkhpaadoor", sum := "17f16b1921bcb6265e983ad7235d7eb78477c95012f6d4cf004dc0661230abde", func := "inlay/inlaylaw11.MergeRefuses", spec := "mergeRefuses", unfollowed := true, recurses := true, named := ["inlay/normal.costs"], apart := false, laid := [("inlay/normal.costs", laid_inlay_normal_costs)], narrowed := true }
def MergeRefusesUptoSaid : Prop := mergeRefusesUptoRow.holds Tryd.pinned (OpenSpec.upto mergeRefusesSpec)

end Rows
end Go.Proofs.YtnmkfdgnenkhpaaDoor
