/-
  NARROWER THAN 'FOR EVERY INPUT', by the rows' own cells (each row's printed sentence says how): MergeMatchesReference: laid · SplitSections: laid · SplitSectors: laid · SplitJoins: laid.
  DERIVED. THE GIVEN ROWS OF THIS SEAT. 4 by the template 'for every input the law returns true; each argument reads behind the call as it read before'; 0 by the template 'total and deterministic' (their statements: YtdeacfammdjajaaGreatDoorTotals.lean).
  GIVEN WITH THE SEED: the statements are not yours to turn. If you find one false, say at which input.
  Laid BY PROGRAM, IN A SANDBOX (cutbox-rows.mjs): the forced cells as the released guide's own fill.sh prints them over the translation 9281b1d41169ecbf… (all of the seat's roots in one cut). By AI agents, Wed Nov 11 2026. No macro, syntax, notation, axiom, sorry.
-/
import Derived.Test.YtdeacfammdjajaaGreatDoorChecked
import GoSem.Claim
import GoSem.ClaimJoined
import GoSem.ClaimMapViews
import Derived.JoinedTies
import Derived.KernelRfl
namespace Go.Proofs.YtdeacfammdjajaaGreatDoor
/- THE CELL 'sum', in the pinned program and in every row, IS THE sha256 OF THE DUMP (.gsa) THAT YtdeacfammdjajaaGreatDoorProg.lean LOADS. Nothing in Lean hashes anything: it is a label: what it is worth is what the hold of that sum in a sandbox is worth. -/
noncomputable def Tryz.pinned : Pinned := { name := "ytdeacfammdjajaagreatdoor", sum := "9281b1d41169ecbfee357dbe7382ca877259798330f44e98ecf3123f7d24f1ee", checked := Tryz.checked }
namespace Rows
def none {H : Type} : Left H := { results := [], args := [] }

/- WHAT THE LISTED PACKAGE-LEVEL VARIABLES READ AS WHEN THE CALL BEGINS. Each datum BY PROGRAM (the guide's laid-datum.mjs) off the statement by which the dump's own 'gosem.cut.vars' lays the variable. In a bare row this is a premise. The card (YtdeacfammdjajaaGreatDoorCards.lean) ties it to the program's text. -/
def laid_inlay_normal_costs {H : Type} : DataW H := .agg [.agg [.lit (.int .i64 0), .lit (.int .i64 0)], .agg [.lit (.int .i64 4), .lit (.int .i64 0)], .agg [.lit (.int .i64 4), .lit (.int .i64 1)], .agg [.lit (.int .i64 4), .lit (.int .i64 0)], .agg [.lit (.int .i64 2), .lit (.int .i64 1)]]
def laid_inlay_inst_kinds {H : Type} : DataW H := .agg [.agg [.lit (.string [100, 97, 116, 97]), .lit (.int .i64 0), .lit (.int .i64 32), .lit (.bool false), .lit (.bool false)], .agg [.lit (.string [97, 100, 100]), .lit (.int .i64 3), .lit (.int .i64 0), .lit (.bool false), .lit (.bool false)], .agg [.lit (.string [115, 101, 116]), .lit (.int .i64 1), .lit (.int .i64 16), .lit (.bool false), .lit (.bool false)], .agg [.lit (.string [108, 111, 97, 100]), .lit (.int .i64 3), .lit (.int .i64 0), .lit (.bool false), .lit (.bool false)], .agg [.lit (.string [115, 116, 111, 114, 101]), .lit (.int .i64 3), .lit (.int .i64 0), .lit (.bool false), .lit (.bool false)], .agg [.lit (.string [106, 117, 109, 112]), .lit (.int .i64 0), .lit (.int .i64 24), .lit (.bool true), .lit (.bool true)], .agg [.lit (.string [99, 97, 108, 108]), .lit (.int .i64 0), .lit (.int .i64 24), .lit (.bool true), .lit (.bool true)], .agg [.lit (.string [98, 114, 97, 110, 99, 104]), .lit (.int .i64 1), .lit (.int .i64 16), .lit (.bool true), .lit (.bool true)], .agg [.lit (.string [112, 111, 111, 108]), .lit (.int .i64 1), .lit (.int .i64 16), .lit (.bool false), .lit (.bool true)]]

/-- 'inlaylaw11.MergeMatchesReference': WHATEVER THE INPUT: true; the input reads as it did. -/
def mergeMatchesReferenceSpec : ChangeSpec := { name := "mergeMatchesReference", fn := fun _ => fun
  | [d1, d2, d3] => { results := [.lit (.bool true)], args := [d1, d2, d3] }
  | _ => none }
def mergeMatchesReferenceRow : OpenClaim := { program := "ytdeacfammdjajaagreatdoor", sum := "9281b1d41169ecbfee357dbe7382ca877259798330f44e98ecf3123f7d24f1ee", func := "inlay/inlaylaw11.MergeMatchesReference", spec := "mergeMatchesReference", unfollowed := true, recurses := true, named := ["inlay/normal.costs"], apart := false, laid := [("inlay/normal.costs", laid_inlay_normal_costs)] }
def MergeMatchesReferenceSaid : Prop := mergeMatchesReferenceRow.holds Tryz.pinned (OpenSpec.ofChange mergeMatchesReferenceSpec)

/-- ITS FALSE NEIGHBOUR: 'it returns false'. Refute it at one input. -/
def mergeMatchesReferenceWrong : ChangeSpec := { name := "mergeMatchesReference", fn := fun _ => fun
  | [d1, d2, d3] => { results := [.lit (.bool false)], args := [d1, d2, d3] }
  | _ => none }
def MergeMatchesReferenceWrongFalsely : Prop := mergeMatchesReferenceRow.holds Tryz.pinned (OpenSpec.ofChange mergeMatchesReferenceWrong)

/-- 'inlaylaw12.SplitSections': WHATEVER THE INPUT: true; the input reads as it did. -/
def splitSectionsSpec : ChangeSpec := { name := "splitSections", fn := fun _ => fun
  | [d1, d2, d3] => { results := [.lit (.bool true)], args := [d1, d2, d3] }
  | _ => none }
def splitSectionsRow : OpenClaim := { program := "ytdeacfammdjajaagreatdoor", sum := "9281b1d41169ecbfee357dbe7382ca877259798330f44e98ecf3123f7d24f1ee", func := "inlay/inlaylaw12.SplitSections", spec := "splitSections", unfollowed := true, recurses := true, named := ["inlay/normal.costs", "inlay/inst.kinds"], apart := false, laid := [("inlay/inst.kinds", laid_inlay_inst_kinds), ("inlay/normal.costs", laid_inlay_normal_costs)] }
def SplitSectionsSaid : Prop := splitSectionsRow.holds Tryz.pinned (OpenSpec.ofChange splitSectionsSpec)

/-- ITS FALSE NEIGHBOUR: 'it returns false'. Refute it at one input. -/
def splitSectionsWrong : ChangeSpec := { name := "splitSections", fn := fun _ => fun
  | [d1, d2, d3] => { results := [.lit (.bool false)], args := [d1, d2, d3] }
  | _ => none }
def SplitSectionsWrongFalsely : Prop := splitSectionsRow.holds Tryz.pinned (OpenSpec.ofChange splitSectionsWrong)

/-- 'inlaylaw12.SplitSectors': WHATEVER THE INPUT: true; the input reads as it did. -/
def splitSectorsSpec : ChangeSpec := { name := "splitSectors", fn := fun _ => fun
  | [d1, d2, d3] => { results := [.lit (.bool true)], args := [d1, d2, d3] }
  | _ => none }
def splitSectorsRow : OpenClaim := { program := "ytdeacfammdjajaagreatdoor", sum := "9281b1d41169ecbfee357dbe7382ca877259798330f44e98ecf3123f7d24f1ee", func := "inlay/inlaylaw12.SplitSectors", spec := "splitSectors", unfollowed := true, recurses := true, named := ["inlay/normal.costs", "inlay/inst.kinds"], apart := false, laid := [("inlay/inst.kinds", laid_inlay_inst_kinds), ("inlay/normal.costs", laid_inlay_normal_costs)] }
def SplitSectorsSaid : Prop := splitSectorsRow.holds Tryz.pinned (OpenSpec.ofChange splitSectorsSpec)

/-- ITS FALSE NEIGHBOUR: 'it returns false'. Refute it at one input. -/
def splitSectorsWrong : ChangeSpec := { name := "splitSectors", fn := fun _ => fun
  | [d1, d2, d3] => { results := [.lit (.bool false)], args := [d1, d2, d3] }
  | _ => none }
def SplitSectorsWrongFalsely : Prop := splitSectorsRow.holds Tryz.pinned (OpenSpec.ofChange splitSectorsWrong)

/-- 'inlaylaw12.SplitJoins': WHATEVER THE INPUT: true; the input reads as it did. -/
def splitJoinsSpec : ChangeSpec := { name := "splitJoins", fn := fun _ => fun
  | [d1, d2, d3] => { results := [.lit (.bool true)], args := [d1, d2, d3] }
  | _ => none }
def splitJoinsRow : OpenClaim := { program := "ytdeacfammdjajaagreatdoor", sum := "9281b1d41169ecbfee357dbe7382ca877259798330f44e98ecf3123f7d24f1ee", func := "inlay/inlaylaw12.SplitJoins", spec := "splitJoins", unfollowed := true, recurses := true, named := ["inlay/normal.costs", "inlay/inst.kinds"], apart := false, laid := [("inlay/inst.kinds", laid_inlay_inst_kinds), ("inlay/normal.costs", laid_inlay_normal_costs)] }
def SplitJoinsSaid : Prop := splitJoinsRow.holds Tryz.pinned (OpenSpec.ofChange splitJoinsSpec)

/-- ITS FALSE NEIGHBOUR: 'it returns false'. Refute it at one input. -/
def splitJoinsWrong : ChangeSpec := { name := "splitJoins", fn := fun _ => fun
  | [d1, d2, d3] => { results := [.lit (.bool false)], args := [d1, d2, d3] }
  | _ => none }
def SplitJoinsWrongFalsely : Prop := splitJoinsRow.holds Tryz.pinned (OpenSpec.ofChange splitJoinsWrong)

/- THE SECOND FORM. 'bulk': how many values and letters a reading holds, each counted each time it is reached (what is shared counts as often as it is met; a slice's spare places count too). A statement '..UptoSaid' is the law's where the arguments, and the package variables that the reading takes, are together of bulk at most 1048576: NARROWER than '..Said'. Prove '..Said' where nothing that the law and all that it calls make is longer than what came in: it says more and counts as full. Else prove '..UptoSaid'. A law counts once. -/
mutual
def uptoBulk {H : Type} : DataW H → Nat
  | .lit (.string bytes) => bytes.length + 1
  | .lit _ => 1
  | .nil => 1
  | .ptr d => uptoBulk d + 1
  | .slice elems spare => uptoBulkAll elems + uptoBulkAll spare + 1
  | .agg parts => uptoBulkAll parts + 1
  | .iface _ d => uptoBulk d + 1
  | .map entries => uptoBulkEntries entries + 1
  | .held _ => 1
def uptoBulkAll {H : Type} : List (DataW H) → Nat
  | [] => 0
  | d :: r => uptoBulk d + uptoBulkAll r
def uptoBulkEntries {H : Type} : List (Lit × DataW H) → Nat
  | [] => 0
  | x :: r => uptoBulkEntry x + uptoBulkEntries r
def uptoBulkEntry {H : Type} : Lit × DataW H → Nat
  | (.string bytes, d) => bytes.length + uptoBulk d + 1
  | (_, d) => uptoBulk d + 1
 end
def uptoSmall : (H : Type) → List (DataW H) → Bool := fun _ ds => decide (uptoBulkAll ds ≤ 1048576)
def OpenSpec.upto (s : _root_.Go.ChangeSpec) : _root_.Go.OpenSpec := { _root_.Go.OpenSpec.ofChange s with cond := some uptoSmall }

/-- 'inlaylaw11.MergeMatchesReference', WHERE WHAT IT READS IS OF BULK AT MOST 1048576: true; the input reads as it did. -/
def mergeMatchesReferenceUptoRow : OpenClaim := { program := "ytdeacfammdjajaagreatdoor", sum := "9281b1d41169ecbfee357dbe7382ca877259798330f44e98ecf3123f7d24f1ee", func := "inlay/inlaylaw11.MergeMatchesReference", spec := "mergeMatchesReference", unfollowed := true, recurses := true, named := ["inlay/normal.costs"], apart := false, laid := [("inlay/normal.costs", laid_inlay_normal_costs)], narrowed := true }
def MergeMatchesReferenceUptoSaid : Prop := mergeMatchesReferenceUptoRow.holds Tryz.pinned (OpenSpec.upto mergeMatchesReferenceSpec)

/-- 'inlaylaw12.SplitSections', WHERE WHAT IT READS IS OF BULK AT MOST 1048576: true; the input reads as it did. -/
def splitSectionsUptoRow : OpenClaim := { program := "ytdeacfammdjajaagreatdoor", sum := "9281b1d41169ecbfee357dbe7382ca877259798330f44e98ecf3123f7d24f1ee", func := "inlay/inlaylaw12.SplitSections", spec := "splitSections", unfollowed := true, recurses := true, named := ["inlay/normal.costs", "inlay/inst.kinds"], apart := false, laid := [("inlay/inst.kinds", laid_inlay_inst_kinds), ("inlay/normal.costs", laid_inlay_normal_costs)], narrowed := true }
def SplitSectionsUptoSaid : Prop := splitSectionsUptoRow.holds Tryz.pinned (OpenSpec.upto splitSectionsSpec)

/-- 'inlaylaw12.SplitSectors', WHERE WHAT IT READS IS OF BULK AT MOST 1048576: true; the input reads as it did. -/
def splitSectorsUptoRow : OpenClaim := { program := "ytdeacfammdjajaagreatdoor", sum := "9281b1d41169ecbfee357dbe7382ca877259798330f44e98ecf3123f7d24f1ee", func := "inlay/inlaylaw12.SplitSectors", spec := "splitSectors", unfollowed := true, recurses := true, named := ["inlay/normal.costs", "inlay/inst.kinds"], apart := false, laid := [("inlay/inst.kinds", laid_inlay_inst_kinds), ("inlay/normal.costs", laid_inlay_normal_costs)], narrowed := true }
def SplitSectorsUptoSaid : Prop := splitSectorsUptoRow.holds Tryz.pinned (OpenSpec.upto splitSectorsSpec)

/-- 'inlaylaw12.SplitJoins', WHERE WHAT IT READS IS OF BULK AT MOST 1048576: true; the input reads as it did. -/
def splitJoinsUptoRow : OpenClaim := { program := "ytdeacfammdjajaagreatdoor", sum := "9281b1d41169ecbfee357dbe7382ca877259798330f44e98ecf3123f7d24f1ee", func := "inlay/inlaylaw12.SplitJoins", spec := "splitJoins", unfollowed := true, recurses := true, named := ["inlay/normal.costs", "inlay/inst.kinds"], apart := false, laid := [("inlay/inst.kinds", laid_inlay_inst_kinds), ("inlay/normal.costs", laid_inlay_normal_costs)], narrowed := true }
def SplitJoinsUptoSaid : Prop := splitJoinsUptoRow.holds Tryz.pinned (OpenSpec.upto splitJoinsSpec)

end Rows
end Go.Proofs.YtdeacfammdjajaaGreatDoor
