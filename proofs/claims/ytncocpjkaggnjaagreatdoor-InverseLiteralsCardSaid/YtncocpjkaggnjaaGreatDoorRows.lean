/-
  NARROWER THAN 'FOR EVERY INPUT', by the rows' own cells (each row's printed sentence says how): PatchChecks: laid · PatchLifted: laid · InverseMatchesReference: laid · InverseBack: laid · InverseCode: laid · InverseLiterals: laid · InverseTwice: laid.
  DERIVED. THE GIVEN ROWS OF THIS SEAT. 7 by the template 'for every input the law returns true; each argument reads behind the call as it read before'; 0 by the template 'total and deterministic' (their statements: YtncocpjkaggnjaaGreatDoorTotals.lean).
  GIVEN WITH THE SEED: the statements are not yours to turn. If you find one false, say at which input.
  Laid BY PROGRAM, IN A SANDBOX (cutbox-rows.mjs): the forced cells as the released guide's own fill.sh prints them over the translation a8d2fbbdccf9f38e… (all of the seat's roots in one cut). By AI agents, Wed Nov 11 2026. No macro, syntax, notation, axiom, sorry.
-/
import Derived.Test.YtncocpjkaggnjaaGreatDoorChecked
import GoSem.Claim
import GoSem.ClaimJoined
import GoSem.ClaimMapViews
import Derived.JoinedTies
import Derived.KernelRfl
namespace Go.Proofs.YtncocpjkaggnjaaGreatDoor
/- THE CELL 'sum', in the pinned program and in every row, IS THE sha256 OF THE DUMP (.gsa) THAT YtncocpjkaggnjaaGreatDoorProg.lean LOADS. Nothing in Lean hashes anything: it is a label: what it is worth is what the hold of that sum in a sandbox is worth. -/
noncomputable def Tryz.pinned : Pinned := { name := "ytncocpjkaggnjaagreatdoor", sum := "a8d2fbbdccf9f38e96e6eb3c7a6e8231c8a00fdac5f53987f80dc4d45ffb914f", checked := Tryz.checked }
namespace Rows
def none {H : Type} : Left H := { results := [], args := [] }

/- WHAT THE LISTED PACKAGE-LEVEL VARIABLES READ AS WHEN THE CALL BEGINS. Each datum BY PROGRAM (the guide's laid-datum.mjs) off the statement by which the dump's own 'gosem.cut.vars' lays the variable. In a bare row this is a premise. The card (YtncocpjkaggnjaaGreatDoorCards.lean) ties it to the program's text. -/
def laid_inlay_inst_kinds {H : Type} : DataW H := .agg [.agg [.lit (.string [100, 97, 116, 97]), .lit (.int .i64 0), .lit (.int .i64 32), .lit (.bool false), .lit (.bool false)], .agg [.lit (.string [97, 100, 100]), .lit (.int .i64 3), .lit (.int .i64 0), .lit (.bool false), .lit (.bool false)], .agg [.lit (.string [115, 101, 116]), .lit (.int .i64 1), .lit (.int .i64 16), .lit (.bool false), .lit (.bool false)], .agg [.lit (.string [108, 111, 97, 100]), .lit (.int .i64 3), .lit (.int .i64 0), .lit (.bool false), .lit (.bool false)], .agg [.lit (.string [115, 116, 111, 114, 101]), .lit (.int .i64 3), .lit (.int .i64 0), .lit (.bool false), .lit (.bool false)], .agg [.lit (.string [106, 117, 109, 112]), .lit (.int .i64 0), .lit (.int .i64 24), .lit (.bool true), .lit (.bool true)], .agg [.lit (.string [99, 97, 108, 108]), .lit (.int .i64 0), .lit (.int .i64 24), .lit (.bool true), .lit (.bool true)], .agg [.lit (.string [98, 114, 97, 110, 99, 104]), .lit (.int .i64 1), .lit (.int .i64 16), .lit (.bool true), .lit (.bool true)], .agg [.lit (.string [112, 111, 111, 108]), .lit (.int .i64 1), .lit (.int .i64 16), .lit (.bool false), .lit (.bool true)]]
def laid_inlay_normal_costs {H : Type} : DataW H := .agg [.agg [.lit (.int .i64 0), .lit (.int .i64 0)], .agg [.lit (.int .i64 4), .lit (.int .i64 0)], .agg [.lit (.int .i64 4), .lit (.int .i64 1)], .agg [.lit (.int .i64 4), .lit (.int .i64 0)], .agg [.lit (.int .i64 2), .lit (.int .i64 1)]]

/-- 'inlaylaw06.PatchChecks': WHATEVER THE INPUT: true; the input reads as it did. -/
def patchChecksSpec : ChangeSpec := { name := "patchChecks", fn := fun _ => fun
  | [d1, d2, d3] => { results := [.lit (.bool true)], args := [d1, d2, d3] }
  | _ => none }
def patchChecksRow : OpenClaim := { program := "ytncocpjkaggnjaagreatdoor", sum := "a8d2fbbdccf9f38e96e6eb3c7a6e8231c8a00fdac5f53987f80dc4d45ffb914f", func := "inlay/inlaylaw06.PatchChecks", spec := "patchChecks", unfollowed := true, recurses := true, named := ["inlay/inst.kinds"], apart := false, laid := [("inlay/inst.kinds", laid_inlay_inst_kinds)] }
def PatchChecksSaid : Prop := patchChecksRow.holds Tryz.pinned (OpenSpec.ofChange patchChecksSpec)

/-- ITS FALSE NEIGHBOUR: 'it returns false'. Refute it at one input. -/
def patchChecksWrong : ChangeSpec := { name := "patchChecks", fn := fun _ => fun
  | [d1, d2, d3] => { results := [.lit (.bool false)], args := [d1, d2, d3] }
  | _ => none }
def PatchChecksWrongFalsely : Prop := patchChecksRow.holds Tryz.pinned (OpenSpec.ofChange patchChecksWrong)

/-- 'inlaylaw06.PatchLifted': WHATEVER THE INPUT: true; the input reads as it did. -/
def patchLiftedSpec : ChangeSpec := { name := "patchLifted", fn := fun _ => fun
  | [d1, d2, d3] => { results := [.lit (.bool true)], args := [d1, d2, d3] }
  | _ => none }
def patchLiftedRow : OpenClaim := { program := "ytncocpjkaggnjaagreatdoor", sum := "a8d2fbbdccf9f38e96e6eb3c7a6e8231c8a00fdac5f53987f80dc4d45ffb914f", func := "inlay/inlaylaw06.PatchLifted", spec := "patchLifted", unfollowed := true, recurses := true, named := ["inlay/inst.kinds"], apart := false, laid := [("inlay/inst.kinds", laid_inlay_inst_kinds)] }
def PatchLiftedSaid : Prop := patchLiftedRow.holds Tryz.pinned (OpenSpec.ofChange patchLiftedSpec)

/-- ITS FALSE NEIGHBOUR: 'it returns false'. Refute it at one input. -/
def patchLiftedWrong : ChangeSpec := { name := "patchLifted", fn := fun _ => fun
  | [d1, d2, d3] => { results := [.lit (.bool false)], args := [d1, d2, d3] }
  | _ => none }
def PatchLiftedWrongFalsely : Prop := patchLiftedRow.holds Tryz.pinned (OpenSpec.ofChange patchLiftedWrong)

/-- 'inlaylaw10.InverseMatchesReference': WHATEVER THE INPUT: true; the input reads as it did. -/
def inverseMatchesReferenceSpec : ChangeSpec := { name := "inverseMatchesReference", fn := fun _ => fun
  | [d1, d2, d3] => { results := [.lit (.bool true)], args := [d1, d2, d3] }
  | _ => none }
def inverseMatchesReferenceRow : OpenClaim := { program := "ytncocpjkaggnjaagreatdoor", sum := "a8d2fbbdccf9f38e96e6eb3c7a6e8231c8a00fdac5f53987f80dc4d45ffb914f", func := "inlay/inlaylaw10.InverseMatchesReference", spec := "inverseMatchesReference", unfollowed := true, recurses := true, named := ["inlay/inst.kinds", "inlay/normal.costs"], apart := false, laid := [("inlay/inst.kinds", laid_inlay_inst_kinds), ("inlay/normal.costs", laid_inlay_normal_costs)] }
def InverseMatchesReferenceSaid : Prop := inverseMatchesReferenceRow.holds Tryz.pinned (OpenSpec.ofChange inverseMatchesReferenceSpec)

/-- ITS FALSE NEIGHBOUR: 'it returns false'. Refute it at one input. -/
def inverseMatchesReferenceWrong : ChangeSpec := { name := "inverseMatchesReference", fn := fun _ => fun
  | [d1, d2, d3] => { results := [.lit (.bool false)], args := [d1, d2, d3] }
  | _ => none }
def InverseMatchesReferenceWrongFalsely : Prop := inverseMatchesReferenceRow.holds Tryz.pinned (OpenSpec.ofChange inverseMatchesReferenceWrong)

/-- 'inlaylaw10.InverseBack': WHATEVER THE INPUT: true; the input reads as it did. -/
def inverseBackSpec : ChangeSpec := { name := "inverseBack", fn := fun _ => fun
  | [d1, d2] => { results := [.lit (.bool true)], args := [d1, d2] }
  | _ => none }
def inverseBackRow : OpenClaim := { program := "ytncocpjkaggnjaagreatdoor", sum := "a8d2fbbdccf9f38e96e6eb3c7a6e8231c8a00fdac5f53987f80dc4d45ffb914f", func := "inlay/inlaylaw10.InverseBack", spec := "inverseBack", unfollowed := true, recurses := true, named := ["inlay/inst.kinds", "inlay/normal.costs"], apart := false, laid := [("inlay/inst.kinds", laid_inlay_inst_kinds), ("inlay/normal.costs", laid_inlay_normal_costs)] }
def InverseBackSaid : Prop := inverseBackRow.holds Tryz.pinned (OpenSpec.ofChange inverseBackSpec)

/-- ITS FALSE NEIGHBOUR: 'it returns false'. Refute it at one input. -/
def inverseBackWrong : ChangeSpec := { name := "inverseBack", fn := fun _ => fun
  | [d1, d2] => { results := [.lit (.bool false)], args := [d1, d2] }
  | _ => none }
def InverseBackWrongFalsely : Prop := inverseBackRow.holds Tryz.pinned (OpenSpec.ofChange inverseBackWrong)

/-- 'inlaylaw10.InverseCode': WHATEVER THE INPUT: true; the input reads as it did. -/
def inverseCodeSpec : ChangeSpec := { name := "inverseCode", fn := fun _ => fun
  | [d] => { results := [.lit (.bool true)], args := [d] }
  | _ => none }
def inverseCodeRow : OpenClaim := { program := "ytncocpjkaggnjaagreatdoor", sum := "a8d2fbbdccf9f38e96e6eb3c7a6e8231c8a00fdac5f53987f80dc4d45ffb914f", func := "inlay/inlaylaw10.InverseCode", spec := "inverseCode", unfollowed := true, recurses := true, named := ["inlay/inst.kinds", "inlay/normal.costs"], apart := false, laid := [("inlay/inst.kinds", laid_inlay_inst_kinds), ("inlay/normal.costs", laid_inlay_normal_costs)] }
def InverseCodeSaid : Prop := inverseCodeRow.holds Tryz.pinned (OpenSpec.ofChange inverseCodeSpec)

/-- ITS FALSE NEIGHBOUR: 'it returns false'. Refute it at one input. -/
def inverseCodeWrong : ChangeSpec := { name := "inverseCode", fn := fun _ => fun
  | [d] => { results := [.lit (.bool false)], args := [d] }
  | _ => none }
def InverseCodeWrongFalsely : Prop := inverseCodeRow.holds Tryz.pinned (OpenSpec.ofChange inverseCodeWrong)

/-- 'inlaylaw10.InverseLiterals': WHATEVER THE INPUT: true; the input reads as it did. -/
def inverseLiteralsSpec : ChangeSpec := { name := "inverseLiterals", fn := fun _ => fun
  | [d1, d2] => { results := [.lit (.bool true)], args := [d1, d2] }
  | _ => none }
def inverseLiteralsRow : OpenClaim := { program := "ytncocpjkaggnjaagreatdoor", sum := "a8d2fbbdccf9f38e96e6eb3c7a6e8231c8a00fdac5f53987f80dc4d45ffb914f", func := "inlay/inlaylaw10.InverseLiterals", spec := "inverseLiterals", unfollowed := true, recurses := true, named := ["inlay/inst.kinds", "inlay/normal.costs"], apart := false, laid := [("inlay/inst.kinds", laid_inlay_inst_kinds), ("inlay/normal.costs", laid_inlay_normal_costs)] }
def InverseLiteralsSaid : Prop := inverseLiteralsRow.holds Tryz.pinned (OpenSpec.ofChange inverseLiteralsSpec)

/-- ITS FALSE NEIGHBOUR: 'it returns false'. Refute it at one input. -/
def inverseLiteralsWrong : ChangeSpec := { name := "inverseLiterals", fn := fun _ => fun
  | [d1, d2] => { results := [.lit (.bool false)], args := [d1, d2] }
  | _ => none }
def InverseLiteralsWrongFalsely : Prop := inverseLiteralsRow.holds Tryz.pinned (OpenSpec.ofChange inverseLiteralsWrong)

/-- 'inlaylaw10.InverseTwice': WHATEVER THE INPUT: true; the input reads as it did. -/
def inverseTwiceSpec : ChangeSpec := { name := "inverseTwice", fn := fun _ => fun
  | [d1, d2] => { results := [.lit (.bool true)], args := [d1, d2] }
  | _ => none }
def inverseTwiceRow : OpenClaim := { program := "ytncocpjkaggnjaagreatdoor", sum := "a8d2fbbdccf9f38e96e6eb3c7a6e8231c8a00fdac5f53987f80dc4d45ffb914f", func := "inlay/inlaylaw10.InverseTwice", spec := "inverseTwice", unfollowed := true, recurses := true, named := ["inlay/inst.kinds", "inlay/normal.costs"], apart := false, laid := [("inlay/inst.kinds", laid_inlay_inst_kinds), ("inlay/normal.costs", laid_inlay_normal_costs)] }
def InverseTwiceSaid : Prop := inverseTwiceRow.holds Tryz.pinned (OpenSpec.ofChange inverseTwiceSpec)

/-- ITS FALSE NEIGHBOUR: 'it returns false'. Refute it at one input. -/
def inverseTwiceWrong : ChangeSpec := { name := "inverseTwice", fn := fun _ => fun
  | [d1, d2] => { results := [.lit (.bool false)], args := [d1, d2] }
  | _ => none }
def InverseTwiceWrongFalsely : Prop := inverseTwiceRow.holds Tryz.pinned (OpenSpec.ofChange inverseTwiceWrong)

/- THE SECOND FORM. 'bulk': how many values and letters a reading holds, each counted each time it is reached (what is shared counts as often as it is met; a slice's spare places count too). A statement '..UptoSaid' is the law's where the arguments, and the package variables that the reading takes, are together of bulk at most 1048576: NARROWER than '..Said'. Prove '..Said' where nothing that the law and all that it calls make is longer than what came in: it says more and counts as full. Else prove '..UptoSaid'. A law counts once. -/
mutual
def uptoBulk {H : Type} : DataW H → Nat
  | .lit (.string bytes) => bytes.length + 1
  | .lit _ => 1
  | .nil => 1
  | .ptr d => uptoBulk d + 1
  | .slice elems spare => uptoBulkAll elems + uptoBulkAll spare + 1
  | .agg parts => uptoBulkAll parts + 1
  | .iface _ d => uptoBulk d + 1
  | .map entries => uptoBulkEntries entries + 1
  | .held _ => 1
def uptoBulkAll {H : Type} : List (DataW H) → Nat
  | [] => 0
  | d :: r => uptoBulk d + uptoBulkAll r
def uptoBulkEntries {H : Type} : List (Lit × DataW H) → Nat
  | [] => 0
  | x :: r => uptoBulkEntry x + uptoBulkEntries r
def uptoBulkEntry {H : Type} : Lit × DataW H → Nat
  | (.string bytes, d) => bytes.length + uptoBulk d + 1
  | (_, d) => uptoBulk d + 1
 end
def uptoSmall : (H : Type) → List (DataW H) → Bool := fun _ ds => decide (uptoBulkAll ds ≤ 1048576)
def OpenSpec.upto (s : _root_.Go.ChangeSpec) : _root_.Go.OpenSpec := { _root_.Go.OpenSpec.ofChange s with cond := some uptoSmall }

/-- 'inlaylaw06.PatchChecks', WHERE WHAT IT READS IS OF BULK AT MOST 1048576: true; the input reads as it did. -/
def patchChecksUptoRow : OpenClaim := { program := "ytncocpjkaggnjaagreatdoor", sum := "a8d2fbbdccf9f38e96e6eb3c7a6e8231c8a00fdac5f53987f80dc4d45ffb914f", func := "inlay/inlaylaw06.PatchChecks", spec := "patchChecks", unfollowed := true, recurses := true, named := ["inlay/inst.kinds"], apart := false, laid := [("inlay/inst.kinds", laid_inlay_inst_kinds)], narrowed := true }
def PatchChecksUptoSaid : Prop := patchChecksUptoRow.holds Tryz.pinned (OpenSpec.upto patchChecksSpec)

/-- 'inlaylaw06.PatchLifted', WHERE WHAT IT READS IS OF BULK AT MOST 1048576: true; the input reads as it did. -/
def patchLiftedUptoRow : OpenClaim := { program := "ytncocpjkaggnjaagreatdoor", sum := "a8d2fbbdccf9f38e96e6eb3c7a6e8231c8a00fdac5f53987f80dc4d45ffb914f", func := "inlay/inlaylaw06.PatchLifted", spec := "patchLifted", unfollowed := true, recurses := true, named := ["inlay/inst.kinds"], apart := false, laid := [("inlay/inst.kinds", laid_inlay_inst_kinds)], narrowed := true }
def PatchLiftedUptoSaid : Prop := patchLiftedUptoRow.holds Tryz.pinned (OpenSpec.upto patchLiftedSpec)

/-- 'inlaylaw10.InverseMatchesReference', WHERE WHAT IT READS IS OF BULK AT MOST 1048576: true; the input reads as it did. -/
def inverseMatchesReferenceUptoRow : OpenClaim := { program := "ytncocpjkaggnjaagreatdoor", sum := "a8d2fbbdccf9f38e96e6eb3c7a6e8231c8a00fdac5f53987f80dc4d45ffb914f", func := "inlay/inlaylaw10.InverseMatchesReference", spec := "inverseMatchesReference", unfollowed := true, recurses := true, named := ["inlay/inst.kinds", "inlay/normal.costs"], apart := false, laid := [("inlay/inst.kinds", laid_inlay_inst_kinds), ("inlay/normal.costs", laid_inlay_normal_costs)], narrowed := true }
def InverseMatchesReferenceUptoSaid : Prop := inverseMatchesReferenceUptoRow.holds Tryz.pinned (OpenSpec.upto inverseMatchesReferenceSpec)

/-- 'inlaylaw10.InverseBack', WHERE WHAT IT READS IS OF BULK AT MOST 1048576: true; the input reads as it did. -/
def inverseBackUptoRow : OpenClaim := { program := "ytncocpjkaggnjaagreatdoor", sum := "a8d2fbbdccf9f38e96e6eb3c7a6e8231c8a00fdac5f53987f80dc4d45ffb914f", func := "inlay/inlaylaw10.InverseBack", spec := "inverseBack", unfollowed := true, recurses := true, named := ["inlay/inst.kinds", "inlay/normal.costs"], apart := false, laid := [("inlay/inst.kinds", laid_inlay_inst_kinds), ("inlay/normal.costs", laid_inlay_normal_costs)], narrowed := true }
def InverseBackUptoSaid : Prop := inverseBackUptoRow.holds Tryz.pinned (OpenSpec.upto inverseBackSpec)

/-- 'inlaylaw10.InverseCode', WHERE WHAT IT READS IS OF BULK AT MOST 1048576: true; the input reads as it did. -/
def inverseCodeUptoRow : OpenClaim := { program := "ytncocpjkaggnjaagreatdoor", sum := "a8d2fbbdccf9f38e96e6eb3c7a6e8231c8a00fdac5f53987f80dc4d45ffb914f", func := "inlay/inlaylaw10.InverseCode", spec := "inverseCode", unfollowed := true, recurses := true, named := ["inlay/inst.kinds", "inlay/normal.costs"], apart := false, laid := [("inlay/inst.kinds", laid_inlay_inst_kinds), ("inlay/normal.costs", laid_inlay_normal_costs)], narrowed := true }
def InverseCodeUptoSaid : Prop := inverseCodeUptoRow.holds Tryz.pinned (OpenSpec.upto inverseCodeSpec)

/-- 'inlaylaw10.InverseLiterals', WHERE WHAT IT READS IS OF BULK AT MOST 1048576: true; the input reads as it did. -/
def inverseLiteralsUptoRow : OpenClaim := { program := "ytncocpjkaggnjaagreatdoor", sum := "a8d2fbbdccf9f38e96e6eb3c7a6e8231c8a00fdac5f53987f80dc4d45ffb914f", func := "inlay/inlaylaw10.InverseLiterals", spec := "inverseLiterals", unfollowed := true, recurses := true, named := ["inlay/inst.kinds", "inlay/normal.costs"], apart := false, laid := [("inlay/inst.kinds", laid_inlay_inst_kinds), ("inlay/normal.costs", laid_inlay_normal_costs)], narrowed := true }
def InverseLiteralsUptoSaid : Prop := inverseLiteralsUptoRow.holds Tryz.pinned (OpenSpec.upto inverseLiteralsSpec)

/-- 'inlaylaw10.InverseTwice', WHERE WHAT IT READS IS OF BULK AT MOST 1048576: true; the input reads as it did. -/
def inverseTwiceUptoRow : OpenClaim := { program := "ytncocpjkaggnjaagreatdoor", sum := "a8d2fbbdccf9f38e96e6eb3c7a6e8231c8a00fdac5f53987f80dc4d45ffb914f", func := "inlay/inlaylaw10.InverseTwice", spec := "inverseTwice", unfollowed := true, recurses := true, named := ["inlay/inst.kinds", "inlay/normal.costs"], apart := false, laid := [("inlay/inst.kinds", laid_inlay_inst_kinds), ("inlay/normal.costs", laid_inlay_normal_costs)], narrowed := true }
def InverseTwiceUptoSaid : Prop := inverseTwiceUptoRow.holds Tryz.pinned (OpenSpec.upto inverseTwiceSpec)

end Rows
end Go.Proofs.YtncocpjkaggnjaaGreatDoor
