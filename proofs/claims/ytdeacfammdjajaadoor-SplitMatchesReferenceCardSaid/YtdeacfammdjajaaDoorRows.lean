/-
  NARROWER THAN 'FOR EVERY INPUT', by the rows' own cells (each row's printed sentence says how): SplitMatchesReference: laid · SplitLifted: laid · SplitRefuses: laid.
  DERIVED. THE GIVEN ROWS OF THIS SEAT. 3 by the template 'for every input the law returns true; each argument reads behind the call as it read before'; 0 by the template 'total and deterministic' (their statements: YtdeacfammdjajaaDoorTotals.lean).
  GIVEN WITH THE SEED: the statements are not yours to turn. If you find one false, say at which input.
  Laid BY PROGRAM, IN A SANDBOX (cutbox-rows.mjs): the forced cells as the released guide's own fill.sh prints them over the translation d99a5adfb9e05212… (all of the seat's roots in one cut). By AI agents, Wed Nov 11 2026. No macro, syntax, notation, axiom, sorry.
-/
import Derived.Test.YtdeacfammdjajaaDoorChecked
import GoSem.Claim
import GoSem.ClaimJoined
import GoSem.ClaimMapViews
import Derived.JoinedTies
import Derived.KernelRfl
namespace Go.Proofs.YtdeacfammdjajaaDoor
/- THE CELL 'sum', in the pinned program and in every row, IS THE sha256 OF THE DUMP (.gsa) THAT YtdeacfammdjajaaDoorProg.lean LOADS. Nothing in Lean hashes anything: it is a label: what it is worth is what the hold of that sum in a sandbox is worth. -/
noncomputable def Tryd.pinned : Pinned := { name := "ytdeacfammdjajaadoor", sum := "d99a5adfb9e052127488ae054f0ee445262c205c403e77c0d2cc80a55ae1bdef", checked := Tryd.checked }
namespace Rows
def none {H : Type} : Left H := { results := [], args := [] }

/- WHAT THE LISTED PACKAGE-LEVEL VARIABLES READ AS WHEN THE CALL BEGINS. Each datum BY PROGRAM (the guide's laid-datum.mjs) off the statement by which the dump's own 'gosem.cut.vars' lays the variable. In a bare row this is a premise. The card (YtdeacfammdjajaaDoorCards.lean) ties it to the program's text. -/
def laid_inlay_normal_costs {H : Type} : DataW H := .agg [.agg [.lit (.int .i64 0), .lit (.int .i64 0)], .agg [.lit (.int .i64 4), .lit (.int .i64 0)], .agg [.lit (.int .i64 4), .lit (.int .i64 1)], .agg [.lit (.int .i64 4), .lit (.int .i64 0)], .agg [.lit (.int .i64 2), .lit (.int .i64 1)]]

/-- 'inlaylaw12.SplitMatchesReference': WHATEVER THE INPUT: true; the input reads as it did. -/
def splitMatchesReferenceSpec : ChangeSpec := { name := "splitMatchesReference", fn := fun _ => fun
  | [d1, d2, d3] => { results := [.lit (.bool true)], args := [d1, d2, d3] }
  | _ => none }
def splitMatchesReferenceRow : OpenClaim := { program := "ytdeacfammdjajaadoor", sum := "d99a5adfb9e052127488ae054f0ee445262c205c403e77c0d2cc80a55ae1bdef", func := "inlay/inlaylaw12.SplitMatchesReference", spec := "splitMatchesReference", unfollowed := true, recurses := true, named := ["inlay/normal.costs"], apart := false, laid := [("inlay/normal.costs", laid_inlay_normal_costs)] }
def SplitMatchesReferenceSaid : Prop := splitMatchesReferenceRow.holds Tryd.pinned (OpenSpec.ofChange splitMatchesReferenceSpec)

/-- ITS FALSE NEIGHBOUR: 'it returns false'. Refute it at one input. -/
def splitMatchesReferenceWrong : ChangeSpec := { name := "splitMatchesReference", fn := fun _ => fun
  | [d1, d2, d3] => { results := [.lit (.bool false)], args := [d1, d2, d3] }
  | _ => none }
def SplitMatchesReferenceWrongFalsely : Prop := splitMatchesReferenceRow.holds Tryd.pinned (OpenSpec.ofChange splitMatchesReferenceWrong)

/-- 'inlaylaw12.SplitLifted': WHATEVER THE INPUT: true; the input reads as it did. -/
def splitLiftedSpec : ChangeSpec := { name := "splitLifted", fn := fun _ => fun
  | [d1, d2] => { results := [.lit (.bool true)], args := [d1, d2] }
  | _ => none }
def splitLiftedRow : OpenClaim := { program := "ytdeacfammdjajaadoor", sum := "d99a5adfb9e052127488ae054f0ee445262c205c403e77c0d2cc80a55ae1bdef", func := "inlay/inlaylaw12.SplitLifted", spec := "splitLifted", unfollowed := true, recurses := true, named := ["inlay/normal.costs"], apart := false, laid := [("inlay/normal.costs", laid_inlay_normal_costs)] }
def SplitLiftedSaid : Prop := splitLiftedRow.holds Tryd.pinned (OpenSpec.ofChange splitLiftedSpec)

/-- ITS FALSE NEIGHBOUR: 'it returns false'. Refute it at one input. -/
def splitLiftedWrong : ChangeSpec := { name := "splitLifted", fn := fun _ => fun
  | [d1, d2] => { results := [.lit (.bool false)], args := [d1, d2] }
  | _ => none }
def SplitLiftedWrongFalsely : Prop := splitLiftedRow.holds Tryd.pinned (OpenSpec.ofChange splitLiftedWrong)

/-- 'inlaylaw12.SplitRefuses': WHATEVER THE INPUT: true; the input reads as it did. -/
def splitRefusesSpec : ChangeSpec := { name := "splitRefuses", fn := fun _ => fun
  | [d1, d2, d3] => { results := [.lit (.bool true)], args := [d1, d2, d3] }
  | _ => none }
def splitRefusesRow : OpenClaim := { program := "ytdeacfammdjajaadoor", sum := "d99a5adfb9e052127488ae054f0ee445262c205c403e77c0d2cc80a55ae1bdef", func := "inlay/inlaylaw12.SplitRefuses", spec := "splitRefuses", unfollowed := true, recurses := true, named := ["inlay/normal.costs"], apart := false, laid := [("inlay/normal.costs", laid_inlay_normal_costs)] }
def SplitRefusesSaid : Prop := splitRefusesRow.holds Tryd.pinned (OpenSpec.ofChange splitRefusesSpec)

/-- ITS FALSE NEIGHBOUR: 'it returns false'. Refute it at one input. -/
def splitRefusesWrong : ChangeSpec := { name := "splitRefuses", fn := fun _ => fun
  | [d1, d2, d3] => { results := [.lit (.bool false)], args := [d1, d2, d3] }
  | _ => none }
def SplitRefusesWrongFalsely : Prop := splitRefusesRow.holds Tryd.pinned (OpenSpec.ofChange splitRefusesWrong)

/- THE SECOND FORM. 'bulk': how many values and letters a reading holds, each counted each time it is reached (what is shared counts as often as it is met; a slice's spare places count too). A statement '..UptoSaid' is the law's where the arguments, and the package variables that the reading takes, are together of bulk at most 1048576: NARROWER than '..Said'. Prove '..Said' where nothing that the law and all that it calls make is longer than what came in: it says more and counts as full. Else prove '..UptoSaid'. A law counts once. -/
mutual
def uptoBulk {H : Type} : DataW H → Nat
  | .lit (.string bytes) => bytes.length + 1
  | .lit _ => 1
  | .nil => 1
  | .ptr d => uptoBulk d + 1
  | .slice elems spare => uptoBulkAll elems + uptoBulkAll spare + 1
  | .agg parts => uptoBulkAll parts + 1
  | .iface _ d => uptoBulk d + 1
  | .map entries => uptoBulkEntries entries + 1
  | .held _ => 1
def uptoBulkAll {H : Type} : List (DataW H) → Nat
  | [] => 0
  | d :: r => uptoBulk d + uptoBulkAll r
def uptoBulkEntries {H : Type} : List (Lit × DataW H) → Nat
  | [] => 0
  | x :: r => uptoBulkEntry x + uptoBulkEntries r
def uptoBulkEntry {H : Type} : Lit × DataW H → Nat
  | (.string bytes, d) => bytes.length + uptoBulk d + 1
  | (_, d) => uptoBulk d + 1
 end
def uptoSmall : (H : Type) → List (DataW H) → Bool := fun _ ds => decide (uptoBulkAll ds ≤ 1048576)
def OpenSpec.upto (s : _root_.Go.ChangeSpec) : _root_.Go.OpenSpec := { _root_.Go.OpenSpec.ofChange s with cond := some uptoSmall }

/-- 'inlaylaw12.SplitMatchesReference', WHERE WHAT IT READS IS OF BULK AT MOST 1048576: true; the input reads as it did. -/
def splitMatchesReferenceUptoRow : OpenClaim := { program := "ytdeacfammdjajaadoor", sum := "d99a5adfb9e052127488ae054f0ee445262c205c403e77c0d2cc80a55ae1bdef", func := "inlay/inlaylaw12.SplitMatchesReference", spec := "splitMatchesReference", unfollowed := true, recurses := true, named := ["inlay/normal.costs"], apart := false, laid := [("inlay/normal.costs", laid_inlay_normal_costs)], narrowed := true }
def SplitMatchesReferenceUptoSaid : Prop := splitMatchesReferenceUptoRow.holds Tryd.pinned (OpenSpec.upto splitMatchesReferenceSpec)

/-- 'inlaylaw12.SplitLifted', WHERE WHAT IT READS IS OF BULK AT MOST 1048576: true; the input reads as it did. -/
def splitLiftedUptoRow : OpenClaim := { program := "ytdeacfammdjajaadoor", sum := "d99a5adfb9e052127488ae054f0ee445262c205c403e77c0d2cc80a55ae1bdef", func := "inlay/inlaylaw12.SplitLifted", spec := "splitLifted", unfollowed := true, recurses := true, named := ["inlay/normal.costs"], apart := false, laid := [("inlay/normal.costs", laid_inlay_normal_costs)], narrowed := true }
def SplitLiftedUptoSaid : Prop := splitLiftedUptoRow.holds Tryd.pinned (OpenSpec.upto splitLiftedSpec)

/-- 'inlaylaw12.SplitRefuses', WHERE WHAT IT READS IS OF BULK AT MOST 1048576: true; the input reads as it did. -/
def splitRefusesUptoRow : OpenClaim := { program := "ytdeacfammdjajaadoor", sum := "d99a5adfb9e052127488ae054f0ee445262c205c403e77c0d2cc80a55ae1bdef", func := "inlay/inlaylaw12.SplitRefuses", spec := "splitRefuses", unfollowed := true, recurses := true, named := ["inlay/normal.costs"], apart := false, laid := [("inlay/normal.costs", laid_inlay_normal_costs)], narrowed := true }
def SplitRefusesUptoSaid : Prop := splitRefusesUptoRow.holds Tryd.pinned (OpenSpec.upto splitRefusesSpec)

end Rows
end Go.Proofs.YtdeacfammdjajaaDoor
