/-
  NARROWER THAN 'FOR EVERY INPUT', by the rows' own cells (each row's printed sentence says how): ComposeApplies: laid.
  DERIVED. THE GIVEN ROWS OF THIS SEAT. 1 by the template 'for every input the law returns true; each argument reads behind the call as it read before'; 0 by the template 'total and deterministic' (their statements: YticpkibnhakgbaaGreatDoorTotals.lean).
  GIVEN WITH THE SEED: the statements are not yours to turn. If you find one false, say at which input.
  Laid BY PROGRAM, IN A SANDBOX (cutbox-rows.mjs): the forced cells as the released guide's own fill.sh prints them over the translation 4190fdc2895a3a46… (all of the seat's roots in one cut). By AI agents, Wed Nov 11 2026. No macro, syntax, notation, axiom, sorry.
-/
import Derived.Test.YticpkibnhakgbaaGreatDoorChecked
import GoSem.Claim
import GoSem.ClaimJoined
import GoSem.ClaimMapViews
import Derived.JoinedTies
import Derived.KernelRfl
namespace Go.Proofs.YticpkibnhakgbaaGreatDoor
/- THE CELL 'sum', in the pinned program and in every row, IS THE sha256 OF THE DUMP (.gsa) THAT YticpkibnhakgbaaGreatDoorProg.lean LOADS. Nothing in Lean hashes anything: it is a label: what it is worth is what the hold of that sum in a sandbox is worth. -/
noncomputable def Tryz.pinned : Pinned := { name := "yticpkibnhakgbaagreatdoor", sum := "4190fdc2895a3a4699f5045f919791c380ba152e1246e3a3e01e883580bd515d", checked := Tryz.checked }
namespace Rows
def none {H : Type} : Left H := { results := [], args := [] }

/- WHAT THE LISTED PACKAGE-LEVEL VARIABLES READ AS WHEN THE CALL BEGINS. Each datum BY PROGRAM (the guide's laid-datum.mjs) off the statement by which the dump's own 'gosem.cut.vars' lays the variable. In a bare row this is a premise. The card (YticpkibnhakgbaaGreatDoorCards.lean) ties it to the program's text. -/
def laid_inlay_inst_kinds {H : Type} : DataW H := .agg [.agg [.lit (.string [100, 97, 116, 97]), .lit (.int .i64 0), .lit (.int .i64 32), .lit (.bool false), .lit (.bool false)], .agg [.lit (.string [97, 100, 100]), .lit (.int .i64 3), .lit (.int .i64 0), .lit (.bool false), .lit (.bool false)], .agg [.lit (.string [115, 101, 116]), .lit (.int .i64 1), .lit (.int .i64 16), .lit (.bool false), .lit (.bool false)], .agg [.lit (.string [108, 111, 97, 100]), .lit (.int .i64 3), .lit (.int .i64 0), .lit (.bool false), .lit (.bool false)], .agg [.lit (.string [115, 116, 111, 114, 101]), .lit (.int .i64 3), .lit (.int .i64 0), .lit (.bool false), .lit (.bool false)], .agg [.lit (.string [106, 117, 109, 112]), .lit (.int .i64 0), .lit (.int .i64 24), .lit (.bool true), .lit (.bool true)], .agg [.lit (.string [99, 97, 108, 108]), .lit (.int .i64 0), .lit (.int .i64 24), .lit (.bool true), .lit (.bool true)], .agg [.lit (.string [98, 114, 97, 110, 99, 104]), .lit (.int .i64 1), .lit (.int .i64 16), .lit (.bool true), .lit (.bool true)], .agg [.lit (.string [112, 111, 111, 108]), .lit (.int .i64 1), .lit (.int .i64 16), .lit (.bool false), .lit (.bool true)]]
def laid_inlay_normal_costs {H : Type} : DataW H := .agg [.agg [.lit (.int .i64 0), .lit (.int .i64 0)], .agg [.lit (.int .i64 4), .lit (.int .i64 0)], .agg [.lit (.int .i64 4), .lit (.int .i64 1)], .agg [.lit (.int .i64 4), .lit (.int .i64 0)], .agg [.lit (.int .i64 2), .lit (.int .i64 1)]]

/-- 'inlaylaw09.ComposeApplies': WHATEVER THE INPUT: true; the input reads as it did. -/
def composeAppliesSpec : ChangeSpec := { name := "composeApplies", fn := fun _ => fun
  | [d1, d2] => { results := [.lit (.bool true)], args := [d1, d2] }
  | _ => none }
def composeAppliesRow : OpenClaim := { program := "yticpkibnhakgbaagreatdoor", sum := "4190fdc2895a3a4699f5045f919791c380ba152e1246e3a3e01e883580bd515d", func := "inlay/inlaylaw09.ComposeApplies", spec := "composeApplies", unfollowed := true, recurses := true, named := ["inlay/normal.costs", "inlay/inst.kinds"], apart := false, laid := [("inlay/inst.kinds", laid_inlay_inst_kinds), ("inlay/normal.costs", laid_inlay_normal_costs)] }
def ComposeAppliesSaid : Prop := composeAppliesRow.holds Tryz.pinned (OpenSpec.ofChange composeAppliesSpec)

/-- ITS FALSE NEIGHBOUR: 'it returns false'. Refute it at one input. -/
def composeAppliesWrong : ChangeSpec := { name := "composeApplies", fn := fun _ => fun
  | [d1, d2] => { results := [.lit (.bool false)], args := [d1, d2] }
  | _ => none }
def ComposeAppliesWrongFalsely : Prop := composeAppliesRow.holds Tryz.pinned (OpenSpec.ofChange composeAppliesWrong)

/- THE SECOND FORM. 'bulk': how many values and letters a reading holds, each counted each time it is reached (what is shared counts as often as it is met; a slice's spare places count too). A statement '..UptoSaid' is the law's where the arguments, and the package variables that the reading takes, are together of bulk at most 1048576: NARROWER than '..Said'. Prove '..Said' where nothing that the law and all that it calls make is longer than what came in: it says more and counts as full. Else prove '..UptoSaid'. A law counts once. -/
mutual
def uptoBulk {H : Type} : DataW H → Nat
  | .lit (.string bytes) => bytes.length + 1
  | .lit _ => 1
  | .nil => 1
  | .ptr d => uptoBulk d + 1
  | .slice elems spare => uptoBulkAll elems + uptoBulkAll spare + 1
  | .agg parts => uptoBulkAll parts + 1
  | .iface _ d => uptoBulk d + 1
  | .map entries => uptoBulkEntries entries + 1
  | .held _ => 1
def uptoBulkAll {H : Type} : List (DataW H) → Nat
  | [] => 0
  | d :: r => uptoBulk d + uptoBulkAll r
def uptoBulkEntries {H : Type} : List (Lit × DataW H) → Nat
  | [] => 0
  | x :: r => uptoBulkEntry x + uptoBulkEntries r
def uptoBulkEntry {H : Type} : Lit × DataW H → Nat
  | (.string bytes, d) => bytes.length + uptoBulk d + 1
  | (_, d) => uptoBulk d + 1
 end
def uptoSmall : (H : Type) → List (DataW H) → Bool := fun _ ds => decide (uptoBulkAll ds ≤ 1048576)
def OpenSpec.upto (s : _root_.Go.ChangeSpec) : _root_.Go.OpenSpec := { _root_.Go.OpenSpec.ofChange s with cond := some uptoSmall }

/-- 'inlaylaw09.ComposeApplies', WHERE WHAT IT READS IS OF BULK AT MOST 1048576: true; the input reads as it did. -/
def composeAppliesUptoRow : OpenClaim := { program := "yticpkibnhakgbaagreatdoor", sum := "4190fdc2895a3a4699f5045f919791c380ba152e1246e3a3e01e883580bd515d", func := "inlay/inlaylaw09.ComposeApplies", spec := "composeApplies", unfollowed := true, recurses := true, named := ["inlay/normal.costs", "inlay/inst.kinds"], apart := false, laid := [("inlay/inst.kinds", laid_inlay_inst_kinds), ("inlay/normal.costs", laid_inlay_normal_costs)], narrowed := true }
def ComposeAppliesUptoSaid : Prop := composeAppliesUptoRow.holds Tryz.pinned (OpenSpec.upto composeAppliesSpec)

end Rows
end Go.Proofs.YticpkibnhakgbaaGreatDoor
