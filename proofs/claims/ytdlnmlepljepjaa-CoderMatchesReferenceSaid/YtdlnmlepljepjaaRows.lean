/-
  No cell of these rows narrows 'for every input' (looked for: loops, veiled, ifaces, maps, wideKeys, modest, calm, conditions, laid).
  DERIVED. THE GIVEN ROWS OF THIS SEAT. 11 by the template 'for every input the law returns true; each argument reads behind the call as it read before'; 0 by the template 'total and deterministic' (their statements: YtdlnmlepljepjaaTotals.lean).
  GIVEN WITH THE SEED: the statements are not yours to turn. If you find one false, say at which input.
  Laid BY PROGRAM, IN A SANDBOX (cutbox-rows.mjs): the forced cells as the released guide's own fill.sh prints them over the translation 595b512578f42191… (all of the seat's roots in one cut). By AI agents, Wed Nov 11 2026. No macro, syntax, notation, axiom, sorry.
-/
import Derived.Test.YtdlnmlepljepjaaChecked
import GoSem.Claim
import GoSem.ClaimJoined
import GoSem.ClaimMapViews
import Derived.JoinedTies
import Derived.KernelRfl
namespace Go.Proofs.Ytdlnmlepljepjaa
/- THE CELL 'sum', in the pinned program and in every row, IS THE sha256 OF THE DUMP (.gsa) THAT YtdlnmlepljepjaaProg.lean LOADS. Nothing in Lean hashes anything: it is a label: what it is worth is what the hold of that sum in a sandbox is worth. -/
noncomputable def Try.pinned : Pinned := { name := "ytdlnmlepljepjaa", sum := "595b512578f42191e9dad3cdfce7262c3499e87a794ccf7970b399fcff2ac523", checked := Try.checked }
namespace Rows
def none {H : Type} : Left H := { results := [], args := [] }

/-- 'inlaylaw13.CoderMatchesReference': WHATEVER THE INPUT: true; the input reads as it did. -/
def coderMatchesReferenceSpec : ChangeSpec := { name := "coderMatchesReference", fn := fun _ => fun
  | [d1, d2, d3] => { results := [.lit (.bool true)], args := [d1, d2, d3] }
  | _ => none }
def coderMatchesReferenceRow : OpenClaim := { program := "ytdlnmlepljepjaa", sum := "595b512578f42191e9dad3cdfce7262c3499e87a794ccf7970b399fcff2ac523", func := "inlay/inlaylaw13.CoderMatchesReference", spec := "coderMatchesReference", unfollowed := true, recurses := true, apart := false }
def CoderMatchesReferenceSaid : Prop := coderMatchesReferenceRow.holds Try.pinned (OpenSpec.ofChange coderMatchesReferenceSpec)

/-- ITS FALSE NEIGHBOUR: 'it returns false'. Refute it at one input. -/
def coderMatchesReferenceWrong : ChangeSpec := { name := "coderMatchesReference", fn := fun _ => fun
  | [d1, d2, d3] => { results := [.lit (.bool false)], args := [d1, d2, d3] }
  | _ => none }
def CoderMatchesReferenceWrongFalsely : Prop := coderMatchesReferenceRow.holds Try.pinned (OpenSpec.ofChange coderMatchesReferenceWrong)

/-- 'inlaylaw13.CoderInverts': WHATEVER THE INPUT: true; the input reads as it did. -/
def coderInvertsSpec : ChangeSpec := { name := "coderInverts", fn := fun _ => fun
  | [d1, d2] => { results := [.lit (.bool true)], args := [d1, d2] }
  | _ => none }
def coderInvertsRow : OpenClaim := { program := "ytdlnmlepljepjaa", sum := "595b512578f42191e9dad3cdfce7262c3499e87a794ccf7970b399fcff2ac523", func := "inlay/inlaylaw13.CoderInverts", spec := "coderInverts", unfollowed := true, recurses := true, apart := false }
def CoderInvertsSaid : Prop := coderInvertsRow.holds Try.pinned (OpenSpec.ofChange coderInvertsSpec)

/-- ITS FALSE NEIGHBOUR: 'it returns false'. Refute it at one input. -/
def coderInvertsWrong : ChangeSpec := { name := "coderInverts", fn := fun _ => fun
  | [d1, d2] => { results := [.lit (.bool false)], args := [d1, d2] }
  | _ => none }
def CoderInvertsWrongFalsely : Prop := coderInvertsRow.holds Try.pinned (OpenSpec.ofChange coderInvertsWrong)

/-- 'inlaylaw13.CoderCodes': WHATEVER THE INPUT: true; the input reads as it did. -/
def coderCodesSpec : ChangeSpec := { name := "coderCodes", fn := fun _ => fun
  | [d1, d2, d3] => { results := [.lit (.bool true)], args := [d1, d2, d3] }
  | _ => none }
def coderCodesRow : OpenClaim := { program := "ytdlnmlepljepjaa", sum := "595b512578f42191e9dad3cdfce7262c3499e87a794ccf7970b399fcff2ac523", func := "inlay/inlaylaw13.CoderCodes", spec := "coderCodes", unfollowed := true, recurses := true, apart := false }
def CoderCodesSaid : Prop := coderCodesRow.holds Try.pinned (OpenSpec.ofChange coderCodesSpec)

/-- ITS FALSE NEIGHBOUR: 'it returns false'. Refute it at one input. -/
def coderCodesWrong : ChangeSpec := { name := "coderCodes", fn := fun _ => fun
  | [d1, d2, d3] => { results := [.lit (.bool false)], args := [d1, d2, d3] }
  | _ => none }
def CoderCodesWrongFalsely : Prop := coderCodesRow.holds Try.pinned (OpenSpec.ofChange coderCodesWrong)

/-- 'inlaylaw13.CoderDiffers': WHATEVER THE INPUT: true; the input reads as it did. -/
def coderDiffersSpec : ChangeSpec := { name := "coderDiffers", fn := fun _ => fun
  | [d1, d2, d3] => { results := [.lit (.bool true)], args := [d1, d2, d3] }
  | _ => none }
def coderDiffersRow : OpenClaim := { program := "ytdlnmlepljepjaa", sum := "595b512578f42191e9dad3cdfce7262c3499e87a794ccf7970b399fcff2ac523", func := "inlay/inlaylaw13.CoderDiffers", spec := "coderDiffers", unfollowed := true, recurses := true, apart := false }
def CoderDiffersSaid : Prop := coderDiffersRow.holds Try.pinned (OpenSpec.ofChange coderDiffersSpec)

/-- ITS FALSE NEIGHBOUR: 'it returns false'. Refute it at one input. -/
def coderDiffersWrong : ChangeSpec := { name := "coderDiffers", fn := fun _ => fun
  | [d1, d2, d3] => { results := [.lit (.bool false)], args := [d1, d2, d3] }
  | _ => none }
def CoderDiffersWrongFalsely : Prop := coderDiffersRow.holds Try.pinned (OpenSpec.ofChange coderDiffersWrong)

/-- 'inlaylaw13.CoderSizes': WHATEVER THE INPUT: true; the input reads as it did. -/
def coderSizesSpec : ChangeSpec := { name := "coderSizes", fn := fun _ => fun
  | [d] => { results := [.lit (.bool true)], args := [d] }
  | _ => none }
def coderSizesRow : OpenClaim := { program := "ytdlnmlepljepjaa", sum := "595b512578f42191e9dad3cdfce7262c3499e87a794ccf7970b399fcff2ac523", func := "inlay/inlaylaw13.CoderSizes", spec := "coderSizes", unfollowed := true, recurses := true, apart := false }
def CoderSizesSaid : Prop := coderSizesRow.holds Try.pinned (OpenSpec.ofChange coderSizesSpec)

/-- ITS FALSE NEIGHBOUR: 'it returns false'. Refute it at one input. -/
def coderSizesWrong : ChangeSpec := { name := "coderSizes", fn := fun _ => fun
  | [d] => { results := [.lit (.bool false)], args := [d] }
  | _ => none }
def CoderSizesWrongFalsely : Prop := coderSizesRow.holds Try.pinned (OpenSpec.ofChange coderSizesWrong)

/-- 'inlaylaw13.CoderZeros': WHATEVER THE INPUT: true; the input reads as it did. -/
def coderZerosSpec : ChangeSpec := { name := "coderZeros", fn := fun _ => fun
  | [d1, d2, d3] => { results := [.lit (.bool true)], args := [d1, d2, d3] }
  | _ => none }
def coderZerosRow : OpenClaim := { program := "ytdlnmlepljepjaa", sum := "595b512578f42191e9dad3cdfce7262c3499e87a794ccf7970b399fcff2ac523", func := "inlay/inlaylaw13.CoderZeros", spec := "coderZeros", unfollowed := true, recurses := true, apart := false }
def CoderZerosSaid : Prop := coderZerosRow.holds Try.pinned (OpenSpec.ofChange coderZerosSpec)

/-- ITS FALSE NEIGHBOUR: 'it returns false'. Refute it at one input. -/
def coderZerosWrong : ChangeSpec := { name := "coderZeros", fn := fun _ => fun
  | [d1, d2, d3] => { results := [.lit (.bool false)], args := [d1, d2, d3] }
  | _ => none }
def CoderZerosWrongFalsely : Prop := coderZerosRow.holds Try.pinned (OpenSpec.ofChange coderZerosWrong)

/-- 'inlaylaw13.CoderTables': WHATEVER THE INPUT: true; the input reads as it did. -/
def coderTablesSpec : ChangeSpec := { name := "coderTables", fn := fun _ => fun
  | [d1, d2, d3] => { results := [.lit (.bool true)], args := [d1, d2, d3] }
  | _ => none }
def coderTablesRow : OpenClaim := { program := "ytdlnmlepljepjaa", sum := "595b512578f42191e9dad3cdfce7262c3499e87a794ccf7970b399fcff2ac523", func := "inlay/inlaylaw13.CoderTables", spec := "coderTables", unfollowed := true, recurses := true, apart := false }
def CoderTablesSaid : Prop := coderTablesRow.holds Try.pinned (OpenSpec.ofChange coderTablesSpec)

/-- ITS FALSE NEIGHBOUR: 'it returns false'. Refute it at one input. -/
def coderTablesWrong : ChangeSpec := { name := "coderTables", fn := fun _ => fun
  | [d1, d2, d3] => { results := [.lit (.bool false)], args := [d1, d2, d3] }
  | _ => none }
def CoderTablesWrongFalsely : Prop := coderTablesRow.holds Try.pinned (OpenSpec.ofChange coderTablesWrong)

/-- 'inlaylaw14.PackMatchesReference': WHATEVER THE INPUT: true; the input reads as it did. -/
def packMatchesReferenceSpec : ChangeSpec := { name := "packMatchesReference", fn := fun _ => fun
  | [d1, d2, d3] => { results := [.lit (.bool true)], args := [d1, d2, d3] }
  | _ => none }
def packMatchesReferenceRow : OpenClaim := { program := "ytdlnmlepljepjaa", sum := "595b512578f42191e9dad3cdfce7262c3499e87a794ccf7970b399fcff2ac523", func := "inlay/inlaylaw14.PackMatchesReference", spec := "packMatchesReference", unfollowed := true, recurses := true, apart := false }
def PackMatchesReferenceSaid : Prop := packMatchesReferenceRow.holds Try.pinned (OpenSpec.ofChange packMatchesReferenceSpec)

/-- ITS FALSE NEIGHBOUR: 'it returns false'. Refute it at one input. -/
def packMatchesReferenceWrong : ChangeSpec := { name := "packMatchesReference", fn := fun _ => fun
  | [d1, d2, d3] => { results := [.lit (.bool false)], args := [d1, d2, d3] }
  | _ => none }
def PackMatchesReferenceWrongFalsely : Prop := packMatchesReferenceRow.holds Try.pinned (OpenSpec.ofChange packMatchesReferenceWrong)

/-- 'inlaylaw14.PackOnly': WHATEVER THE INPUT: true; the input reads as it did. -/
def packOnlySpec : ChangeSpec := { name := "packOnly", fn := fun _ => fun
  | [d1, d2, d3] => { results := [.lit (.bool true)], args := [d1, d2, d3] }
  | _ => none }
def packOnlyRow : OpenClaim := { program := "ytdlnmlepljepjaa", sum := "595b512578f42191e9dad3cdfce7262c3499e87a794ccf7970b399fcff2ac523", func := "inlay/inlaylaw14.PackOnly", spec := "packOnly", unfollowed := true, recurses := true, apart := false }
def PackOnlySaid : Prop := packOnlyRow.holds Try.pinned (OpenSpec.ofChange packOnlySpec)

/-- ITS FALSE NEIGHBOUR: 'it returns false'. Refute it at one input. -/
def packOnlyWrong : ChangeSpec := { name := "packOnly", fn := fun _ => fun
  | [d1, d2, d3] => { results := [.lit (.bool false)], args := [d1, d2, d3] }
  | _ => none }
def PackOnlyWrongFalsely : Prop := packOnlyRow.holds Try.pinned (OpenSpec.ofChange packOnlyWrong)

/-- 'inlaylaw14.PackDamage': WHATEVER THE INPUT: true; the input reads as it did. -/
def packDamageSpec : ChangeSpec := { name := "packDamage", fn := fun _ => fun
  | [d1, d2, d3] => { results := [.lit (.bool true)], args := [d1, d2, d3] }
  | _ => none }
def packDamageRow : OpenClaim := { program := "ytdlnmlepljepjaa", sum := "595b512578f42191e9dad3cdfce7262c3499e87a794ccf7970b399fcff2ac523", func := "inlay/inlaylaw14.PackDamage", spec := "packDamage", unfollowed := true, recurses := true, apart := false }
def PackDamageSaid : Prop := packDamageRow.holds Try.pinned (OpenSpec.ofChange packDamageSpec)

/-- ITS FALSE NEIGHBOUR: 'it returns false'. Refute it at one input. -/
def packDamageWrong : ChangeSpec := { name := "packDamage", fn := fun _ => fun
  | [d1, d2, d3] => { results := [.lit (.bool false)], args := [d1, d2, d3] }
  | _ => none }
def PackDamageWrongFalsely : Prop := packDamageRow.holds Try.pinned (OpenSpec.ofChange packDamageWrong)

/-- 'inlaylaw14.PackLengths': WHATEVER THE INPUT: true; the input reads as it did. -/
def packLengthsSpec : ChangeSpec := { name := "packLengths", fn := fun _ => fun
  | [d1, d2, d3] => { results := [.lit (.bool true)], args := [d1, d2, d3] }
  | _ => none }
def packLengthsRow : OpenClaim := { program := "ytdlnmlepljepjaa", sum := "595b512578f42191e9dad3cdfce7262c3499e87a794ccf7970b399fcff2ac523", func := "inlay/inlaylaw14.PackLengths", spec := "packLengths", unfollowed := true, recurses := true, apart := false }
def PackLengthsSaid : Prop := packLengthsRow.holds Try.pinned (OpenSpec.ofChange packLengthsSpec)

/-- ITS FALSE NEIGHBOUR: 'it returns false'. Refute it at one input. -/
def packLengthsWrong : ChangeSpec := { name := "packLengths", fn := fun _ => fun
  | [d1, d2, d3] => { results := [.lit (.bool false)], args := [d1, d2, d3] }
  | _ => none }
def PackLengthsWrongFalsely : Prop := packLengthsRow.holds Try.pinned (OpenSpec.ofChange packLengthsWrong)

/- THE SECOND FORM. 'bulk': how many values and letters a reading holds, each counted each time it is reached (what is shared counts as often as it is met; a slice's spare places count too). A statement '..UptoSaid' is the law's where the arguments, and the package variables that the reading takes, are together of bulk at most 1048576: NARROWER than '..Said'. Prove '..Said' where nothing that the law and all that it calls make is longer than what came in: it says more and counts as full. Else prove '..UptoSaid'. A law counts once. -/
mutual
def uptoBulk {H : Type} : DataW H → Nat
  | .lit (.string bytes) => bytes.length + 1
  | .lit _ => 1
  | .nil => 1
  | .ptr d => uptoBulk d + 1
  | .slice elems spare => uptoBulkAll elems + uptoBulkAll spare + 1
  | .agg parts => uptoBulkAll parts + 1
  | .iface _ d => uptoBulk d + 1
  | .map entries => uptoBulkEntries entries + 1
  | .held _ => 1
def uptoBulkAll {H : Type} : List (DataW H) → Nat
  | [] => 0
  | d :: r => uptoBulk d + uptoBulkAll r
def uptoBulkEntries {H : Type} : List (Lit × DataW H) → Nat
  | [] => 0
  | x :: r => uptoBulkEntry x + uptoBulkEntries r
def uptoBulkEntry {H : Type} : Lit × DataW H → Nat
  | (.string bytes, d) => bytes.length + uptoBulk d + 1
  | (_, d) => uptoBulk d + 1
 end
def uptoSmall : (H : Type) → List (DataW H) → Bool := fun _ ds => decide (uptoBulkAll ds ≤ 1048576)
def OpenSpec.upto (s : _root_.Go.ChangeSpec) : _root_.Go.OpenSpec := { _root_.Go.OpenSpec.ofChange s with cond := some uptoSmall }

/-- 'inlaylaw13.CoderMatchesReference', WHERE WHAT IT READS IS OF BULK AT MOST 1048576: true; the input reads as it did. -/
def coderMatchesReferenceUptoRow : OpenClaim := { program := "ytdlnmlepljepjaa", sum := "595b512578f42191e9dad3cdfce7262c3499e87a794ccf7970b399fcff2ac523", func := "inlay/inlaylaw13.CoderMatchesReference", spec := "coderMatchesReference", unfollowed := true, recurses := true, apart := false, narrowed := true }
def CoderMatchesReferenceUptoSaid : Prop := coderMatchesReferenceUptoRow.holds Try.pinned (OpenSpec.upto coderMatchesReferenceSpec)

/-- 'inlaylaw13.CoderInverts', WHERE WHAT IT READS IS OF BULK AT MOST 1048576: true; the input reads as it did. -/
def coderInvertsUptoRow : OpenClaim := { program := "ytdlnmlepljepjaa", sum := "595b512578f42191e9dad3cdfce7262c3499e87a794ccf7970b399fcff2ac523", func := "inlay/inlaylaw13.CoderInverts", spec := "coderInverts", unfollowed := true, recurses := true, apart := false, narrowed := true }
def CoderInvertsUptoSaid : Prop := coderInvertsUptoRow.holds Try.pinned (OpenSpec.upto coderInvertsSpec)

/-- 'inlaylaw13.CoderCodes', WHERE WHAT IT READS IS OF BULK AT MOST 1048576: true; the input reads as it did. -/
def coderCodesUptoRow : OpenClaim := { program := "ytdlnmlepljepjaa", sum := "595b512578f42191e9dad3cdfce7262c3499e87a794ccf7970b399fcff2ac523", func := "inlay/inlaylaw13.CoderCodes", spec := "coderCodes", unfollowed := true, recurses := true, apart := false, narrowed := true }
def CoderCodesUptoSaid : Prop := coderCodesUptoRow.holds Try.pinned (OpenSpec.upto coderCodesSpec)

/-- 'inlaylaw13.CoderDiffers', WHERE WHAT IT READS IS OF BULK AT MOST 1048576: true; the input reads as it did. -/
def coderDiffersUptoRow : OpenClaim := { program := "ytdlnmlepljepjaa", sum := "595b512578f42191e9dad3cdfce7262c3499e87a794ccf7970b399fcff2ac523", func := "inlay/inlaylaw13.CoderDiffers", spec := "coderDiffers", unfollowed := true, recurses := true, apart := false, narrowed := true }
def CoderDiffersUptoSaid : Prop := coderDiffersUptoRow.holds Try.pinned (OpenSpec.upto coderDiffersSpec)

/-- 'inlaylaw13.CoderSizes', WHERE WHAT IT READS IS OF BULK AT MOST 1048576: true; the input reads as it did. -/
def coderSizesUptoRow : OpenClaim := { program := "ytdlnmlepljepjaa", sum := "595b512578f42191e9dad3cdfce7262c3499e87a794ccf7970b399fcff2ac523", func := "inlay/inlaylaw13.CoderSizes", spec := "coderSizes", unfollowed := true, recurses := true, apart := false, narrowed := true }
def CoderSizesUptoSaid : Prop := coderSizesUptoRow.holds Try.pinned (OpenSpec.upto coderSizesSpec)

/-- 'inlaylaw13.CoderZeros', WHERE WHAT IT READS IS OF BULK AT MOST 1048576: true; the input reads as it did. -/
def coderZerosUptoRow : OpenClaim := { program := "ytdlnmlepljepjaa", sum := "595b512578f42191e9dad3cdfce7262c3499e87a794ccf7970b399fcff2ac523", func := "inlay/inlaylaw13.CoderZeros", spec := "coderZeros", unfollowed := true, recurses := true, apart := false, narrowed := true }
def CoderZerosUptoSaid : Prop := coderZerosUptoRow.holds Try.pinned (OpenSpec.upto coderZerosSpec)

/-- 'inlaylaw13.CoderTables', WHERE WHAT IT READS IS OF BULK AT MOST 1048576: true; the input reads as it did. -/
def coderTablesUptoRow : OpenClaim := { program := "ytdlnmlepljepjaa", sum := "595b512578f42191e9dad3cdfce7262c3499e87a794ccf7970b399fcff2ac523", func := "inlay/inlaylaw13.CoderTables", spec := "coderTables", unfollowed := true, recurses := true, apart := false, narrowed := true }
def CoderTablesUptoSaid : Prop := coderTablesUptoRow.holds Try.pinned (OpenSpec.upto coderTablesSpec)

/-- 'inlaylaw14.PackMatchesReference', WHERE WHAT IT READS IS OF BULK AT MOST 1048576: true; the input reads as it did. -/
def packMatchesReferenceUptoRow : OpenClaim := { program := "ytdlnmlepljepjaa", sum := "595b512578f42191e9dad3cdfce7262c3499e87a794ccf7970b399fcff2ac523", func := "inlay/inlaylaw14.PackMatchesReference", spec := "packMatchesReference", unfollowed := true, recurses := true, apart := false, narrowed := true }
def PackMatchesReferenceUptoSaid : Prop := packMatchesReferenceUptoRow.holds Try.pinned (OpenSpec.upto packMatchesReferenceSpec)

/-- 'inlaylaw14.PackOnly', WHERE WHAT IT READS IS OF BULK AT MOST 1048576: true; the input reads as it did. -/
def packOnlyUptoRow : OpenClaim := { program := "ytdlnmlepljepjaa", sum := "595b512578f42191e9dad3cdfce7262c3499e87a794ccf7970b399fcff2ac523", func := "inlay/inlaylaw14.PackOnly", spec := "packOnly", unfollowed := true, recurses := true, apart := false, narrowed := true }
def PackOnlyUptoSaid : Prop := packOnlyUptoRow.holds Try.pinned (OpenSpec.upto packOnlySpec)

/-- 'inlaylaw14.PackDamage', WHERE WHAT IT READS IS OF BULK AT MOST 1048576: true; the input reads as it did. -/
def packDamageUptoRow : OpenClaim := { program := "ytdlnmlepljepjaa", sum := "595b512578f42191e9dad3cdfce7262c3499e87a794ccf7970b399fcff2ac523", func := "inlay/inlaylaw14.PackDamage", spec := "packDamage", unfollowed := true, recurses := true, apart := false, narrowed := true }
def PackDamageUptoSaid : Prop := packDamageUptoRow.holds Try.pinned (OpenSpec.upto packDamageSpec)

/-- 'inlaylaw14.PackLengths', WHERE WHAT IT READS IS OF BULK AT MOST 1048576: true; the input reads as it did. -/
def packLengthsUptoRow : OpenClaim := { program := "ytdlnmlepljepjaa", sum := "595b512578f42191e9dad3cdfce7262c3499e87a794ccf7970b399fcff2ac523", func := "inlay/inlaylaw14.PackLengths", spec := "packLengths", unfollowed := true, recurses := true, apart := false, narrowed := true }
def PackLengthsUptoSaid : Prop := packLengthsUptoRow.holds Try.pinned (OpenSpec.upto packLengthsSpec)

end Rows
end Go.Proofs.Ytdlnmlepljepjaa
