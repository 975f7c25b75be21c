/-
  No cell of these rows narrows 'for every input' (looked for: loops, veiled, ifaces, maps, wideKeys, modest, calm, conditions, laid).
  DERIVED. THE GIVEN ROWS OF THIS SEAT. 7 by the template 'for every input the law returns true; each argument reads behind the call as it read before'; 0 by the template 'total and deterministic' (their statements: YthcjddhlindopaaTotals.lean).
  GIVEN WITH THE SEED: the statements are not yours to turn. If you find one false, say at which input.
  Laid BY PROGRAM, IN A SANDBOX (cutbox-rows.mjs): the forced cells as the released guide's own fill.sh prints them over the translation 7734dd5b1e440654… (all of the seat's roots in one cut). By AI agents, Wed Nov 11 2026. No macro, syntax, notation, axiom, sorry.
-/
import Derived.Test.YthcjddhlindopaaChecked
import GoSem.Claim
import GoSem.ClaimJoined
import GoSem.ClaimMapViews
import Derived.JoinedTies
import Derived.KernelRfl
namespace Go.Proofs.Ythcjddhlindopaa
/- THE CELL 'sum', in the pinned program and in every row, IS THE sha256 OF THE DUMP (.gsa) THAT YthcjddhlindopaaProg.lean LOADS. Nothing in Lean hashes anything: it is a label: what it is worth is what the hold of that sum in a sandbox is worth. -/
noncomputable def Try.pinned : Pinned := { name := "ythcjddhlindopaa", sum := "7734dd5b1e44065495275b5e1e051dad16cfc2fddfb566c147a9482d7121f362", checked := Try.checked }
namespace Rows
def none {H : Type} : Left H := { results := [], args := [] }

/-- 'inlaylaw01.ImageMatchesReference': WHATEVER THE INPUT: true; the input reads as it did. -/
def imageMatchesReferenceSpec : ChangeSpec := { name := "imageMatchesReference", fn := fun _ => fun
  | [d1, d2, d3] => { results := [.lit (.bool true)], args := [d1, d2, d3] }
  | _ => none }
def imageMatchesReferenceRow : OpenClaim := { program := "ythcjddhlindopaa", sum := "7734dd5b1e44065495275b5e1e051dad16cfc2fddfb566c147a9482d7121f362", func := "inlay/inlaylaw01.ImageMatchesReference", spec := "imageMatchesReference", unfollowed := true, recurses := true, apart := false }
def ImageMatchesReferenceSaid : Prop := imageMatchesReferenceRow.holds Try.pinned (OpenSpec.ofChange imageMatchesReferenceSpec)

/-- ITS FALSE NEIGHBOUR: 'it returns false'. Refute it at one input. -/
def imageMatchesReferenceWrong : ChangeSpec := { name := "imageMatchesReference", fn := fun _ => fun
  | [d1, d2, d3] => { results := [.lit (.bool false)], args := [d1, d2, d3] }
  | _ => none }
def ImageMatchesReferenceWrongFalsely : Prop := imageMatchesReferenceRow.holds Try.pinned (OpenSpec.ofChange imageMatchesReferenceWrong)

/-- 'inlaylaw01.ImageValid': WHATEVER THE INPUT: true; the input reads as it did. -/
def imageValidSpec : ChangeSpec := { name := "imageValid", fn := fun _ => fun
  | [d1, d2, d3] => { results := [.lit (.bool true)], args := [d1, d2, d3] }
  | _ => none }
def imageValidRow : OpenClaim := { program := "ythcjddhlindopaa", sum := "7734dd5b1e44065495275b5e1e051dad16cfc2fddfb566c147a9482d7121f362", func := "inlay/inlaylaw01.ImageValid", spec := "imageValid", unfollowed := true, recurses := true, apart := false }
def ImageValidSaid : Prop := imageValidRow.holds Try.pinned (OpenSpec.ofChange imageValidSpec)

/-- ITS FALSE NEIGHBOUR: 'it returns false'. Refute it at one input. -/
def imageValidWrong : ChangeSpec := { name := "imageValid", fn := fun _ => fun
  | [d1, d2, d3] => { results := [.lit (.bool false)], args := [d1, d2, d3] }
  | _ => none }
def ImageValidWrongFalsely : Prop := imageValidRow.holds Try.pinned (OpenSpec.ofChange imageValidWrong)

/-- 'inlaylaw01.ImageTexts': WHATEVER THE INPUT: true; the input reads as it did. -/
def imageTextsSpec : ChangeSpec := { name := "imageTexts", fn := fun _ => fun
  | [d1, d2, d3] => { results := [.lit (.bool true)], args := [d1, d2, d3] }
  | _ => none }
def imageTextsRow : OpenClaim := { program := "ythcjddhlindopaa", sum := "7734dd5b1e44065495275b5e1e051dad16cfc2fddfb566c147a9482d7121f362", func := "inlay/inlaylaw01.ImageTexts", spec := "imageTexts", unfollowed := true, recurses := true, apart := false }
def ImageTextsSaid : Prop := imageTextsRow.holds Try.pinned (OpenSpec.ofChange imageTextsSpec)

/-- ITS FALSE NEIGHBOUR: 'it returns false'. Refute it at one input. -/
def imageTextsWrong : ChangeSpec := { name := "imageTexts", fn := fun _ => fun
  | [d1, d2, d3] => { results := [.lit (.bool false)], args := [d1, d2, d3] }
  | _ => none }
def ImageTextsWrongFalsely : Prop := imageTextsRow.holds Try.pinned (OpenSpec.ofChange imageTextsWrong)

/-- 'inlaylaw01.ImageFinds': WHATEVER THE INPUT: true; the input reads as it did. -/
def imageFindsSpec : ChangeSpec := { name := "imageFinds", fn := fun _ => fun
  | [d] => { results := [.lit (.bool true)], args := [d] }
  | _ => none }
def imageFindsRow : OpenClaim := { program := "ythcjddhlindopaa", sum := "7734dd5b1e44065495275b5e1e051dad16cfc2fddfb566c147a9482d7121f362", func := "inlay/inlaylaw01.ImageFinds", spec := "imageFinds", unfollowed := true, recurses := true, apart := false }
def ImageFindsSaid : Prop := imageFindsRow.holds Try.pinned (OpenSpec.ofChange imageFindsSpec)

/-- ITS FALSE NEIGHBOUR: 'it returns false'. Refute it at one input. -/
def imageFindsWrong : ChangeSpec := { name := "imageFinds", fn := fun _ => fun
  | [d] => { results := [.lit (.bool false)], args := [d] }
  | _ => none }
def ImageFindsWrongFalsely : Prop := imageFindsRow.holds Try.pinned (OpenSpec.ofChange imageFindsWrong)

/-- 'inlaylaw01.ImageChanges': WHATEVER THE INPUT: true; the input reads as it did. -/
def imageChangesSpec : ChangeSpec := { name := "imageChanges", fn := fun _ => fun
  | [d1, d2] => { results := [.lit (.bool true)], args := [d1, d2] }
  | _ => none }
def imageChangesRow : OpenClaim := { program := "ythcjddhlindopaa", sum := "7734dd5b1e44065495275b5e1e051dad16cfc2fddfb566c147a9482d7121f362", func := "inlay/inlaylaw01.ImageChanges", spec := "imageChanges", unfollowed := true, recurses := true, apart := false }
def ImageChangesSaid : Prop := imageChangesRow.holds Try.pinned (OpenSpec.ofChange imageChangesSpec)

/-- ITS FALSE NEIGHBOUR: 'it returns false'. Refute it at one input. -/
def imageChangesWrong : ChangeSpec := { name := "imageChanges", fn := fun _ => fun
  | [d1, d2] => { results := [.lit (.bool false)], args := [d1, d2] }
  | _ => none }
def ImageChangesWrongFalsely : Prop := imageChangesRow.holds Try.pinned (OpenSpec.ofChange imageChangesWrong)

/-- 'inlaylaw01.ImageSpreads': WHATEVER THE INPUT: true; the input reads as it did. -/
def imageSpreadsSpec : ChangeSpec := { name := "imageSpreads", fn := fun _ => fun
  | [d1, d2, d3] => { results := [.lit (.bool true)], args := [d1, d2, d3] }
  | _ => none }
def imageSpreadsRow : OpenClaim := { program := "ythcjddhlindopaa", sum := "7734dd5b1e44065495275b5e1e051dad16cfc2fddfb566c147a9482d7121f362", func := "inlay/inlaylaw01.ImageSpreads", spec := "imageSpreads", unfollowed := true, recurses := true, apart := false }
def ImageSpreadsSaid : Prop := imageSpreadsRow.holds Try.pinned (OpenSpec.ofChange imageSpreadsSpec)

/-- ITS FALSE NEIGHBOUR: 'it returns false'. Refute it at one input. -/
def imageSpreadsWrong : ChangeSpec := { name := "imageSpreads", fn := fun _ => fun
  | [d1, d2, d3] => { results := [.lit (.bool false)], args := [d1, d2, d3] }
  | _ => none }
def ImageSpreadsWrongFalsely : Prop := imageSpreadsRow.holds Try.pinned (OpenSpec.ofChange imageSpreadsWrong)

/-- 'inlaylaw01.ImageHex': WHATEVER THE INPUT: true; the input reads as it did. -/
def imageHexSpec : ChangeSpec := { name := "imageHex", fn := fun _ => fun
  | [d1, d2, d3] => { results := [.lit (.bool true)], args := [d1, d2, d3] }
  | _ => none }
def imageHexRow : OpenClaim := { program := "ythcjddhlindopaa", sum := "7734dd5b1e44065495275b5e1e051dad16cfc2fddfb566c147a9482d7121f362", func := "inlay/inlaylaw01.ImageHex", spec := "imageHex", unfollowed := true, recurses := true, apart := false }
def ImageHexSaid : Prop := imageHexRow.holds Try.pinned (OpenSpec.ofChange imageHexSpec)

/-- ITS FALSE NEIGHBOUR: 'it returns false'. Refute it at one input. -/
def imageHexWrong : ChangeSpec := { name := "imageHex", fn := fun _ => fun
  | [d1, d2, d3] => { results := [.lit (.bool false)], args := [d1, d2, d3] }
  | _ => none }
def ImageHexWrongFalsely : Prop := imageHexRow.holds Try.pinned (OpenSpec.ofChange imageHexWrong)

/- THE SECOND FORM. 'bulk': how many values and letters a reading holds, each counted each time it is reached (what is shared counts as often as it is met; a slice's spare places count too). A statement '..UptoSaid' is the law's where the arguments, and the package variables that the reading takes, are together of bulk at most 1048576: NARROWER than '..Said'. Prove '..Said' where nothing that the law and all that it calls make is longer than what came in: it says more and counts as full. Else prove '..UptoSaid'. A law counts once. -/
mutual
def uptoBulk {H : Type} : DataW H → Nat
  | .lit (.string bytes) => bytes.length + 1
  | .lit _ => 1
  | .nil => 1
  | .ptr d => uptoBulk d + 1
  | .slice elems spare => uptoBulkAll elems + uptoBulkAll spare + 1
  | .agg parts => uptoBulkAll parts + 1
  | .iface _ d => uptoBulk d + 1
  | .map entries => uptoBulkEntries entries + 1
  | .held _ => 1
def uptoBulkAll {H : Type} : List (DataW H) → Nat
  | [] => 0
  | d :: r => uptoBulk d + uptoBulkAll r
def uptoBulkEntries {H : Type} : List (Lit × DataW H) → Nat
  | [] => 0
  | x :: r => uptoBulkEntry x + uptoBulkEntries r
def uptoBulkEntry {H : Type} : Lit × DataW H → Nat
  | (.string bytes, d) => bytes.length + uptoBulk d + 1
  | (_, d) => uptoBulk d + 1
 end
def uptoSmall : (H : Type) → List (DataW H) → Bool := fun _ ds => decide (uptoBulkAll ds ≤ 1048576)
def OpenSpec.upto (s : _root_.Go.ChangeSpec) : _root_.Go.OpenSpec := { _root_.Go.OpenSpec.ofChange s with cond := some uptoSmall }

/-- 'inlaylaw01.ImageMatchesReference', WHERE WHAT IT READS IS OF BULK AT MOST 1048576: true; the input reads as it did. -/
def imageMatchesReferenceUptoRow : OpenClaim := { program := "ythcjddhlindopaa", sum := "7734dd5b1e44065495275b5e1e051dad16cfc2fddfb566c147a9482d7121f362", func := "inlay/inlaylaw01.ImageMatchesReference", spec := "imageMatchesReference", unfollowed := true, recurses := true, apart := false, narrowed := true }
def ImageMatchesReferenceUptoSaid : Prop := imageMatchesReferenceUptoRow.holds Try.pinned (OpenSpec.upto imageMatchesReferenceSpec)

/-- 'inlaylaw01.ImageValid', WHERE WHAT IT READS IS OF BULK AT MOST 1048576: true; the input reads as it did. -/
def imageValidUptoRow : OpenClaim := { program := "ythcjddhlindopaa", sum := "7734dd5b1e44065495275b5e1e051dad16cfc2fddfb566c147a9482d7121f362", func := "inlay/inlaylaw01.ImageValid", spec := "imageValid", unfollowed := true, recurses := true, apart := false, narrowed := true }
def ImageValidUptoSaid : Prop := imageValidUptoRow.holds Try.pinned (OpenSpec.upto imageValidSpec)

/-- 'inlaylaw01.ImageTexts', WHERE WHAT IT READS IS OF BULK AT MOST 1048576: true; the input reads as it did. -/
def imageTextsUptoRow : OpenClaim := { program := "ythcjddhlindopaa", sum := "7734dd5b1e44065495275b5e1e051dad16cfc2fddfb566c147a9482d7121f362", func := "inlay/inlaylaw01.ImageTexts", spec := "imageTexts", unfollowed := true, recurses := true, apart := false, narrowed := true }
def ImageTextsUptoSaid : Prop := imageTextsUptoRow.holds Try.pinned (OpenSpec.upto imageTextsSpec)

/-- 'inlaylaw01.ImageFinds', WHERE WHAT IT READS IS OF BULK AT MOST 1048576: true; the input reads as it did. -/
def imageFindsUptoRow : OpenClaim := { program := "ythcjddhlindopaa", sum := "7734dd5b1e44065495275b5e1e051dad16cfc2fddfb566c147a9482d7121f362", func := "inlay/inlaylaw01.ImageFinds", spec := "imageFinds", unfollowed := true, recurses := true, apart := false, narrowed := true }
def ImageFindsUptoSaid : Prop := imageFindsUptoRow.holds Try.pinned (OpenSpec.upto imageFindsSpec)

/-- 'inlaylaw01.ImageChanges', WHERE WHAT IT READS IS OF BULK AT MOST 1048576: true; the input reads as it did. -/
def imageChangesUptoRow : OpenClaim := { program := "ythcjddhlindopaa", sum := "7734dd5b1e44065495275b5e1e051dad16cfc2fddfb566c147a9482d7121f362", func := "inlay/inlaylaw01.ImageChanges", spec := "imageChanges", unfollowed := true, recurses := true, apart := false, narrowed := true }
def ImageChangesUptoSaid : Prop := imageChangesUptoRow.holds Try.pinned (OpenSpec.upto imageChangesSpec)

/-- 'inlaylaw01.ImageSpreads', WHERE WHAT IT READS IS OF BULK AT MOST 1048576: true; the input reads as it did. -/
def imageSpreadsUptoRow : OpenClaim := { program := "ythcjddhlindopaa", sum := "7734dd5b1e44065495275b5e1e051dad16cfc2fddfb566c147a9482d7121f362", func := "inlay/inlaylaw01.ImageSpreads", spec := "imageSpreads", unfollowed := true, recurses := true, apart := false, narrowed := true }
def ImageSpreadsUptoSaid : Prop := imageSpreadsUptoRow.holds Try.pinned (OpenSpec.upto imageSpreadsSpec)

/-- 'inlaylaw01.ImageHex', WHERE WHAT IT READS IS OF BULK AT MOST 1048576: true; the input reads as it did. -/
def imageHexUptoRow : OpenClaim := { program := "ythcjddhlindopaa", sum := "7734dd5b1e44065495275b5e1e051dad16cfc2fddfb566c147a9482d7121f362", func := "inlay/inlaylaw01.ImageHex", spec := "imageHex", unfollowed := true, recurses := true, apart := false, narrowed := true }
def ImageHexUptoSaid : Prop := imageHexUptoRow.holds Try.pinned (OpenSpec.upto imageHexSpec)

end Rows
end Go.Proofs.Ythcjddhlindopaa
