/-
  No cell of these rows narrows 'for every input' (looked for: loops, veiled, ifaces, maps, wideKeys, modest, calm, conditions, laid).
  DERIVED. THE GIVEN ROWS OF THIS SEAT. 8 by the template 'for every input the law returns true; each argument reads behind the call as it read before'; 0 by the template 'total and deterministic' (their statements: YtgffokpiklnpmaaTotals.lean).
  GIVEN WITH THE SEED: the statements are not yours to turn. If you find one false, say at which input.
  Laid BY PROGRAM, IN A SANDBOX (cutbox-rows.mjs): the forced cells as the released guide's own fill.sh prints them over the translation e4e790dd984408b1… (all of the seat's roots in one cut). By AI agents, Wed Nov 11 2026. No macro, syntax, notation, axiom, sorry.
-/
import Derived.Test.YtgffokpiklnpmaaChecked
import GoSem.Claim
import GoSem.ClaimJoined
import GoSem.ClaimMapViews
import Derived.JoinedTies
import Derived.KernelRfl
namespace Go.Proofs.Ytgffokpiklnpmaa
/- THE CELL 'sum', in the pinned program and in every row, IS THE sha256 OF THE DUMP (.gsa) THAT YtgffokpiklnpmaaProg.lean LOADS. Nothing in Lean hashes anything: it is a label: what it is worth is what the hold of that sum in a sandbox is worth. -/
noncomputable def Try.pinned : Pinned := { name := "ytgffokpiklnpmaa", sum := "e4e790dd984408b1759a6e955737794e962303f9d53f27638956f46e999aaf5c", checked := Try.checked }
namespace Rows
def none {H : Type} : Left H := { results := [], args := [] }

/-- 'inlaylaw05.BlockMatchesReference': WHATEVER THE INPUT: true; the input reads as it did. -/
def blockMatchesReferenceSpec : ChangeSpec := { name := "blockMatchesReference", fn := fun _ => fun
  | [d1, d2, d3] => { results := [.lit (.bool true)], args := [d1, d2, d3] }
  | _ => none }
def blockMatchesReferenceRow : OpenClaim := { program := "ytgffokpiklnpmaa", sum := "e4e790dd984408b1759a6e955737794e962303f9d53f27638956f46e999aaf5c", func := "inlay/inlaylaw05.BlockMatchesReference", spec := "blockMatchesReference", unfollowed := true, recurses := true, apart := false }
def BlockMatchesReferenceSaid : Prop := blockMatchesReferenceRow.holds Try.pinned (OpenSpec.ofChange blockMatchesReferenceSpec)

/-- ITS FALSE NEIGHBOUR: 'it returns false'. Refute it at one input. -/
def blockMatchesReferenceWrong : ChangeSpec := { name := "blockMatchesReference", fn := fun _ => fun
  | [d1, d2, d3] => { results := [.lit (.bool false)], args := [d1, d2, d3] }
  | _ => none }
def BlockMatchesReferenceWrongFalsely : Prop := blockMatchesReferenceRow.holds Try.pinned (OpenSpec.ofChange blockMatchesReferenceWrong)

/-- 'inlaylaw05.BlockCovers': WHATEVER THE INPUT: true; the input reads as it did. -/
def blockCoversSpec : ChangeSpec := { name := "blockCovers", fn := fun _ => fun
  | [d1, d2] => { results := [.lit (.bool true)], args := [d1, d2] }
  | _ => none }
def blockCoversRow : OpenClaim := { program := "ytgffokpiklnpmaa", sum := "e4e790dd984408b1759a6e955737794e962303f9d53f27638956f46e999aaf5c", func := "inlay/inlaylaw05.BlockCovers", spec := "blockCovers", unfollowed := true, recurses := true, apart := false }
def BlockCoversSaid : Prop := blockCoversRow.holds Try.pinned (OpenSpec.ofChange blockCoversSpec)

/-- ITS FALSE NEIGHBOUR: 'it returns false'. Refute it at one input. -/
def blockCoversWrong : ChangeSpec := { name := "blockCovers", fn := fun _ => fun
  | [d1, d2] => { results := [.lit (.bool false)], args := [d1, d2] }
  | _ => none }
def BlockCoversWrongFalsely : Prop := blockCoversRow.holds Try.pinned (OpenSpec.ofChange blockCoversWrong)

/-- 'inlaylaw05.BlockRest': WHATEVER THE INPUT: true; the input reads as it did. -/
def blockRestSpec : ChangeSpec := { name := "blockRest", fn := fun _ => fun
  | [d1, d2] => { results := [.lit (.bool true)], args := [d1, d2] }
  | _ => none }
def blockRestRow : OpenClaim := { program := "ytgffokpiklnpmaa", sum := "e4e790dd984408b1759a6e955737794e962303f9d53f27638956f46e999aaf5c", func := "inlay/inlaylaw05.BlockRest", spec := "blockRest", unfollowed := true, recurses := true, apart := false }
def BlockRestSaid : Prop := blockRestRow.holds Try.pinned (OpenSpec.ofChange blockRestSpec)

/-- ITS FALSE NEIGHBOUR: 'it returns false'. Refute it at one input. -/
def blockRestWrong : ChangeSpec := { name := "blockRest", fn := fun _ => fun
  | [d1, d2] => { results := [.lit (.bool false)], args := [d1, d2] }
  | _ => none }
def BlockRestWrongFalsely : Prop := blockRestRow.holds Try.pinned (OpenSpec.ofChange blockRestWrong)

/-- 'inlaylaw05.BlockBeginnings': WHATEVER THE INPUT: true; the input reads as it did. -/
def blockBeginningsSpec : ChangeSpec := { name := "blockBeginnings", fn := fun _ => fun
  | [d1, d2, d3] => { results := [.lit (.bool true)], args := [d1, d2, d3] }
  | _ => none }
def blockBeginningsRow : OpenClaim := { program := "ytgffokpiklnpmaa", sum := "e4e790dd984408b1759a6e955737794e962303f9d53f27638956f46e999aaf5c", func := "inlay/inlaylaw05.BlockBeginnings", spec := "blockBeginnings", unfollowed := true, recurses := true, apart := false }
def BlockBeginningsSaid : Prop := blockBeginningsRow.holds Try.pinned (OpenSpec.ofChange blockBeginningsSpec)

/-- ITS FALSE NEIGHBOUR: 'it returns false'. Refute it at one input. -/
def blockBeginningsWrong : ChangeSpec := { name := "blockBeginnings", fn := fun _ => fun
  | [d1, d2, d3] => { results := [.lit (.bool false)], args := [d1, d2, d3] }
  | _ => none }
def BlockBeginningsWrongFalsely : Prop := blockBeginningsRow.holds Try.pinned (OpenSpec.ofChange blockBeginningsWrong)

/-- 'inlaylaw05.BlockMeets': WHATEVER THE INPUT: true; the input reads as it did. -/
def blockMeetsSpec : ChangeSpec := { name := "blockMeets", fn := fun _ => fun
  | [d1, d2, d3] => { results := [.lit (.bool true)], args := [d1, d2, d3] }
  | _ => none }
def blockMeetsRow : OpenClaim := { program := "ytgffokpiklnpmaa", sum := "e4e790dd984408b1759a6e955737794e962303f9d53f27638956f46e999aaf5c", func := "inlay/inlaylaw05.BlockMeets", spec := "blockMeets", unfollowed := true, recurses := true, apart := false }
def BlockMeetsSaid : Prop := blockMeetsRow.holds Try.pinned (OpenSpec.ofChange blockMeetsSpec)

/-- ITS FALSE NEIGHBOUR: 'it returns false'. Refute it at one input. -/
def blockMeetsWrong : ChangeSpec := { name := "blockMeets", fn := fun _ => fun
  | [d1, d2, d3] => { results := [.lit (.bool false)], args := [d1, d2, d3] }
  | _ => none }
def BlockMeetsWrongFalsely : Prop := blockMeetsRow.holds Try.pinned (OpenSpec.ofChange blockMeetsWrong)

/-- 'inlaylaw05.BlockPairs': WHATEVER THE INPUT: true; the input reads as it did. -/
def blockPairsSpec : ChangeSpec := { name := "blockPairs", fn := fun _ => fun
  | [d1, d2, d3] => { results := [.lit (.bool true)], args := [d1, d2, d3] }
  | _ => none }
def blockPairsRow : OpenClaim := { program := "ytgffokpiklnpmaa", sum := "e4e790dd984408b1759a6e955737794e962303f9d53f27638956f46e999aaf5c", func := "inlay/inlaylaw05.BlockPairs", spec := "blockPairs", unfollowed := true, recurses := true, apart := false }
def BlockPairsSaid : Prop := blockPairsRow.holds Try.pinned (OpenSpec.ofChange blockPairsSpec)

/-- ITS FALSE NEIGHBOUR: 'it returns false'. Refute it at one input. -/
def blockPairsWrong : ChangeSpec := { name := "blockPairs", fn := fun _ => fun
  | [d1, d2, d3] => { results := [.lit (.bool false)], args := [d1, d2, d3] }
  | _ => none }
def BlockPairsWrongFalsely : Prop := blockPairsRow.holds Try.pinned (OpenSpec.ofChange blockPairsWrong)

/-- 'inlaylaw05.BlockRuns': WHATEVER THE INPUT: true; the input reads as it did. -/
def blockRunsSpec : ChangeSpec := { name := "blockRuns", fn := fun _ => fun
  | [d1, d2, d3] => { results := [.lit (.bool true)], args := [d1, d2, d3] }
  | _ => none }
def blockRunsRow : OpenClaim := { program := "ytgffokpiklnpmaa", sum := "e4e790dd984408b1759a6e955737794e962303f9d53f27638956f46e999aaf5c", func := "inlay/inlaylaw05.BlockRuns", spec := "blockRuns", unfollowed := true, recurses := true, apart := false }
def BlockRunsSaid : Prop := blockRunsRow.holds Try.pinned (OpenSpec.ofChange blockRunsSpec)

/-- ITS FALSE NEIGHBOUR: 'it returns false'. Refute it at one input. -/
def blockRunsWrong : ChangeSpec := { name := "blockRuns", fn := fun _ => fun
  | [d1, d2, d3] => { results := [.lit (.bool false)], args := [d1, d2, d3] }
  | _ => none }
def BlockRunsWrongFalsely : Prop := blockRunsRow.holds Try.pinned (OpenSpec.ofChange blockRunsWrong)

/-- 'inlaylaw05.BlockRefuses': WHATEVER THE INPUT: true; the input reads as it did. -/
def blockRefusesSpec : ChangeSpec := { name := "blockRefuses", fn := fun _ => fun
  | [d1, d2] => { results := [.lit (.bool true)], args := [d1, d2] }
  | _ => none }
def blockRefusesRow : OpenClaim := { program := "ytgffokpiklnpmaa", sum := "e4e790dd984408b1759a6e955737794e962303f9d53f27638956f46e999aaf5c", func := "inlay/inlaylaw05.BlockRefuses", spec := "blockRefuses", unfollowed := true, recurses := true, apart := false }
def BlockRefusesSaid : Prop := blockRefusesRow.holds Try.pinned (OpenSpec.ofChange blockRefusesSpec)

/-- ITS FALSE NEIGHBOUR: 'it returns false'. Refute it at one input. -/
def blockRefusesWrong : ChangeSpec := { name := "blockRefuses", fn := fun _ => fun
  | [d1, d2] => { results := [.lit (.bool false)], args := [d1, d2] }
  | _ => none }
def BlockRefusesWrongFalsely : Prop := blockRefusesRow.holds Try.pinned (OpenSpec.ofChange blockRefusesWrong)

/- THE SECOND FORM. 'bulk': how many values and letters a reading holds, each counted each time it is reached (what is shared counts as often as it is met; a slice's spare places count too). A statement '..UptoSaid' is the law's where the arguments, and the package variables that the reading takes, are together of bulk at most 1048576: NARROWER than '..Said'. Prove '..Said' where nothing that the law and all that it calls make is longer than what came in: it says more and counts as full. Else prove '..UptoSaid'. A law counts once. -/
mutual
def uptoBulk {H : Type} : DataW H → Nat
  | .lit (.string bytes) => bytes.length + 1
  | .lit _ => 1
  | .nil => 1
  | .ptr d => uptoBulk d + 1
  | .slice elems spare => uptoBulkAll elems + uptoBulkAll spare + 1
  | .agg parts => uptoBulkAll parts + 1
  | .iface _ d => uptoBulk d + 1
  | .map entries => uptoBulkEntries entries + 1
  | .held _ => 1
def uptoBulkAll {H : Type} : List (DataW H) → Nat
  | [] => 0
  | d :: r => uptoBulk d + uptoBulkAll r
def uptoBulkEntries {H : Type} : List (Lit × DataW H) → Nat
  | [] => 0
  | x :: r => uptoBulkEntry x + uptoBulkEntries r
def uptoBulkEntry {H : Type} : Lit × DataW H → Nat
  | (.string bytes, d) => bytes.length + uptoBulk d + 1
  | (_, d) => uptoBulk d + 1
 end
def uptoSmall : (H : Type) → List (DataW H) → Bool := fun _ ds => decide (uptoBulkAll ds ≤ 1048576)
def OpenSpec.upto (s : _root_.Go.ChangeSpec) : _root_.Go.OpenSpec := { _root_.Go.OpenSpec.ofChange s with cond := some uptoSmall }

/-- 'inlaylaw05.BlockMatchesReference', WHERE WHAT IT READS IS OF BULK AT MOST 1048576: true; the input reads as it did. -/
def blockMatchesReferenceUptoRow : OpenClaim := { program := "ytgffokpiklnpmaa", sum := "e4e790dd984408b1759a6e955737794e962303f9d53f27638956f46e999aaf5c", func := "inlay/inlaylaw05.BlockMatchesReference", spec := "blockMatchesReference", unfollowed := true, recurses := true, apart := false, narrowed := true }
def BlockMatchesReferenceUptoSaid : Prop := blockMatchesReferenceUptoRow.holds Try.pinned (OpenSpec.upto blockMatchesReferenceSpec)

/-- 'inlaylaw05.BlockCovers', WHERE WHAT IT READS IS OF BULK AT MOST 1048576: true; the input reads as it did. -/
def blockCoversUptoRow : OpenClaim := { program := "ytgffokpiklnpmaa", sum := "e4e790dd984408b1759a6e955737794e962303f9d53f27638956f46e999aaf5c", func := "inlay/inlaylaw05.BlockCovers", spec := "blockCovers", unfollowed := true, recurses := true, apart := false, narrowed := true }
def BlockCoversUptoSaid : Prop := blockCoversUptoRow.holds Try.pinned (OpenSpec.upto blockCoversSpec)

/-- 'inlaylaw05.BlockRest', WHERE WHAT IT READS IS OF BULK AT MOST 1048576: true; the input reads as it did. -/
def blockRestUptoRow : OpenClaim := { program := "ytgffokpiklnpmaa", sum := "e4e790dd984408b1759a6e955737794e962303f9d53f27638956f46e999aaf5c", func := "inlay/inlaylaw05.BlockRest", spec := "blockRest", unfollowed := true, recurses := true, apart := false, narrowed := true }
def BlockRestUptoSaid : Prop := blockRestUptoRow.holds Try.pinned (OpenSpec.upto blockRestSpec)

/-- 'inlaylaw05.BlockBeginnings', WHERE WHAT IT READS IS OF BULK AT MOST 1048576: true; the input reads as it did. -/
def blockBeginningsUptoRow : OpenClaim := { program := "ytgffokpiklnpmaa", sum := "e4e790dd984408b1759a6e955737794e962303f9d53f27638956f46e999aaf5c", func := "inlay/inlaylaw05.BlockBeginnings", spec := "blockBeginnings", unfollowed := true, recurses := true, apart := false, narrowed := true }
def BlockBeginningsUptoSaid : Prop := blockBeginningsUptoRow.holds Try.pinned (OpenSpec.upto blockBeginningsSpec)

/-- 'inlaylaw05.BlockMeets', WHERE WHAT IT READS IS OF BULK AT MOST 1048576: true; the input reads as it did. -/
def blockMeetsUptoRow : OpenClaim := { program := "ytgffokpiklnpmaa", sum := "e4e790dd984408b1759a6e955737794e962303f9d53f27638956f46e999aaf5c", func := "inlay/inlaylaw05.BlockMeets", spec := "blockMeets", unfollowed := true, recurses := true, apart := false, narrowed := true }
def BlockMeetsUptoSaid : Prop := blockMeetsUptoRow.holds Try.pinned (OpenSpec.upto blockMeetsSpec)

/-- 'inlaylaw05.BlockPairs', WHERE WHAT IT READS IS OF BULK AT MOST 1048576: true; the input reads as it did. -/
def blockPairsUptoRow : OpenClaim := { program := "ytgffokpiklnpmaa", sum := "e4e790dd984408b1759a6e955737794e962303f9d53f27638956f46e999aaf5c", func := "inlay/inlaylaw05.BlockPairs", spec := "blockPairs", unfollowed := true, recurses := true, apart := false, narrowed := true }
def BlockPairsUptoSaid : Prop := blockPairsUptoRow.holds Try.pinned (OpenSpec.upto blockPairsSpec)

/-- 'inlaylaw05.BlockRuns', WHERE WHAT IT READS IS OF BULK AT MOST 1048576: true; the input reads as it did. -/
def blockRunsUptoRow : OpenClaim := { program := "ytgffokpiklnpmaa", sum := "e4e790dd984408b1759a6e955737794e962303f9d53f27638956f46e999aaf5c", func := "inlay/inlaylaw05.BlockRuns", spec := "blockRuns", unfollowed := true, recurses := true, apart := false, narrowed := true }
def BlockRunsUptoSaid : Prop := blockRunsUptoRow.holds Try.pinned (OpenSpec.upto blockRunsSpec)

/-- 'inlaylaw05.BlockRefuses', WHERE WHAT IT READS IS OF BULK AT MOST 1048576: true; the input reads as it did. -/
def blockRefusesUptoRow : OpenClaim := { program := "ytgffokpiklnpmaa", sum := "e4e790dd984408b1759a6e955737794e962303f9d53f27638956f46e999aaf5c", func := "inlay/inlaylaw05.BlockRefuses", spec := "blockRefuses", unfollowed := true, recurses := true, apart := false, narrowed := true }
def BlockRefusesUptoSaid : Prop := blockRefusesUptoRow.holds Try.pinned (OpenSpec.upto blockRefusesSpec)

end Rows
end Go.Proofs.Ytgffokpiklnpmaa
