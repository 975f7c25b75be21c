/-
  A part of the proof: what a piece of the program gives; conditions: those of each theorem.
-/
import Derived.Test.YtljpjeipgdeioaaDoorL6
set_option linter.unusedVariables false
namespace Go.Proofs.YtljpjeipgdeioaaDoor
open Ax
set_option maxHeartbeats 8000000
theorem ga25 : pureRun Tryd.prog (isAgg 25) = some false := by kernel_rfl
theorem ga42 : pureRun Tryd.prog (isAgg 42) = some false := by kernel_rfl
theorem ga39 : pureRun Tryd.prog (isAgg 39) = some true := by kernel_rfl
theorem ga43 : pureRun Tryd.prog (isAgg 43) = some true := by kernel_rfl
theorem sz25 : pureRun Tryd.prog (sizeOf 25) = some 1 := by kernel_rfl
theorem sz42 : pureRun Tryd.prog (sizeOf 42) = some 1 := by kernel_rfl
theorem u39 : pureRun Tryd.prog (underlying 39) = some (.array 2 25) := by kernel_rfl
theorem u43 : pureRun Tryd.prog (underlying 43) = some (.array 2 42) := by kernel_rfl
theorem u29 : pureRun Tryd.prog (underlying 29) = some (.slice 22) := by kernel_rfl
theorem z22 : pureRun Tryd.prog (zeroValue 22) = some (.int .u32 0) := by kernel_rfl
theorem words_fill (w m : Int) : Instr.fill (fun i => some (i * 1, 1)) ((Array.range (2 * 1)).map ((Value.int IntKind.u32 0).cells[· % (Value.int IntKind.u32 0).cells.size]!)) [(0, Value.int IntKind.u32 w), (1, Value.int IntKind.u32 m)] = some #[.int .u32 w, .int .u32 m] := by kernel_rfl
theorem words_lit {w m : Int} {nx : Nat} {t : T ABlk} (hn : nx < maxIds) : aBuildSlice Tryd.prog ⟨nx, t⟩ 29 2 #[(0, .int .u32 w), (1, .int .u32 m)] = some (.slice (some ⟨nx, 0, none⟩) 2 2, ⟨nx + 1, T.set 40 t nx (.cells [.int .u32 w, .int .u32 m] 22 0)⟩) := by
  unfold aBuildSlice
  rw [u29]
  simp only [sz22, z22]
  rw [if_pos (by decide), words_fill w m]
  simp [aNewSlice, hn, AHeap.add, openCap]
end Go.Proofs.YtljpjeipgdeioaaDoor
