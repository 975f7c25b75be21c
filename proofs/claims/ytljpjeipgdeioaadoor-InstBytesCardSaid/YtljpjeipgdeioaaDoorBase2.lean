/-
  A part of the proof: what a piece of the program gives; conditions: those of each theorem.
-/
import Derived.Test.YtljpjeipgdeioaaDoorGE
import Derived.Test.YtljpjeipgdeioaaDoorProg
import Derived.KernelRfl
import Derived.IntWalk
set_option linter.unusedVariables false
namespace Go.Proofs.YtljpjeipgdeioaaDoor
open Ax
noncomputable abbrev FF := fnsOf Tryd.prog 3 29
set_option maxRecDepth 100000 in
theorem fns_ok : Ax.fnsOK Tryd.prog 3 29 = true := by decide +kernel
theorem mixed : Tryd.prog.follows .mixedOrders = true := by decide +kernel
theorem cx : Cx Tryd.prog FF := Cx.of_ok fns_ok mixed
def kn (s : List UInt8) (r b : Int) (g t : Bool) : List Value := [bstr s, .int .i64 r, .int .i64 b, .bool g, .bool t]
def kindCells : List Value :=
  [bstr [100, 97, 116, 97], .int .i64 0, .int .i64 32, .bool false, .bool false,
   bstr [97, 100, 100], .int .i64 3, .int .i64 0, .bool false, .bool false,
   bstr [115, 101, 116], .int .i64 1, .int .i64 16, .bool false, .bool false,
   bstr [108, 111, 97, 100], .int .i64 3, .int .i64 0, .bool false, .bool false,
   bstr [115, 116, 111, 114, 101], .int .i64 3, .int .i64 0, .bool false, .bool false,
   bstr [106, 117, 109, 112], .int .i64 0, .int .i64 24, .bool true, .bool true,
   bstr [99, 97, 108, 108], .int .i64 0, .int .i64 24, .bool true, .bool true,
   bstr [98, 114, 97, 110, 99, 104], .int .i64 1, .int .i64 16, .bool true, .bool true,
   bstr [112, 111, 111, 108], .int .i64 1, .int .i64 16, .bool false, .bool true]
def G : T ABlk := .node .nil .nil (some (.cells kindCells 60 2))
def H0 : AHeap := ⟨30, G⟩
theorem G_get {g : Nat} {x : ABlk} (h : G.get g = some x) : g = 0 ∧ x = .cells kindCells 60 2 := by
  unfold G T.get at h
  split at h
  · rename_i e; cases h; exact ⟨e, rfl⟩
  · split at h <;> (simp [T.get] at h)
theorem hG : Glob G := ⟨fun g x h => by rw [(G_get h).1]; decide, fun g x h => by rw [(G_get h).2]; decide⟩
theorem F3 : FF 3 = some Tryd.f3 := by kernel_rfl
theorem F4 : FF 4 = some Tryd.f4 := by kernel_rfl
theorem F5 : FF 5 = some Tryd.f5 := by kernel_rfl
theorem F6 : FF 6 = some Tryd.f6 := by kernel_rfl
theorem F7 : FF 7 = some Tryd.f7 := by kernel_rfl
theorem F8 : FF 8 = some Tryd.f8 := by kernel_rfl
theorem F9 : FF 9 = some Tryd.f9 := by kernel_rfl
theorem F11 : FF 11 = some Tryd.f11 := by kernel_rfl
theorem F12 : FF 12 = some Tryd.f12 := by kernel_rfl
theorem F13 : FF 13 = some Tryd.f13 := by kernel_rfl
theorem F14 : FF 14 = some Tryd.f14 := by kernel_rfl
theorem F15 : FF 15 = some Tryd.f15 := by kernel_rfl
theorem F16 : FF 16 = some Tryd.f16 := by kernel_rfl
theorem F17 : FF 17 = some Tryd.f17 := by kernel_rfl
theorem F18 : FF 18 = some Tryd.f18 := by kernel_rfl
theorem F19 : FF 19 = some Tryd.f19 := by kernel_rfl
theorem F20 : FF 20 = some Tryd.f20 := by kernel_rfl
theorem F22 : FF 22 = some Tryd.f22 := by kernel_rfl
theorem F23 : FF 23 = some Tryd.f23 := by kernel_rfl
theorem F24 : FF 24 = some Tryd.f24 := by kernel_rfl
theorem F25 : FF 25 = some Tryd.f25 := by kernel_rfl
theorem F26 : FF 26 = some Tryd.f26 := by kernel_rfl
theorem F27 : FF 27 = some Tryd.f27 := by kernel_rfl
theorem F28 : FF 28 = some Tryd.f28 := by kernel_rfl
theorem F29 : FF 29 = some Tryd.f29 := by kernel_rfl
theorem iF {f : Nat} {fn : Func} (h : FF f = some fn) : (FF f).isSome = true := by rw [h]; rfl
-- types
theorem ga3 : pureRun Tryd.prog (isAgg 3) = some false := by kernel_rfl
theorem ga4 : pureRun Tryd.prog (isAgg 4) = some false := by kernel_rfl
theorem ga5 : pureRun Tryd.prog (isAgg 5) = some false := by kernel_rfl
theorem ga9 : pureRun Tryd.prog (isAgg 9) = some false := by kernel_rfl
theorem ga22 : pureRun Tryd.prog (isAgg 22) = some false := by kernel_rfl
theorem ga31 : pureRun Tryd.prog (isAgg 31) = some true := by kernel_rfl
theorem ga59 : pureRun Tryd.prog (isAgg 59) = some true := by kernel_rfl
theorem ga61 : pureRun Tryd.prog (isAgg 61) = some true := by kernel_rfl
theorem sz3 : pureRun Tryd.prog (sizeOf 3) = some 1 := by kernel_rfl
theorem sz5 : pureRun Tryd.prog (sizeOf 5) = some 1 := by kernel_rfl
theorem sz22 : pureRun Tryd.prog (sizeOf 22) = some 1 := by kernel_rfl
theorem sz31 : pureRun Tryd.prog (sizeOf 31) = some 5 := by kernel_rfl
theorem sz59 : pureRun Tryd.prog (sizeOf 59) = some 5 := by kernel_rfl
theorem sz61 : pureRun Tryd.prog (sizeOf 61) = some 3 := by kernel_rfl
theorem us31 : unitS Tryd.prog 31 5 = true := by decide +kernel
theorem us59 : unitS Tryd.prog 59 5 = true := by decide +kernel
theorem z31 : pureRun Tryd.prog (zeroValue 31) = some (.agg #[.int .i64 0, .int .i64 0, .int .i64 0, .int .i64 0, .int .i64 0]) := by kernel_rfl
theorem z59 : pureRun Tryd.prog (zeroValue 59) = some (.agg #[bstr [], .int .i64 0, .int .i64 0, .bool false, .bool false]) := by kernel_rfl
theorem z61 : pureRun Tryd.prog (zeroValue 61) = some (.agg #[.int .i64 0, .int .i64 0, .int .i64 0]) := by kernel_rfl
theorem u60 : pureRun Tryd.prog (underlying 60) = some (.array 9 59) := by kernel_rfl
theorem ga24 : pureRun Tryd.prog (isAgg 24) = some true := by kernel_rfl
theorem sz24 : pureRun Tryd.prog (sizeOf 24) = some 4 := by kernel_rfl
theorem u24 : pureRun Tryd.prog (underlying 24) = some (.array 4 5) := by kernel_rfl
theorem u61 : pureRun Tryd.prog (underlying 61) = some (.array 3 3) := by kernel_rfl
theorem u2 : pureRun Tryd.prog (underlying 2) = some (.int .i64) := by kernel_rfl
theorem u3 : pureRun Tryd.prog (underlying 3) = some (.int .i64) := by kernel_rfl
theorem u5 : pureRun Tryd.prog (underlying 5) = some (.int .u8) := by kernel_rfl
theorem u21 : pureRun Tryd.prog (underlying 21) = some (.int .i32) := by kernel_rfl
theorem u22 : pureRun Tryd.prog (underlying 22) = some (.int .u32) := by kernel_rfl
theorem u25 : pureRun Tryd.prog (underlying 25) = some (.int .u16) := by kernel_rfl
theorem u42 : pureRun Tryd.prog (underlying 42) = some (.int .i16) := by kernel_rfl
theorem u56 : pureRun Tryd.prog (underlying 56) = some (.int .u32) := by kernel_rfl
theorem u33 : pureRun Tryd.prog (underlying 33) = some (.int .i64) := by kernel_rfl
theorem u52 : pureRun Tryd.prog (underlying 52) = some (.int .u64) := by kernel_rfl
def inst (a b c d n : Int) : Value := .agg #[.int .i64 a, .int .i64 b, .int .i64 c, .int .i64 d, .int .i64 n]
theorem bld31 (a b c d n : Int) : aBuild Tryd.prog 31 #[(0, .int .i64 a), (1, .int .i64 b), (2, .int .i64 c), (3, .int .i64 d), (4, .int .i64 n)] = some (inst a b c d n) := by kernel_rfl
theorem bld31b (a n : Int) : aBuild Tryd.prog 31 #[(0, .int .i64 a), (4, .int .i64 n)] = some (inst a 0 0 0 n) := by kernel_rfl
theorem u8_wrap {a : Int} : IntKind.u8.wrap a = a % 256 := by rw [IntKind.wrap_u8]
theorem u32_wrap {a : Int} : IntKind.u32.wrap a = a % 4294967296 := by rw [IntKind.wrap_u32]
end Go.Proofs.YtljpjeipgdeioaaDoor
