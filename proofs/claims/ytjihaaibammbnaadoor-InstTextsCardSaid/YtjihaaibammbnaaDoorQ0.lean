/-
  A part of the proof: what pieces of the program give; conditions: those of each theorem.
-/
import Derived.Test.YtjihaaibammbnaaDoorHD
import Derived.Test.YtjihaaibammbnaaDoorProg
set_option linter.unusedVariables false
set_option linter.unusedSimpArgs false
namespace Go.Proofs.YtjihaaibammbnaaDoor
open Go.Px Go.Ax
def tyL : List (Nat × (Nat × Nat × Bool × TK × Sh × Option IntKind)) := [
  (1, (1, 8, false, .other, .unit, none)),
  (2, (1, 8, false, (.int .i64), (.int .i64), none)),
  (3, (1, 8, false, (.int .i64), (.int .i64), none)),
  (4, (1, 1, false, .bool, .bool, none)),
  (5, (1, 1, false, (.int .u8), (.int .u8), none)),
  (6, (1, 1, false, (.int .u8), (.int .u8), none)),
  (7, (4, 24, true, (.struct [(0, 2), (1, 3), (2, 4), (3, 6)]), (.pair (.int .i64) (.pair (.int .i64) (.pair .bool (.int .u8)))), none)),
  (8, (4, 24, true, (.struct [(0, 2), (1, 3), (2, 4), (3, 6)]), (.pair (.int .i64) (.pair (.int .i64) (.pair .bool (.int .u8)))), none)),
  (9, (1, 16, false, .str, .str, none)),
  (10, (1, 16, false, .str, .str, none)),
  (11, (1, 16, false, .str, .str, none)),
  (12, (1, 8, false, (.int .u64), (.int .u64), none)),
  (13, (2, 24, true, (.struct [(0, 9), (1, 12)]), (.pair .str (.int .u64)), none)),
  (14, (2, 24, true, (.struct [(0, 9), (1, 12)]), (.pair .str (.int .u64)), none)),
  (21, (1, 4, false, (.int .i32), (.int .i32), none)),
  (22, (1, 4, false, (.int .u32), (.int .u32), none)),
  (23, (4, 4, true, (.array 4 5), (.arr 4 (.int .u8)), (some .u8))),
  (24, (4, 4, true, (.array 4 5), (.arr 4 (.int .u8)), (some .u8))),
  (25, (1, 2, false, (.int .u16), (.int .u16), none)),
  (26, (1, 8, false, .other, .unit, none)),
  (27, (1, 8, false, .other, .unit, none)),
  (28, (1, 8, false, .other, .unit, none)),
  (29, (1, 24, false, (.slice 22), (.sl (.int .u32)), none)),
  (30, (5, 40, true, (.struct [(0, 3), (1, 3), (2, 3), (3, 3), (4, 3)]), (.pair (.int .i64) (.pair (.int .i64) (.pair (.int .i64) (.pair (.int .i64) (.int .i64))))), (some .i64))),
  (31, (5, 40, true, (.struct [(0, 3), (1, 3), (2, 3), (3, 3), (4, 3)]), (.pair (.int .i64) (.pair (.int .i64) (.pair (.int .i64) (.pair (.int .i64) (.int .i64))))), (some .i64))),
  (32, (1, 8, false, .other, .unit, none)),
  (33, (1, 8, false, (.int .i64), (.int .i64), none)),
  (35, (1, 8, false, .other, .unit, none)),
  (36, (1, 8, false, .other, .unit, none)),
  (37, (1, 8, false, .other, .unit, none)),
  (38, (1, 8, false, .other, .unit, none)),
  (39, (2, 4, true, (.array 2 25), (.arr 2 (.int .u16)), (some .u16))),
  (40, (1, 8, false, .other, .unit, none)),
  (41, (1, 8, false, .other, .unit, none)),
  (42, (1, 2, false, (.int .i16), (.int .i16), none)),
  (43, (2, 4, true, (.array 2 42), (.arr 2 (.int .i16)), (some .i16))),
  (44, (1, 8, false, .other, .unit, none)),
  (45, (1, 8, false, .other, .unit, none)),
  (46, (1, 24, false, (.slice 5), (.sl (.int .u8)), none)),
  (48, (1, 8, false, .other, .unit, none)),
  (49, (1, 8, false, .other, .unit, none)),
  (50, (1, 8, false, .other, .unit, none)),
  (51, (1, 8, false, .other, .unit, none)),
  (52, (1, 8, false, (.int .u64), (.int .u64), none)),
  (53, (1, 8, false, .other, .unit, none)),
  (54, (1, 8, false, .other, .unit, none)),
  (55, (1, 8, false, .other, .unit, none)),
  (56, (1, 4, false, (.int .u32), (.int .u32), none)),
  (57, (1, 8, false, .other, .unit, none)),
  (58, (5, 40, true, (.struct [(0, 9), (1, 3), (2, 3), (3, 4), (4, 4)]), (.pair .str (.pair (.int .i64) (.pair (.int .i64) (.pair .bool .bool)))), none)),
  (59, (5, 40, true, (.struct [(0, 9), (1, 3), (2, 3), (3, 4), (4, 4)]), (.pair .str (.pair (.int .i64) (.pair (.int .i64) (.pair .bool .bool)))), none)),
  (60, (45, 360, true, (.array 9 59), (.arr 9 (.pair .str (.pair (.int .i64) (.pair (.int .i64) (.pair .bool .bool))))), none)),
  (61, (3, 24, true, (.array 3 3), (.arr 3 (.int .i64)), (some .i64))),
  (62, (1, 8, false, .other, .unit, none)),
  (63, (1, 8, false, .other, .unit, none)),
  (64, (1, 8, false, .other, .unit, none)),
  (65, (1, 8, false, .other, .unit, none)),
  (66, (1, 8, false, .other, .unit, none)),
  (72, (1, 1, false, (.int .u8), (.int .u8), none)),
  (73, (1, 1, false, (.int .u8), (.int .u8), none)),
  (74, (1, 8, false, .other, .unit, none)),
  (76, (1, 4, false, (.int .i32), (.int .i32), none)),
  (77, (1, 4, false, (.int .i32), (.int .i32), none))]
abbrev tt : TT := ttOf tyL
set_option maxRecDepth 100000 in
theorem tyOK : ttB Tryd.prog tyL = true := by decide +kernel
theorem ty : TTOK Tryd.prog tt := ttB_ok tyOK
theorem mixed : Tryd.prog.follows .mixedOrders = true := by decide +kernel
end Go.Proofs.YtjihaaibammbnaaDoor
namespace Go.Proofs.YtjihaaibammbnaaDoor
open Go.Px Go.Ax
def kn (s : List UInt8) (r b : Int) (g t : Bool) : List UInt8 × Int × Int × Bool × Bool := (s, r, b, g, t)
abbrev kindSh : Sh := .pair .str (.pair (.int .i64) (.pair (.int .i64) (.pair .bool .bool)))
def kindsL : List kindSh.D := [kn [100, 97, 116, 97] 0 32 false false, kn [97, 100, 100] 3 0 false false, kn [115, 101, 116] 1 16 false false, kn [108, 111, 97, 100] 3 0 false false, kn [115, 116, 111, 114, 101] 3 0 false false,
  kn [106, 117, 109, 112] 0 24 true true, kn [99, 97, 108, 108] 0 24 true true, kn [98, 114, 97, 110, 99, 104] 1 16 true true, kn [112, 111, 111, 108] 1 16 false true]
def kindCells : List Value := kindsL.flatMap fun k => [bstr k.1, .int .i64 k.2.1, .int .i64 k.2.2.1, .bool k.2.2.2.1, .bool k.2.2.2.2]
def rawG : T ABlk := .node .nil .nil (some (.cells kindCells 60 2))
def G0 : GV := ⟨[(0, ⟨.arr 9 kindSh, kindsL⟩)], rawG, []⟩
set_option maxRecDepth 100000
theorem vc_low (w i : Int) (Q : List SV → List (Nat × LB) → Prop) (R : List Item → PS → Prop) : sy tt G0 [] Tryd.f28.ntmps Tryd.f28.results.toList Q R 1000 [.code (bodyOf Tryd.f28)] (entry [.int .u32, .int .i64] (w, i, ())) =
    ((0 : Int) ≤ IntKind.i64.wrap ((32 : Int) - i) ∧
 (0 : Int) ≤ IntKind.i64.wrap ((32 : Int) - i) ∧
 Q [SV.int IntKind.i64 (IntKind.i64.wrap ((IntKind.u32.wrap (w * (2 : Int) ^ min (IntKind.i64.wrap ((32 : Int) - i)).toNat IntKind.u32.bits)).fdiv ((2 : Int) ^ min (IntKind.i64.wrap ((32 : Int) - i)).toNat IntKind.u32.bits)))] []) := by kernel_rfl
theorem vc_lowS (w i : Int) (Q : List SV → List (Nat × LB) → Prop) (R : List Item → PS → Prop) : sy tt G0 [] Tryd.f29.ntmps Tryd.f29.results.toList Q R 1000 [.code (bodyOf Tryd.f29)] (entry [.int .u32, .int .i64] (w, i, ())) =
    ((0 : Int) ≤ IntKind.i64.wrap ((32 : Int) - i) ∧
 (0 : Int) ≤ IntKind.i64.wrap ((32 : Int) - i) ∧
 Q [SV.int IntKind.i64 (IntKind.i64.wrap ((IntKind.i32.wrap (IntKind.u32.wrap (w * (2 : Int) ^ min (IntKind.i64.wrap ((32 : Int) - i)).toNat IntKind.u32.bits))).fdiv ((2 : Int) ^ min (IntKind.i64.wrap ((32 : Int) - i)).toNat IntKind.i32.bits)))] []) := by kernel_rfl
theorem vc_octet (w i : Int) (Q : List SV → List (Nat × LB) → Prop) (R : List Item → PS → Prop) : sy tt G0 [] Tryd.f23.ntmps Tryd.f23.results.toList Q R 1000 [.code (bodyOf Tryd.f23)] (entry [.int .u32, .int .i64] (w, i, ())) =
    ((0 : Int) ≤ IntKind.i64.wrap ((24 : Int) - IntKind.i64.wrap ((8 : Int) * i)) ∧
 Q [SV.int IntKind.i64 (IntKind.i64.wrap (IntKind.u8.wrap (w.fdiv ((2 : Int) ^ min (IntKind.i64.wrap ((24 : Int) - IntKind.i64.wrap ((8 : Int) * i))).toNat IntKind.u32.bits))))] []) := by kernel_rfl
theorem vc_place (n : Int) (Q : List SV → List (Nat × LB) → Prop) (R : List Item → PS → Prop) : sy tt G0 [] Tryd.f11.ntmps Tryd.f11.results.toList Q R 1000 [.code (bodyOf Tryd.f11)] (entry [.int .u16] (n, ())) =
    ((16385 : Int) ≠ (0 : Int) ∧
 Q [SV.int IntKind.i64 (IntKind.i64.wrap ((4 : Int) * (IntKind.i64.wrap n).tmod (16385 : Int)))] []) := by kernel_rfl
theorem vc_made (x : List Int) (Q : List SV → List (Nat × LB) → Prop) (R : List Item → PS → Prop) : sy tt G0 [] Tryd.f12.ntmps Tryd.f12.results.toList Q R 1000 [.code (bodyOf Tryd.f12)] (entry [.arr 4 (.int .u8)] (x, ())) =
    ((0 : Int) ≤ (0 : Int) ∧
 (0 : Int) < (↑(4 : Nat) : Int) ∧
 Int.toNat (0 : Int) < (4 : Nat) ∧
 (10 : Int) ≠ (0 : Int) ∧
 (0 : Int) ≤ (1 : Int) ∧
 (1 : Int) < (↑(4 : Nat) : Int) ∧
 Int.toNat (1 : Int) < (4 : Nat) ∧
 (0 : Int) ≤ (0 : Int) ∧
 (0 : Int) < (↑(4 : Nat) : Int) ∧
 Int.toNat (0 : Int) < (4 : Nat) ∧
 bc (decide (gt (Sh.int IntKind.u8) x (Int.toNat (0 : Int)) < (200 : Int))) ((16 : Int) ≠ (0 : Int) ∧
 (0 : Int) ≤ (2 : Int) ∧
 (2 : Int) < (↑(4 : Nat) : Int) ∧
 Int.toNat (2 : Int) < (4 : Nat) ∧
 (0 : Int) ≤ (3 : Int) ∧
 (3 : Int) < (↑(4 : Nat) : Int) ∧
 Int.toNat (3 : Int) < (4 : Nat) ∧
 bc (decide (IntKind.u32.wrap (Int.tmod (gt (Sh.int IntKind.u8) x (Int.toNat (0 : Int))) (10 : Int)) = (1 : Int))) (true = true ∧
 true = true ∧
 (17 : Int) ≠ (0 : Int) ∧
 (17 : Int) ≠ (0 : Int) ∧
 (0 : Int) ≤ (24 : Int) ∧
 (0 : Int) ≤ (16 : Int) ∧
 (0 : Int) ≤ (8 : Int) ∧
 Q [SV.int IntKind.u32 (bitI BinOp.or IntKind.u32 (bitI BinOp.or IntKind.u32 (bitI BinOp.or IntKind.u32 (IntKind.u32.wrap (IntKind.u32.wrap (Int.tmod (gt (Sh.int IntKind.u8) x (Int.toNat (0 : Int))) (10 : Int)) * (2 : Int) ^ min (Int.toNat (24 : Int)) IntKind.u32.bits)) (IntKind.u32.wrap ((IntKind.u32.wrap (gt (Sh.int IntKind.u8) x (Int.toNat (1 : Int)))).tmod (16 : Int) * (2 : Int) ^ min (Int.toNat (16 : Int)) IntKind.u32.bits))) (IntKind.u32.wrap ((IntKind.u32.wrap (gt (Sh.int IntKind.u8) x (Int.toNat (2 : Int)))).tmod (17 : Int) * (2 : Int) ^ min (Int.toNat (8 : Int)) IntKind.u32.bits))) ((IntKind.u32.wrap (gt (Sh.int IntKind.u8) x (Int.toNat (3 : Int)))).tmod (17 : Int)))] [((1 : Nat), LB.var [SV.arr (4 : Nat) (Sh.int IntKind.u8) x])]) (bc (bif false then true else decide (IntKind.u32.wrap (Int.tmod (gt (Sh.int IntKind.u8) x (Int.toNat (0 : Int))) (10 : Int)) = (3 : Int))) (true = true ∧
 (17 : Int) ≠ (0 : Int) ∧
 (17 : Int) ≠ (0 : Int) ∧
 (0 : Int) ≤ (24 : Int) ∧
 (0 : Int) ≤ (16 : Int) ∧
 (0 : Int) ≤ (8 : Int) ∧
 Q [SV.int IntKind.u32 (bitI BinOp.or IntKind.u32 (bitI BinOp.or IntKind.u32 (bitI BinOp.or IntKind.u32 (IntKind.u32.wrap (IntKind.u32.wrap (Int.tmod (gt (Sh.int IntKind.u8) x (Int.toNat (0 : Int))) (10 : Int)) * (2 : Int) ^ min (Int.toNat (24 : Int)) IntKind.u32.bits)) (IntKind.u32.wrap ((IntKind.u32.wrap (gt (Sh.int IntKind.u8) x (Int.toNat (1 : Int)))).tmod (16 : Int) * (2 : Int) ^ min (Int.toNat (16 : Int)) IntKind.u32.bits))) (IntKind.u32.wrap ((IntKind.u32.wrap (gt (Sh.int IntKind.u8) x (Int.toNat (2 : Int)))).tmod (17 : Int) * (2 : Int) ^ min (Int.toNat (8 : Int)) IntKind.u32.bits))) ((IntKind.u32.wrap (gt (Sh.int IntKind.u8) x (Int.toNat (3 : Int)))).tmod (17 : Int)))] [((1 : Nat), LB.var [SV.arr (4 : Nat) (Sh.int IntKind.u8) x])]) (bc (bif false then true else decide (IntKind.u32.wrap (Int.tmod (gt (Sh.int IntKind.u8) x (Int.toNat (0 : Int))) (10 : Int)) = (4 : Int))) ((17 : Int) ≠ (0 : Int) ∧
 (17 : Int) ≠ (0 : Int) ∧
 (0 : Int) ≤ (24 : Int) ∧
 (0 : Int) ≤ (16 : Int) ∧
 (0 : Int) ≤ (8 : Int) ∧
 Q [SV.int IntKind.u32 (bitI BinOp.or IntKind.u32 (bitI BinOp.or IntKind.u32 (bitI BinOp.or IntKind.u32 (IntKind.u32.wrap (IntKind.u32.wrap (Int.tmod (gt (Sh.int IntKind.u8) x (Int.toNat (0 : Int))) (10 : Int)) * (2 : Int) ^ min (Int.toNat (24 : Int)) IntKind.u32.bits)) (IntKind.u32.wrap ((IntKind.u32.wrap (gt (Sh.int IntKind.u8) x (Int.toNat (1 : Int)))).tmod (16 : Int) * (2 : Int) ^ min (Int.toNat (16 : Int)) IntKind.u32.bits))) (IntKind.u32.wrap ((IntKind.u32.wrap (gt (Sh.int IntKind.u8) x (Int.toNat (2 : Int)))).tmod (17 : Int) * (2 : Int) ^ min (Int.toNat (8 : Int)) IntKind.u32.bits))) ((IntKind.u32.wrap (gt (Sh.int IntKind.u8) x (Int.toNat (3 : Int)))).tmod (17 : Int)))] [((1 : Nat), LB.var [SV.arr (4 : Nat) (Sh.int IntKind.u8) x])]) ((0 : Int) ≤ (24 : Int) ∧
 (0 : Int) ≤ (16 : Int) ∧
 (0 : Int) ≤ (8 : Int) ∧
 Q [SV.int IntKind.u32 (bitI BinOp.or IntKind.u32 (bitI BinOp.or IntKind.u32 (bitI BinOp.or IntKind.u32 (IntKind.u32.wrap (IntKind.u32.wrap (Int.tmod (gt (Sh.int IntKind.u8) x (Int.toNat (0 : Int))) (10 : Int)) * (2 : Int) ^ min (Int.toNat (24 : Int)) IntKind.u32.bits)) (IntKind.u32.wrap ((IntKind.u32.wrap (gt (Sh.int IntKind.u8) x (Int.toNat (1 : Int)))).tmod (16 : Int) * (2 : Int) ^ min (Int.toNat (16 : Int)) IntKind.u32.bits))) (IntKind.u32.wrap (IntKind.u32.wrap (gt (Sh.int IntKind.u8) x (Int.toNat (2 : Int))) * (2 : Int) ^ min (Int.toNat (8 : Int)) IntKind.u32.bits))) (IntKind.u32.wrap (gt (Sh.int IntKind.u8) x (Int.toNat (3 : Int)))))] [((1 : Nat), LB.var [SV.arr (4 : Nat) (Sh.int IntKind.u8) x])])))) ((0 : Int) ≤ (2 : Int) ∧
 (2 : Int) < (↑(4 : Nat) : Int) ∧
 Int.toNat (2 : Int) < (4 : Nat) ∧
 (0 : Int) ≤ (3 : Int) ∧
 (3 : Int) < (↑(4 : Nat) : Int) ∧
 Int.toNat (3 : Int) < (4 : Nat) ∧
 bc (decide (IntKind.u32.wrap (Int.tmod (gt (Sh.int IntKind.u8) x (Int.toNat (0 : Int))) (10 : Int)) = (1 : Int))) (true = true ∧
 true = true ∧
 (17 : Int) ≠ (0 : Int) ∧
 (17 : Int) ≠ (0 : Int) ∧
 (0 : Int) ≤ (24 : Int) ∧
 (0 : Int) ≤ (16 : Int) ∧
 (0 : Int) ≤ (8 : Int) ∧
 Q [SV.int IntKind.u32 (bitI BinOp.or IntKind.u32 (bitI BinOp.or IntKind.u32 (bitI BinOp.or IntKind.u32 (IntKind.u32.wrap (IntKind.u32.wrap (Int.tmod (gt (Sh.int IntKind.u8) x (Int.toNat (0 : Int))) (10 : Int)) * (2 : Int) ^ min (Int.toNat (24 : Int)) IntKind.u32.bits)) (IntKind.u32.wrap (IntKind.u32.wrap (gt (Sh.int IntKind.u8) x (Int.toNat (1 : Int))) * (2 : Int) ^ min (Int.toNat (16 : Int)) IntKind.u32.bits))) (IntKind.u32.wrap ((IntKind.u32.wrap (gt (Sh.int IntKind.u8) x (Int.toNat (2 : Int)))).tmod (17 : Int) * (2 : Int) ^ min (Int.toNat (8 : Int)) IntKind.u32.bits))) ((IntKind.u32.wrap (gt (Sh.int IntKind.u8) x (Int.toNat (3 : Int)))).tmod (17 : Int)))] [((1 : Nat), LB.var [SV.arr (4 : Nat) (Sh.int IntKind.u8) x])]) (bc (bif false then true else decide (IntKind.u32.wrap (Int.tmod (gt (Sh.int IntKind.u8) x (Int.toNat (0 : Int))) (10 : Int)) = (3 : Int))) (true = true ∧
 (17 : Int) ≠ (0 : Int) ∧
 (17 : Int) ≠ (0 : Int) ∧
 (0 : Int) ≤ (24 : Int) ∧
 (0 : Int) ≤ (16 : Int) ∧
 (0 : Int) ≤ (8 : Int) ∧
 Q [SV.int IntKind.u32 (bitI BinOp.or IntKind.u32 (bitI BinOp.or IntKind.u32 (bitI BinOp.or IntKind.u32 (IntKind.u32.wrap (IntKind.u32.wrap (Int.tmod (gt (Sh.int IntKind.u8) x (Int.toNat (0 : Int))) (10 : Int)) * (2 : Int) ^ min (Int.toNat (24 : Int)) IntKind.u32.bits)) (IntKind.u32.wrap (IntKind.u32.wrap (gt (Sh.int IntKind.u8) x (Int.toNat (1 : Int))) * (2 : Int) ^ min (Int.toNat (16 : Int)) IntKind.u32.bits))) (IntKind.u32.wrap ((IntKind.u32.wrap (gt (Sh.int IntKind.u8) x (Int.toNat (2 : Int)))).tmod (17 : Int) * (2 : Int) ^ min (Int.toNat (8 : Int)) IntKind.u32.bits))) ((IntKind.u32.wrap (gt (Sh.int IntKind.u8) x (Int.toNat (3 : Int)))).tmod (17 : Int)))] [((1 : Nat), LB.var [SV.arr (4 : Nat) (Sh.int IntKind.u8) x])]) (bc (bif false then true else decide (IntKind.u32.wrap (Int.tmod (gt (Sh.int IntKind.u8) x (Int.toNat (0 : Int))) (10 : Int)) = (4 : Int))) ((17 : Int) ≠ (0 : Int) ∧
 (17 : Int) ≠ (0 : Int) ∧
 (0 : Int) ≤ (24 : Int) ∧
 (0 : Int) ≤ (16 : Int) ∧
 (0 : Int) ≤ (8 : Int) ∧
 Q [SV.int IntKind.u32 (bitI BinOp.or IntKind.u32 (bitI BinOp.or IntKind.u32 (bitI BinOp.or IntKind.u32 (IntKind.u32.wrap (IntKind.u32.wrap (Int.tmod (gt (Sh.int IntKind.u8) x (Int.toNat (0 : Int))) (10 : Int)) * (2 : Int) ^ min (Int.toNat (24 : Int)) IntKind.u32.bits)) (IntKind.u32.wrap (IntKind.u32.wrap (gt (Sh.int IntKind.u8) x (Int.toNat (1 : Int))) * (2 : Int) ^ min (Int.toNat (16 : Int)) IntKind.u32.bits))) (IntKind.u32.wrap ((IntKind.u32.wrap (gt (Sh.int IntKind.u8) x (Int.toNat (2 : Int)))).tmod (17 : Int) * (2 : Int) ^ min (Int.toNat (8 : Int)) IntKind.u32.bits))) ((IntKind.u32.wrap (gt (Sh.int IntKind.u8) x (Int.toNat (3 : Int)))).tmod (17 : Int)))] [((1 : Nat), LB.var [SV.arr (4 : Nat) (Sh.int IntKind.u8) x])]) ((0 : Int) ≤ (24 : Int) ∧
 (0 : Int) ≤ (16 : Int) ∧
 (0 : Int) ≤ (8 : Int) ∧
 Q [SV.int IntKind.u32 (bitI BinOp.or IntKind.u32 (bitI BinOp.or IntKind.u32 (bitI BinOp.or IntKind.u32 (IntKind.u32.wrap (IntKind.u32.wrap (Int.tmod (gt (Sh.int IntKind.u8) x (Int.toNat (0 : Int))) (10 : Int)) * (2 : Int) ^ min (Int.toNat (24 : Int)) IntKind.u32.bits)) (IntKind.u32.wrap (IntKind.u32.wrap (gt (Sh.int IntKind.u8) x (Int.toNat (1 : Int))) * (2 : Int) ^ min (Int.toNat (16 : Int)) IntKind.u32.bits))) (IntKind.u32.wrap (IntKind.u32.wrap (gt (Sh.int IntKind.u8) x (Int.toNat (2 : Int))) * (2 : Int) ^ min (Int.toNat (8 : Int)) IntKind.u32.bits))) (IntKind.u32.wrap (gt (Sh.int IntKind.u8) x (Int.toNat (3 : Int)))))] [((1 : Nat), LB.var [SV.arr (4 : Nat) (Sh.int IntKind.u8) x])]))))) := by kernel_rfl
end Go.Proofs.YtjihaaibammbnaaDoor
namespace Go.Proofs.YtjihaaibammbnaaDoor
open Go.Px Go.Ax
theorem cx0 : CxOK Tryd.prog tt G0 [] := CxOK.nil ty mixed
theorem div_bounds {w p m : Int} (h0 : 0 ≤ w) (h1 : w < m) (hp : 0 < p) : 0 ≤ w / p ∧ w / p < m :=
  ⟨Int.ediv_nonneg h0 (by omega), Int.lt_of_le_of_lt (Int.ediv_le_self _ h0) h1⟩
def octV (w i : Int) : Int := w / 2 ^ (24 - 8 * i).toNat % 256
def preOct (w i : Int) : Prop := (0 ≤ w ∧ w < 4294967296) ∧ 0 ≤ i ∧ i < 4
def ctOctet : Ctr := ⟨[.int .u32, .int .i64], fun x => preOct x.1 x.2.1, fun x => [.int .i64 (octV x.1 x.2.1)], fun _ => []⟩
theorem octet_held : Held Tryd.prog G0 23 ctOctet := by
  refine Held.run cx0 (fn := Tryd.f23) rfl rfl ⟨by decide, by decide⟩ ?_
  rintro ⟨w, i, ⟨⟩⟩ ⟨hw, hi⟩
  simp only at hw hi
  refine (vc_octet w i _ _).mpr ?_
  rw [IntWalk.i64_in (8 * i) (by omega), IntWalk.i64_in (24 - 8 * i) (by omega)]
  have hm : min (24 - 8 * i).toNat IntKind.u32.bits = (24 - 8 * i).toNat := Nat.min_eq_left (by simp only [IntKind.bits]; omega)
  have hp : (0 : Int) < 2 ^ (24 - 8 * i).toNat := Int.pow_pos (by decide)
  rw [hm, Int.fdiv_eq_ediv_of_nonneg _ (by omega), IntKind.wrap_u8, IntWalk.i64_in (w / 2 ^ (24 - 8 * i).toNat % 256) (by omega)]
  exact ⟨by omega, QC.flat rfl rfl rfl⟩
def lowV (w b : Int) : Int := w * 2 ^ (32 - b).toNat % 4294967296 / 2 ^ (32 - b).toNat
def lowSV (w b : Int) : Int := IntKind.i32.wrap (w * 2 ^ (32 - b).toNat % 4294967296) / 2 ^ (32 - b).toNat
def preLow (w b : Int) : Prop := (0 ≤ w ∧ w < 4294967296) ∧ 0 ≤ b ∧ b ≤ 32
def ctLow : Ctr := ⟨[.int .u32, .int .i64], fun x => preLow x.1 x.2.1, fun x => [.int .i64 (lowV x.1 x.2.1)], fun _ => []⟩
def ctLowS : Ctr := ⟨[.int .u32, .int .i64], fun x => preLow x.1 x.2.1, fun x => [.int .i64 (lowSV x.1 x.2.1)], fun _ => []⟩
theorem low_held : Held Tryd.prog G0 28 ctLow := by
  refine Held.run cx0 (fn := Tryd.f28) rfl rfl ⟨by decide, by decide⟩ ?_
  rintro ⟨w, b, ⟨⟩⟩ ⟨hw, hb⟩
  simp only at hw hb
  refine (vc_low w b _ _).mpr ?_
  rw [IntWalk.i64_in (32 - b) (by omega)]
  have hm : min (32 - b).toNat IntKind.u32.bits = (32 - b).toNat := Nat.min_eq_left (by simp only [IntKind.bits]; omega)
  have hp : (0 : Int) < 2 ^ (32 - b).toNat := Int.pow_pos (by decide)
  have hd := div_bounds (w := w * 2 ^ (32 - b).toNat % 4294967296) (m := 4294967296) (by omega) (by omega) hp
  rw [hm, IntKind.wrap_u32, Int.fdiv_eq_ediv_of_nonneg _ (by omega), IntWalk.i64_in _ ⟨by omega, by omega⟩]
  exact ⟨by omega, by omega, QC.flat rfl rfl rfl⟩
theorem lowS_range (x p : Int) (hp : 0 < p) : -2147483648 ≤ IntKind.i32.wrap x / p ∧ IntKind.i32.wrap x / p ≤ 2147483647 := by
  rw [IntKind.wrap_i32]
  generalize hy : (x + 2147483648) % 4294967296 - 2147483648 = y
  have h1 : -2147483648 ≤ y ∧ y ≤ 2147483647 := by omega
  constructor
  · refine (Int.le_ediv_iff_mul_le hp).2 ?_
    have : (2147483648 : Int) * 1 ≤ 2147483648 * p := Int.mul_le_mul_of_nonneg_left (by omega) (by omega)
    omega
  · by_cases h0 : 0 ≤ y
    · exact Int.le_trans (Int.ediv_le_self _ h0) h1.2
    · have := Int.ediv_neg_of_neg_of_pos (a := y) (by omega) hp
      omega
theorem lowS_held : Held Tryd.prog G0 29 ctLowS := by
  refine Held.run cx0 (fn := Tryd.f29) rfl rfl ⟨by decide, by decide⟩ ?_
  rintro ⟨w, b, ⟨⟩⟩ ⟨hw, hb⟩
  simp only at hw hb
  refine (vc_lowS w b _ _).mpr ?_
  rw [IntWalk.i64_in (32 - b) (by omega)]
  have hm : min (32 - b).toNat IntKind.u32.bits = (32 - b).toNat := Nat.min_eq_left (by simp only [IntKind.bits]; omega)
  have hm2 : min (32 - b).toNat IntKind.i32.bits = (32 - b).toNat := Nat.min_eq_left (by simp only [IntKind.bits]; omega)
  have hp : (0 : Int) < 2 ^ (32 - b).toNat := Int.pow_pos (by decide)
  have hd := lowS_range (w * 2 ^ (32 - b).toNat % 4294967296) _ hp
  rw [hm, hm2, IntKind.wrap_u32, Int.fdiv_eq_ediv_of_nonneg _ (by omega), IntWalk.i64_in _ ⟨by omega, by omega⟩]
  exact ⟨by omega, by omega, QC.flat rfl rfl rfl⟩
def C1 : CV := [(29, .inl ctLowS), (28, .inl ctLow), (23, .inl ctOctet)]
theorem cx1 : CxOK Tryd.prog tt G0 C1 := ((cx0.cons octet_held (fn := Tryd.f23) rfl rfl rfl).cons low_held (fn := Tryd.f28) rfl rfl rfl).cons lowS_held (fn := Tryd.f29) rfl rfl rfl
end Go.Proofs.YtjihaaibammbnaaDoor
namespace Go.Proofs.YtjihaaibammbnaaDoor
open Go.Px Go.Ax
set_option maxRecDepth 100000
theorem vc_op (w : Int) (Q : List SV → List (Nat × LB) → Prop) (R : List Item → PS → Prop) : sy tt G0 C1 Tryd.f22.ntmps Tryd.f22.results.toList Q R 1000 [.code (bodyOf Tryd.f22)] (entry [.int .u32] (w, ())) =
    (ctOctet.pre (w, (0 : Int), ()) ∧
 bc (decide ((9 : Int) ≤ octV w (0 : Int))) (Q [SV.int IntKind.i64 (0 : Int)] []) ((0 : Int) ≤ octV w (0 : Int) ∧
 octV w (0 : Int) < (↑(9 : Nat) : Int) ∧
 R (hd Tryd.f22 (0 : Nat)) { env := [((0 : Nat), SV.int IntKind.u32 w), ((2 : Nat), SV.int IntKind.i64 (0 : Int)), ((3 : Nat), SV.int IntKind.i64 (octV w (0 : Int))), ((5 : Nat), SV.int IntKind.u32 w), ((6 : Nat), SV.int IntKind.i64 (octV w (0 : Int))), ((7 : Nat), SV.int IntKind.i64 (octV w (0 : Int))), ((8 : Nat), SV.bool (decide ((9 : Int) ≤ octV w (0 : Int)))), ((9 : Nat), SV.int IntKind.i64 (octV w (0 : Int))), ((10 : Nat), SV.elv (Sh.str.pair ((Sh.int IntKind.i64).pair ((Sh.int IntKind.i64).pair (Sh.bool.pair Sh.bool)))) (gt (Sh.str.pair ((Sh.int IntKind.i64).pair ((Sh.int IntKind.i64).pair (Sh.bool.pair Sh.bool)))) kindsL (octV w (0 : Int)).toNat)), ((11 : Nat), SV.elv (Sh.int IntKind.i64) (gt (Sh.str.pair ((Sh.int IntKind.i64).pair ((Sh.int IntKind.i64).pair (Sh.bool.pair Sh.bool)))) kindsL (octV w (0 : Int)).toNat).snd.fst), ((12 : Nat), SV.int IntKind.i64 (gt (Sh.str.pair ((Sh.int IntKind.i64).pair ((Sh.int IntKind.i64).pair (Sh.bool.pair Sh.bool)))) kindsL (octV w (0 : Int)).toNat).snd.fst), ((13 : Nat), SV.int IntKind.i64 (0 : Int))], blk := [] })) := by kernel_rfl
theorem vc_opL (w o n i : Int) (Q : List SV → List (Nat × LB) → Prop) (R : List Item → PS → Prop) : sy tt G0 C1 Tryd.f22.ntmps Tryd.f22.results.toList Q R 1000 (hd Tryd.f22 0) ⟨[(0, .int .u32 w), (3, .int .i64 o), (12, .int .i64 n), (13, .int .i64 i)], []⟩ =
    (bc (decide (i < n)) (ctOctet.pre (w, IntKind.i64.wrap ((1 : Int) + i), ()) ∧
 bc (decide ((15 : Int) < octV w (IntKind.i64.wrap ((1 : Int) + i)))) (Q [SV.int IntKind.i64 (0 : Int)] []) (R (hd Tryd.f22 (0 : Nat)) { env := [((0 : Nat), SV.int IntKind.u32 w), ((3 : Nat), SV.int IntKind.i64 o), ((4 : Nat), SV.int IntKind.i64 i), ((12 : Nat), SV.int IntKind.i64 n), ((13 : Nat), SV.int IntKind.i64 (IntKind.i64.wrap (i + (1 : Int)))), ((14 : Nat), SV.bool (decide (i < n))), ((15 : Nat), SV.int IntKind.i64 i), ((16 : Nat), SV.int IntKind.u32 w), ((17 : Nat), SV.int IntKind.i64 i), ((18 : Nat), SV.int IntKind.i64 (IntKind.i64.wrap ((1 : Int) + i))), ((19 : Nat), SV.int IntKind.i64 (octV w (IntKind.i64.wrap ((1 : Int) + i)))), ((20 : Nat), SV.bool (decide ((15 : Int) < octV w (IntKind.i64.wrap ((1 : Int) + i))))), ((21 : Nat), SV.int IntKind.i64 (IntKind.i64.wrap (i + (1 : Int))))], blk := [] })) (Q [SV.int IntKind.i64 o] [])) := by kernel_rfl
end Go.Proofs.YtjihaaibammbnaaDoor
namespace Go.Proofs.YtjihaaibammbnaaDoor
open Go.Px Go.Ax
def regs (o : Int) : Int := if o = 1 ∨ o = 3 ∨ o = 4 then 3 else if o = 2 ∨ o = 7 ∨ o = 8 then 1 else 0
/-- Whether a register's octet from i to n - 1 is too large. -/
def badR (w n i : Int) : Bool := decide (i ≤ 0 ∧ 0 < n ∧ 15 < octV w 1) || decide (i ≤ 1 ∧ 1 < n ∧ 15 < octV w 2) || decide (i ≤ 2 ∧ 2 < n ∧ 15 < octV w 3)
def opV (w : Int) : Int := if 9 ≤ octV w 0 then 0 else if badR w (regs (octV w 0)) 0 then 0 else octV w 0
theorem oct_nn (w i : Int) : 0 ≤ octV w i ∧ octV w i < 256 := by unfold octV; omega
theorem nine : ∀ o : Int, 0 ≤ o → o < 9 → o = 0 ∨ o = 1 ∨ o = 2 ∨ o = 3 ∨ o = 4 ∨ o = 5 ∨ o = 6 ∨ o = 7 ∨ o = 8 := by omega
theorem regs_tab (o : Int) (h0 : 0 ≤ o) (h9 : o < 9) : ((gt kindSh kindsL o.toNat).2.1 : Int) = regs o := by
  rcases nine o h0 h9 with rfl | rfl | rfl | rfl | rfl | rfl | rfl | rfl | rfl <;> rfl
theorem regs_le (o : Int) : 0 ≤ regs o ∧ regs o ≤ 3 := by
  unfold regs
  repeat' split
  all_goals omega
def ctOp : Ctr := ⟨[.int .u32], fun x => (fun w : Int => 0 ≤ w ∧ w < 4294967296) x.1, fun x => [.int .i64 (opV x.1)], fun _ => []⟩
theorem op_loop (w o : Int) (hw : 0 ≤ w ∧ w < 4294967296) {n : Int} (hn : 0 ≤ n ∧ n ≤ 3) : ∀ (m : Nat) (i : Int), 0 ≤ i → (n - i).toNat = m →
    Px.Good Tryd.prog tt G0 22 Tryd.f22.ntmps Tryd.f22.results.toList (fun rs _ => rs = [.int .i64 (if badR w n i then 0 else o)]) (hd Tryd.f22 0) ⟨[(0, .int .u32 w), (3, .int .i64 o), (12, .int .i64 n), (13, .int .i64 i)], []⟩ := by
  intro m
  induction m with
  | zero =>
    intro i hi hm
    refine sy_sound cx1 _ _ _ ((vc_opL w o n i _ _).mpr ?_)
    rw [show decide (i < n) = false from decide_eq_false (by omega)]
    show _ = _
    rw [show badR w n i = false by simp only [badR, Bool.or_eq_false_iff, decide_eq_false_iff_not]; omega]
    rfl
  | succ m ih =>
    intro i hi hm
    refine sy_sound cx1 _ _ _ ((vc_opL w o n i _ _).mpr ?_)
    rw [show decide (i < n) = true from decide_eq_true (by omega), bc_t, IntWalk.i64_in (1 + i) (by omega), IntWalk.i64_in (i + 1) (by omega)]
    refine ⟨⟨hw, (by omega : 0 ≤ 1 + i ∧ 1 + i < 4)⟩, bc_of (fun h => ?_) (fun h => ?_)⟩
    · have h' := of_decide_eq_true h
      rw [show badR w n i = true by
        simp only [badR, Bool.or_eq_true, decide_eq_true_eq]
        rcases (by omega : i = 0 ∨ i = 1 ∨ i = 2) with rfl | rfl | rfl
        · have h2 : 15 < octV w 1 := h'
          omega
        · have h2 : 15 < octV w 2 := h'
          omega
        · have h2 : 15 < octV w 3 := h'
          omega]
      rfl
    · have h' := of_decide_eq_false h
      have hb : badR w n i = badR w n (i + 1) := by
        refine Bool.eq_iff_iff.mpr ?_
        simp only [badR, Bool.or_eq_true, decide_eq_true_eq]
        rcases (by omega : i = 0 ∨ i = 1 ∨ i = 2) with rfl | rfl | rfl
        · have h2 : ¬ 15 < octV w 1 := h'
          omega
        · have h2 : ¬ 15 < octV w 2 := h'
          omega
        · have h2 : ¬ 15 < octV w 3 := h'
          omega
      rw [hb]
      exact (ih (i + 1) (by omega) (by omega)).only ⟨rfl, rfl, rfl, rfl, trivial⟩ trivial
theorem op_held : Held Tryd.prog G0 22 ctOp := by
  refine Held.run cx1 (fn := Tryd.f22) rfl rfl ⟨by decide, by decide⟩ ?_
  rintro ⟨w, ⟨⟩⟩ hw
  replace hw : 0 ≤ w ∧ w < 4294967296 := hw
  refine (vc_op w _ _).mpr ?_
  refine ⟨⟨hw, (by decide : (0 : Int) ≤ 0 ∧ (0 : Int) < 4)⟩, bc_of (fun h => ?_) (fun h => ?_)⟩
  · have h' := of_decide_eq_true h
    exact QC.flat (by simp only [ctOp, opV, if_pos h']) rfl rfl
  · have h' := of_decide_eq_false h
    have hb := oct_nn w 0
    refine ⟨hb.1, by show _ < (9 : Int); omega, ?_⟩
    have e := op_loop w (octV w 0) hw (regs_le (octV w 0)) _ 0 (by omega) rfl
    refine (e.post fun rs blk hq => QC.flat (by simp only [ctOp, opV, if_neg h']; exact hq.symm) rfl (by rw [hq]; rfl)).only ⟨rfl, rfl, ?_, rfl, trivial⟩ trivial
    exact congrArg (fun z => some (SV.int .i64 z)) (regs_tab _ hb.1 (by omega))
def C2 : CV := (22, .inl ctOp) :: C1
theorem cx2 : CxOK Tryd.prog tt G0 C2 := cx1.cons op_held (fn := Tryd.f22) rfl rfl rfl
end Go.Proofs.YtjihaaibammbnaaDoor
namespace Go.Proofs.YtjihaaibammbnaaDoor
open Go.Px Go.Ax
set_option maxRecDepth 100000
theorem vc_number (k : kindSh.D) (w : Int) (Q : List SV → List (Nat × LB) → Prop) (R : List Item → PS → Prop) : sy tt G0 C2 Tryd.f24.ntmps Tryd.f24.results.toList Q R 1000 [.code (bodyOf Tryd.f24)] (entry [kindSh, .int .u32] (k, w, ())) =
    (bc k.snd.snd.snd.fst (ctLowS.pre (w, k.snd.snd.fst, ()) ∧
 Q [SV.int IntKind.i64 (lowSV w k.snd.snd.fst)] [((2 : Nat), LB.var [SV.str k.fst, SV.int IntKind.i64 k.snd.fst, SV.int IntKind.i64 k.snd.snd.fst, SV.bool k.snd.snd.snd.fst, SV.bool k.snd.snd.snd.snd])]) (ctLow.pre (w, k.snd.snd.fst, ()) ∧
 Q [SV.int IntKind.i64 (lowV w k.snd.snd.fst)] [((2 : Nat), LB.var [SV.str k.fst, SV.int IntKind.i64 k.snd.fst, SV.int IntKind.i64 k.snd.snd.fst, SV.bool k.snd.snd.snd.fst, SV.bool k.snd.snd.snd.snd])])) := by kernel_rfl
end Go.Proofs.YtjihaaibammbnaaDoor
namespace Go.Proofs.YtjihaaibammbnaaDoor
open Go.Px Go.Ax
def numV (s : Bool) (w b : Int) : Int := if s then lowSV w b else lowV w b
def ctNum : Ctr := ⟨[kindSh, .int .u32], fun x => preLow x.2.1 x.1.2.2.1, fun x => [.int .i64 (numV x.1.2.2.2.1 x.2.1 x.1.2.2.1)], fun _ => []⟩
theorem num_held : Held Tryd.prog G0 24 ctNum := by
  refine Held.run cx2 (fn := Tryd.f24) rfl rfl ⟨by decide, by decide⟩ ?_
  rintro ⟨⟨ks, kr, kb, kg, kt⟩, w, ⟨⟩⟩ hp
  replace hp : preLow w kb := hp
  refine (vc_number _ w _ _).mpr (bc_of (fun h => ?_) (fun h => ?_))
  · exact ⟨hp, QC.flat (by simp only [ctNum, numV]; rw [show kg = true from h]; rfl) rfl rfl⟩
  · exact ⟨hp, QC.flat (by simp only [ctNum, numV]; rw [show kg = false from h]; rfl) rfl rfl⟩
def C3 : CV := (24, .inl ctNum) :: C2
theorem cx3 : CxOK Tryd.prog tt G0 C3 := cx2.cons num_held (fn := Tryd.f24) rfl rfl rfl
end Go.Proofs.YtjihaaibammbnaaDoor
namespace Go.Proofs.YtjihaaibammbnaaDoor
open Go.Px Go.Ax
set_option maxRecDepth 100000
theorem vc_dec (w a : Int) (Q : List SV → List (Nat × LB) → Prop) (R : List Item → PS → Prop) : sy tt G0 C3 Tryd.f13.ntmps Tryd.f13.results.toList Q R 1000 [.code (bodyOf Tryd.f13)] (entry [.int .u32, .int .i64] (w, a, ())) =
    (ctOp.pre (w, ()) ∧
 (0 : Int) ≤ opV w ∧
 opV w < (↑(9 : Nat) : Int) ∧
 R (hd Tryd.f13 (0 : Nat)) { env := [((0 : Nat), SV.int IntKind.u32 w), ((1 : Nat), SV.int IntKind.i64 a), ((4 : Nat), SV.ptr (4 : Nat) (0 : Nat)), ((5 : Nat), SV.int IntKind.u32 w), ((6 : Nat), SV.int IntKind.i64 (opV w)), ((7 : Nat), SV.ptr (7 : Nat) (0 : Nat)), ((8 : Nat), SV.ptr (8 : Nat) (0 : Nat)), ((11 : Nat), SV.int IntKind.u32 w), ((12 : Nat), SV.int IntKind.u32 w), ((13 : Nat), SV.int IntKind.i64 (opV w)), ((14 : Nat), SV.int IntKind.i64 (opV w)), ((15 : Nat), SV.elv (Sh.str.pair ((Sh.int IntKind.i64).pair ((Sh.int IntKind.i64).pair (Sh.bool.pair Sh.bool)))) (gt (Sh.str.pair ((Sh.int IntKind.i64).pair ((Sh.int IntKind.i64).pair (Sh.bool.pair Sh.bool)))) kindsL (opV w).toNat)), ((16 : Nat), SV.agg [SV.str (gt (Sh.str.pair ((Sh.int IntKind.i64).pair ((Sh.int IntKind.i64).pair (Sh.bool.pair Sh.bool)))) kindsL (opV w).toNat).fst, SV.int IntKind.i64 (gt (Sh.str.pair ((Sh.int IntKind.i64).pair ((Sh.int IntKind.i64).pair (Sh.bool.pair Sh.bool)))) kindsL (opV w).toNat).snd.fst, SV.int IntKind.i64 (gt (Sh.str.pair ((Sh.int IntKind.i64).pair ((Sh.int IntKind.i64).pair (Sh.bool.pair Sh.bool)))) kindsL (opV w).toNat).snd.snd.fst, SV.bool (gt (Sh.str.pair ((Sh.int IntKind.i64).pair ((Sh.int IntKind.i64).pair (Sh.bool.pair Sh.bool)))) kindsL (opV w).toNat).snd.snd.snd.fst, SV.bool (gt (Sh.str.pair ((Sh.int IntKind.i64).pair ((Sh.int IntKind.i64).pair (Sh.bool.pair Sh.bool)))) kindsL (opV w).toNat).snd.snd.snd.snd]), ((17 : Nat), SV.ptr (7 : Nat) (1 : Nat)), ((18 : Nat), SV.int IntKind.i64 (gt (Sh.str.pair ((Sh.int IntKind.i64).pair ((Sh.int IntKind.i64).pair (Sh.bool.pair Sh.bool)))) kindsL (opV w).toNat).snd.fst), ((19 : Nat), SV.int IntKind.i64 (0 : Int))], blk := [((4 : Nat), LB.var [SV.int IntKind.i64 ((Sh.int IntKind.i64).pair ((Sh.int IntKind.i64).pair ((Sh.int IntKind.i64).pair ((Sh.int IntKind.i64).pair (Sh.int IntKind.i64))))).dflt.fst, SV.int IntKind.i64 ((Sh.int IntKind.i64).pair ((Sh.int IntKind.i64).pair ((Sh.int IntKind.i64).pair ((Sh.int IntKind.i64).pair (Sh.int IntKind.i64))))).dflt.snd.fst, SV.int IntKind.i64 ((Sh.int IntKind.i64).pair ((Sh.int IntKind.i64).pair ((Sh.int IntKind.i64).pair ((Sh.int IntKind.i64).pair (Sh.int IntKind.i64))))).dflt.snd.snd.fst, SV.int IntKind.i64 ((Sh.int IntKind.i64).pair ((Sh.int IntKind.i64).pair ((Sh.int IntKind.i64).pair ((Sh.int IntKind.i64).pair (Sh.int IntKind.i64))))).dflt.snd.snd.snd.fst, SV.int IntKind.i64 ((Sh.int IntKind.i64).pair ((Sh.int IntKind.i64).pair ((Sh.int IntKind.i64).pair ((Sh.int IntKind.i64).pair (Sh.int IntKind.i64))))).dflt.snd.snd.snd.snd]), ((7 : Nat), LB.var [SV.str (gt (Sh.str.pair ((Sh.int IntKind.i64).pair ((Sh.int IntKind.i64).pair (Sh.bool.pair Sh.bool)))) kindsL (opV w).toNat).fst, SV.int IntKind.i64 (gt (Sh.str.pair ((Sh.int IntKind.i64).pair ((Sh.int IntKind.i64).pair (Sh.bool.pair Sh.bool)))) kindsL (opV w).toNat).snd.fst, SV.int IntKind.i64 (gt (Sh.str.pair ((Sh.int IntKind.i64).pair ((Sh.int IntKind.i64).pair (Sh.bool.pair Sh.bool)))) kindsL (opV w).toNat).snd.snd.fst, SV.bool (gt (Sh.str.pair ((Sh.int IntKind.i64).pair ((Sh.int IntKind.i64).pair (Sh.bool.pair Sh.bool)))) kindsL (opV w).toNat).snd.snd.snd.fst, SV.bool (gt (Sh.str.pair ((Sh.int IntKind.i64).pair ((Sh.int IntKind.i64).pair (Sh.bool.pair Sh.bool)))) kindsL (opV w).toNat).snd.snd.snd.snd]), ((8 : Nat), LB.var [SV.arr (3 : Nat) (Sh.int IntKind.i64) (Sh.arr (3 : Nat) (Sh.int IntKind.i64)).dflt])] }) := by kernel_rfl
theorem vc_decL (w a o n i kr kb : Int) (ks : List UInt8) (kg kt : Bool) (r : List Int) (Q : List SV → List (Nat × LB) → Prop) (R : List Item → PS → Prop) : sy tt G0 C3 Tryd.f13.ntmps Tryd.f13.results.toList Q R 1000 (hd Tryd.f13 0) ⟨[(0, .int .u32 w), (1, .int .i64 a), (4, .ptr 4 0), (5, .int .u32 w), (6, .int .i64 o), (7, .ptr 7 0), (8, .ptr 8 0), (18, .int .i64 n), (19, .int .i64 i)], [(4, .var [.int .i64 0, .int .i64 0, .int .i64 0, .int .i64 0, .int .i64 0]), (7, .var [.str ks, .int .i64 kr, .int .i64 kb, .bool kg, .bool kt]), (8, .var [.arr 3 (.int .i64) r])]⟩ =
    (bc (decide (i < n)) (ctOctet.pre (w, IntKind.i64.wrap ((1 : Int) + i), ()) ∧
 (0 : Int) ≤ i ∧
 i < (↑(3 : Nat) : Int) ∧
 i.toNat < (3 : Nat) ∧
 R (hd Tryd.f13 (0 : Nat)) { env := [((0 : Nat), SV.int IntKind.u32 w), ((1 : Nat), SV.int IntKind.i64 a), ((4 : Nat), SV.ptr (4 : Nat) (0 : Nat)), ((5 : Nat), SV.int IntKind.u32 w), ((6 : Nat), SV.int IntKind.i64 o), ((7 : Nat), SV.ptr (7 : Nat) (0 : Nat)), ((8 : Nat), SV.ptr (8 : Nat) (0 : Nat)), ((9 : Nat), SV.int IntKind.i64 i), ((18 : Nat), SV.int IntKind.i64 n), ((19 : Nat), SV.int IntKind.i64 (IntKind.i64.wrap (i + (1 : Int)))), ((20 : Nat), SV.bool (decide (i < n))), ((21 : Nat), SV.int IntKind.i64 i), ((22 : Nat), SV.int IntKind.i64 i), ((23 : Nat), SV.int IntKind.u32 w), ((24 : Nat), SV.int IntKind.i64 i), ((25 : Nat), SV.int IntKind.i64 (IntKind.i64.wrap ((1 : Int) + i))), ((26 : Nat), SV.int IntKind.i64 (octV w (IntKind.i64.wrap ((1 : Int) + i)))), ((27 : Nat), SV.aep (Sh.int IntKind.i64) (8 : Nat) (0 : Nat) i.toNat (0 : Nat)), ((28 : Nat), SV.int IntKind.i64 (IntKind.i64.wrap (i + (1 : Int))))], blk := [((4 : Nat), LB.var [SV.int IntKind.i64 (0 : Int), SV.int IntKind.i64 (0 : Int), SV.int IntKind.i64 (0 : Int), SV.int IntKind.i64 (0 : Int), SV.int IntKind.i64 (0 : Int)]), ((7 : Nat), LB.var [SV.str ks, SV.int IntKind.i64 kr, SV.int IntKind.i64 kb, SV.bool kg, SV.bool kt]), ((8 : Nat), LB.var [SV.arr (3 : Nat) (Sh.int IntKind.i64) (r.set i.toNat (octV w (IntKind.i64.wrap ((1 : Int) + i))))])] }) (ctNum.pre ((ks, kr, kb, kg, kt), w, ()) ∧
 bc kt ((0 : Int) ≤ (0 : Int) ∧
 (0 : Int) < (↑(3 : Nat) : Int) ∧
 Int.toNat (0 : Int) < (3 : Nat) ∧
 (0 : Int) ≤ (1 : Int) ∧
 (1 : Int) < (↑(3 : Nat) : Int) ∧
 Int.toNat (1 : Int) < (3 : Nat) ∧
 (0 : Int) ≤ (2 : Int) ∧
 (2 : Int) < (↑(3 : Nat) : Int) ∧
 Int.toNat (2 : Int) < (3 : Nat) ∧
 Q [SV.agg [SV.int IntKind.i64 o, SV.int IntKind.i64 (gt (Sh.int IntKind.i64) r (Int.toNat (0 : Int))), SV.int IntKind.i64 (gt (Sh.int IntKind.i64) r (Int.toNat (1 : Int))), SV.int IntKind.i64 (gt (Sh.int IntKind.i64) r (Int.toNat (2 : Int))), SV.int IntKind.i64 (IntKind.i64.wrap (a + IntKind.i64.wrap ((4 : Int) * numV kg w kb)))]] [((4 : Nat), LB.var [SV.int IntKind.i64 o, SV.int IntKind.i64 (gt (Sh.int IntKind.i64) r (Int.toNat (0 : Int))), SV.int IntKind.i64 (gt (Sh.int IntKind.i64) r (Int.toNat (1 : Int))), SV.int IntKind.i64 (gt (Sh.int IntKind.i64) r (Int.toNat (2 : Int))), SV.int IntKind.i64 (IntKind.i64.wrap (a + IntKind.i64.wrap ((4 : Int) * numV kg w kb)))]), ((7 : Nat), LB.var [SV.str ks, SV.int IntKind.i64 kr, SV.int IntKind.i64 kb, SV.bool kg, SV.bool kt]), ((8 : Nat), LB.var [SV.arr (3 : Nat) (Sh.int IntKind.i64) r])]) ((0 : Int) ≤ (0 : Int) ∧
 (0 : Int) < (↑(3 : Nat) : Int) ∧
 Int.toNat (0 : Int) < (3 : Nat) ∧
 (0 : Int) ≤ (1 : Int) ∧
 (1 : Int) < (↑(3 : Nat) : Int) ∧
 Int.toNat (1 : Int) < (3 : Nat) ∧
 (0 : Int) ≤ (2 : Int) ∧
 (2 : Int) < (↑(3 : Nat) : Int) ∧
 Int.toNat (2 : Int) < (3 : Nat) ∧
 Q [SV.agg [SV.int IntKind.i64 o, SV.int IntKind.i64 (gt (Sh.int IntKind.i64) r (Int.toNat (0 : Int))), SV.int IntKind.i64 (gt (Sh.int IntKind.i64) r (Int.toNat (1 : Int))), SV.int IntKind.i64 (gt (Sh.int IntKind.i64) r (Int.toNat (2 : Int))), SV.int IntKind.i64 (numV kg w kb)]] [((4 : Nat), LB.var [SV.int IntKind.i64 o, SV.int IntKind.i64 (gt (Sh.int IntKind.i64) r (Int.toNat (0 : Int))), SV.int IntKind.i64 (gt (Sh.int IntKind.i64) r (Int.toNat (1 : Int))), SV.int IntKind.i64 (gt (Sh.int IntKind.i64) r (Int.toNat (2 : Int))), SV.int IntKind.i64 (numV kg w kb)]), ((7 : Nat), LB.var [SV.str ks, SV.int IntKind.i64 kr, SV.int IntKind.i64 kb, SV.bool kg, SV.bool kt]), ((8 : Nat), LB.var [SV.arr (3 : Nat) (Sh.int IntKind.i64) r])]))) := by kernel_rfl
end Go.Proofs.YtjihaaibammbnaaDoor
namespace Go.Proofs.YtjihaaibammbnaaDoor
open Go.Px Go.Ax
def kd (o : Int) : kindSh.D := gt kindSh kindsL o.toNat
def rg (w n j : Int) : Int := if j < n then octV w (1 + j) else 0
def rL (w n : Int) : List Int := [rg w n 0, rg w n 1, rg w n 2]
def numN (w a kb : Int) (kg kt : Bool) : Int := if kt then a + 4 * numV kg w kb else numV kg w kb
def decL (w a o n kb : Int) (kg kt : Bool) : List SV := [.agg [.int .i64 o, .int .i64 (rg w n 0), .int .i64 (rg w n 1), .int .i64 (rg w n 2), .int .i64 (numN w a kb kg kt)]]
theorem lowV_range (w b : Int) : 0 ≤ lowV w b ∧ lowV w b < 4294967296 :=
  div_bounds (by omega) (by omega) (Int.pow_pos (by decide))
theorem lowSV_range (w b : Int) : -2147483648 ≤ lowSV w b ∧ lowSV w b ≤ 2147483647 :=
  lowS_range _ _ (Int.pow_pos (by decide))
theorem numV_range (g : Bool) (w b : Int) : -2147483648 ≤ numV g w b ∧ numV g w b < 4294967296 := by
  have h1 := lowV_range w b
  have h2 := lowSV_range w b
  unfold numV
  split <;> omega
theorem rL_set (w i : Int) (h0 : 0 ≤ i) (h3 : i < 3) : (rL w i).set i.toNat (octV w (1 + i)) = rL w (i + 1) := by
  rcases (by omega : i = 0 ∨ i = 1 ∨ i = 2) with rfl | rfl | rfl <;> rfl
theorem dec_loop (w a o kr kb : Int) (ks : List UInt8) (kg kt : Bool) (hw : 0 ≤ w ∧ w < 4294967296) (ha : 0 ≤ a ∧ a ≤ 65540) {n : Int} (hn : 0 ≤ n ∧ n ≤ 3) (hb : 0 ≤ kb ∧ kb ≤ 32) : ∀ (m : Nat) (i : Int), 0 ≤ i → i ≤ n → (n - i).toNat = m →
    Px.Good Tryd.prog tt G0 13 Tryd.f13.ntmps Tryd.f13.results.toList (fun rs _ => rs = decL w a o n kb kg kt) (hd Tryd.f13 0) ⟨[(0, .int .u32 w), (1, .int .i64 a), (4, .ptr 4 0), (5, .int .u32 w), (6, .int .i64 o), (7, .ptr 7 0), (8, .ptr 8 0), (18, .int .i64 n), (19, .int .i64 i)], [(4, .var [.int .i64 0, .int .i64 0, .int .i64 0, .int .i64 0, .int .i64 0]), (7, .var [.str ks, .int .i64 kr, .int .i64 kb, .bool kg, .bool kt]), (8, .var [.arr 3 (.int .i64) (rL w i)])]⟩ := by
  intro m
  induction m with
  | zero =>
    intro i hi hin hm
    obtain rfl : i = n := by omega
    have hr := numV_range kg w kb
    refine sy_sound cx3 _ _ _ ((vc_decL w a o i i kr kb ks kg kt (rL w i) _ _).mpr ?_)
    rw [show decide (i < i) = false from decide_eq_false (by omega), bc_f, IntWalk.i64_in (4 * numV kg w kb) (by omega), IntWalk.i64_in (a + 4 * numV kg w kb) (by omega)]
    refine ⟨⟨hw, hb⟩, bc_of (fun h => ?_) (fun h => ?_)⟩
    · exact ⟨by decide, by decide, by decide, by decide, by decide, by decide, by decide, by decide, by decide, by rw [decL, numN, if_pos h]; rfl⟩
    · exact ⟨by decide, by decide, by decide, by decide, by decide, by decide, by decide, by decide, by decide, by rw [decL, numN, if_neg (by rw [h]; decide)]; rfl⟩
  | succ m ih =>
    intro i hi hin hm
    refine sy_sound cx3 _ _ _ ((vc_decL w a o n i kr kb ks kg kt (rL w i) _ _).mpr ?_)
    rw [show decide (i < n) = true from decide_eq_true (by omega), bc_t, IntWalk.i64_in (1 + i) (by omega), IntWalk.i64_in (i + 1) (by omega), rL_set w i hi (by omega)]
    exact ⟨⟨hw, (by omega : 0 ≤ 1 + i ∧ 1 + i < 4)⟩, hi, by show _ < (3 : Int); omega, by omega, (ih (i + 1) (by omega) (by omega) (by omega)).only ⟨rfl, rfl, rfl, rfl, rfl, rfl, rfl, rfl, rfl, trivial⟩ ⟨rfl, rfl, rfl, trivial⟩⟩
def decV (w a : Int) : List SV := decL w a (opV w) (regs (opV w)) (kd (opV w)).2.2.1 (kd (opV w)).2.2.2.1 (kd (opV w)).2.2.2.2
def preDec (w a : Int) : Prop := (0 ≤ w ∧ w < 4294967296) ∧ 0 ≤ a ∧ a ≤ 65540
def ctDec : Ctr := ⟨[.int .u32, .int .i64], fun x => preDec x.1 x.2.1, fun x => decV x.1 x.2.1, fun _ => []⟩
theorem opV_range (w : Int) : 0 ≤ opV w ∧ opV w < 9 := by
  have h := oct_nn w 0
  unfold opV
  repeat' split
  all_goals omega
theorem kd_bits (o : Int) (h0 : 0 ≤ o) (h9 : o < 9) : (fun b : Int => 0 ≤ b ∧ b ≤ 32) (kd o).2.2.1 := by
  rcases nine o h0 h9 with rfl | rfl | rfl | rfl | rfl | rfl | rfl | rfl | rfl <;> exact ⟨by decide, by decide⟩
theorem dec_held : Held Tryd.prog G0 13 ctDec := by
  refine Held.run cx3 (fn := Tryd.f13) rfl rfl ⟨by decide, by decide⟩ ?_
  rintro ⟨w, a, ⟨⟩⟩ hp
  replace hp : preDec w a := hp
  have ho := opV_range w
  refine (vc_dec w a _ _).mpr ⟨hp.1, ho.1, by show _ < (9 : Int); omega, ?_⟩
  have hk : (kd (opV w)).2.1 = regs (opV w) := regs_tab _ ho.1 ho.2
  have e := dec_loop w a (opV w) (kd (opV w)).2.1 (kd (opV w)).2.2.1 (kd (opV w)).1 (kd (opV w)).2.2.2.1 (kd (opV w)).2.2.2.2 hp.1 hp.2 (regs_le (opV w)) (kd_bits _ ho.1 ho.2) _ 0 (by omega) (regs_le (opV w)).1 rfl
  refine (e.post fun rs blk hq => QC.flat hq.symm rfl (by rw [hq]; rfl)).only ⟨rfl, rfl, rfl, rfl, rfl, rfl, rfl, ?_, rfl, trivial⟩ ⟨rfl, rfl, ?_, trivial⟩
  · exact congrArg (fun z => some (SV.int .i64 z)) hk
  · rfl
def C4 : CV := (13, .inl ctDec) :: C3
theorem cx4 : CxOK Tryd.prog tt G0 C4 := cx3.cons dec_held (fn := Tryd.f13) rfl rfl rfl
end Go.Proofs.YtjihaaibammbnaaDoor
namespace Go.Proofs.YtjihaaibammbnaaDoor
open Go.Px Go.Ax
def plc (n : Int) : Int := 4 * (n % 16385)
def preP (n : Int) : Prop := 0 ≤ n ∧ n ≤ 65535
def ctPlace : Ctr := ⟨[.int .u16], fun x => preP x.1, fun x => [.int .i64 (plc x.1)], fun _ => []⟩
theorem place_run (n : Int) (hp : preP n) : sy tt G0 [] Tryd.f11.ntmps Tryd.f11.results.toList (QC ctPlace (n, ())) (Px.Good Tryd.prog tt G0 11 Tryd.f11.ntmps Tryd.f11.results.toList (QC ctPlace (n, ()))) 1000 [.code (bodyOf Tryd.f11)] (entry [.int .u16] (n, ())) := by
  unfold preP at hp
  refine (vc_place n _ _).mpr ⟨by decide, ?_⟩
  rw [IntWalk.i64_in n (by omega), Int.tmod_eq_emod_of_nonneg hp.1, IntWalk.i64_in _ (by omega)]
  exact QC.flat rfl rfl rfl
theorem place_held : Held Tryd.prog G0 11 ctPlace :=
  Held.run cx0 (fn := Tryd.f11) rfl rfl ⟨by decide, by decide⟩ fun x hp => place_run x.1 hp
theorem bitI_u32 (op : BinOp) (a b : Int) : 0 ≤ bitI op .u32 a b ∧ bitI op .u32 a b < 4294967296 := by
  unfold bitI
  split <;> simp only [IntKind.wrap_u32] <;> omega
theorem made_ex (x : List Int) : ∃ m, (0 ≤ m ∧ m < 4294967296) ∧ ∀ (Q : List SV → List (Nat × LB) → Prop) (R : List Item → PS → Prop), Q [.int .u32 m] [((1 : Nat), LB.var [SV.arr (4 : Nat) (Sh.int IntKind.u8) x])] →
    sy tt G0 [] Tryd.f12.ntmps Tryd.f12.results.toList Q R 1000 [.code (bodyOf Tryd.f12)] (entry [.arr 4 (.int .u8)] (x, ())) := by
  rcases Bool.eq_false_or_eq_true (decide (gt (Sh.int IntKind.u8) x (Int.toNat (0 : Int)) < (200 : Int))) with h0 | h0 <;>
  rcases Bool.eq_false_or_eq_true (decide (IntKind.u32.wrap (Int.tmod (gt (Sh.int IntKind.u8) x (Int.toNat (0 : Int))) (10 : Int)) = (1 : Int))) with h1 | h1 <;>
  rcases Bool.eq_false_or_eq_true (decide (IntKind.u32.wrap (Int.tmod (gt (Sh.int IntKind.u8) x (Int.toNat (0 : Int))) (10 : Int)) = (3 : Int))) with h3 | h3 <;>
  rcases Bool.eq_false_or_eq_true (decide (IntKind.u32.wrap (Int.tmod (gt (Sh.int IntKind.u8) x (Int.toNat (0 : Int))) (10 : Int)) = (4 : Int))) with h4 | h4
  all_goals
    refine ⟨?_, ?_, fun Q R h => (vc_made x Q R).mpr ?_⟩
    rotate_left 2
    · simp only [cond_false, h0, h1, h3, h4, bc_t, bc_f]
      iterate 10 refine ⟨by decide, ?_⟩
      repeat (first | exact h | refine ⟨by decide, ?_⟩)
    · exact bitI_u32 _ _ _
noncomputable def madeV (x : List Int) : Int := Classical.choose (made_ex x)
theorem madeV_range (x : List Int) : 0 ≤ madeV x ∧ madeV x < 4294967296 := (Classical.choose_spec (made_ex x)).1
noncomputable def ctMade : Ctr := ⟨[.arr 4 (.int .u8)], fun _ => True, fun x => [.int .u32 (madeV x.1)], fun _ => []⟩
theorem made_held : Held Tryd.prog G0 12 ctMade :=
  Held.run cx0 (fn := Tryd.f12) rfl rfl ⟨by decide, by decide⟩ fun x _ => (Classical.choose_spec (made_ex x.1)).2 _ _ (QC.flat rfl rfl rfl)
end Go.Proofs.YtjihaaibammbnaaDoor
namespace Go.Proofs.YtjihaaibammbnaaDoor
open Go.Px Go.Ax
noncomputable section
def ctSan : Ctr := ⟨[], fun _ => True, fun _ => [.bool true], fun _ => []⟩
def C6 : CV := (10, .inl ctSan) :: (11, .inl ctPlace) :: (12, .inl ctMade) :: C4
set_option maxRecDepth 100000
theorem vc_moves (w : Int) (x : List Int) (p : List Int) (Q : List SV → List (Nat × LB) → Prop) (R : List Item → PS → Prop) : sy tt G0 C6 Tryd.f5.ntmps Tryd.f5.results.toList Q R 1000 [.code (bodyOf Tryd.f5)] (entry [.int .u32, .arr 4 (.int .u8), .arr 2 (.int .u16)] (w, x, p, ())) =
    (ctSan.pre () ∧
 (0 : Int) ≤ (0 : Int) ∧
 (0 : Int) < (↑(2 : Nat) : Int) ∧
 Int.toNat (0 : Int) < (2 : Nat) ∧
 ctPlace.pre (gt (Sh.int IntKind.u16) p (Int.toNat (0 : Int)), ()) ∧
 (0 : Int) ≤ (1 : Int) ∧
 (1 : Int) < (↑(2 : Nat) : Int) ∧
 Int.toNat (1 : Int) < (2 : Nat) ∧
 ctPlace.pre (gt (Sh.int IntKind.u16) p (Int.toNat (1 : Int)), ()) ∧
 ctMade.pre (x, ()) ∧
 R (hd Tryd.f5 (0 : Nat)) { env := [((0 : Nat), SV.int IntKind.u32 w), ((1 : Nat), SV.arr (4 : Nat) (Sh.int IntKind.u8) x), ((2 : Nat), SV.arr (2 : Nat) (Sh.int IntKind.u16) p), ((4 : Nat), SV.ptr (4 : Nat) (0 : Nat)), ((5 : Nat), SV.ptr (5 : Nat) (0 : Nat)), ((6 : Nat), SV.bool false), ((7 : Nat), SV.bool true), ((8 : Nat), SV.int IntKind.i64 (plc (gt (Sh.int IntKind.u16) p (Int.toNat (0 : Int))))), ((9 : Nat), SV.int IntKind.i64 (plc (gt (Sh.int IntKind.u16) p (Int.toNat (1 : Int))))), ((10 : Nat), SV.win true (Sh.int IntKind.u32) (24 : Nat) (0 : Nat) (2 : Nat)), ((11 : Nat), SV.int IntKind.i64 (0 : Int)), ((14 : Nat), SV.bool true), ((15 : Nat), SV.aep (Sh.int IntKind.u16) (5 : Nat) (0 : Nat) (0 : Nat) (0 : Nat)), ((16 : Nat), SV.int IntKind.u16 (gt (Sh.int IntKind.u16) p (Int.toNat (0 : Int)))), ((17 : Nat), SV.int IntKind.i64 (plc (gt (Sh.int IntKind.u16) p (Int.toNat (0 : Int))))), ((18 : Nat), SV.aep (Sh.int IntKind.u16) (5 : Nat) (0 : Nat) (1 : Nat) (0 : Nat)), ((19 : Nat), SV.int IntKind.u16 (gt (Sh.int IntKind.u16) p (Int.toNat (1 : Int)))), ((20 : Nat), SV.int IntKind.i64 (plc (gt (Sh.int IntKind.u16) p (Int.toNat (1 : Int))))), ((21 : Nat), SV.int IntKind.u32 w), ((22 : Nat), SV.arr (4 : Nat) (Sh.int IntKind.u8) x), ((23 : Nat), SV.int IntKind.u32 (madeV x)), ((24 : Nat), SV.win true (Sh.int IntKind.u32) (24 : Nat) (0 : Nat) (2 : Nat))], blk := [((4 : Nat), LB.var [SV.arr (4 : Nat) (Sh.int IntKind.u8) x]), ((5 : Nat), LB.var [SV.arr (2 : Nat) (Sh.int IntKind.u16) p]), ((24 : Nat), LB.row (22 : Nat) (Sh.int IntKind.u32) (((List.replicate (2 : Nat) (Sh.int IntKind.u32).dflt).set (0 : Nat) w).set (1 : Nat) (madeV x)))] }) := by kernel_rfl
theorem vc_movesL (p q i : Int) (l : List Int) (Q : List SV → List (Nat × LB) → Prop) (R : List Item → PS → Prop) : sy tt G0 C6 Tryd.f5.ntmps Tryd.f5.results.toList Q R 1000 (hd Tryd.f5 0) ⟨[(7, .bool true), (8, .int .i64 p), (9, .int .i64 q), (10, .win true (.int .u32) 24 0 2), (11, .int .i64 i)], [(24, .row 22 (.int .u32) l)]⟩ =
    (bc (decide (i < (2 : Int))) ((0 : Int) ≤ i ∧
 i < (↑(2 : Nat) : Int) ∧
 (0 : Nat) + i.toNat < l.length ∧
 ctDec.pre (gt (Sh.int IntKind.u32) l ((0 : Nat) + i.toNat), p, ()) ∧
 (0 : Int) ≤ i ∧
 i < (↑(2 : Nat) : Int) ∧
 (0 : Nat) + i.toNat < l.length ∧
 ctDec.pre (gt (Sh.int IntKind.u32) l ((0 : Nat) + i.toNat), q, ()) ∧
 bc (decide ((5 : Int) ≤ opV (gt (Sh.int IntKind.u32) l ((0 : Nat) + i.toNat)))) (bc (!decide ([opV (gt (Sh.int IntKind.u32) l ((0 : Nat) + i.toNat)), rg (gt (Sh.int IntKind.u32) l ((0 : Nat) + i.toNat)) (regs (opV (gt (Sh.int IntKind.u32) l ((0 : Nat) + i.toNat)))) (0 : Int), rg (gt (Sh.int IntKind.u32) l ((0 : Nat) + i.toNat)) (regs (opV (gt (Sh.int IntKind.u32) l ((0 : Nat) + i.toNat)))) (1 : Int), rg (gt (Sh.int IntKind.u32) l ((0 : Nat) + i.toNat)) (regs (opV (gt (Sh.int IntKind.u32) l ((0 : Nat) + i.toNat)))) (2 : Int), IntKind.i64.wrap (numN (gt (Sh.int IntKind.u32) l ((0 : Nat) + i.toNat)) p (kd (opV (gt (Sh.int IntKind.u32) l ((0 : Nat) + i.toNat)))).snd.snd.fst (kd (opV (gt (Sh.int IntKind.u32) l ((0 : Nat) + i.toNat)))).snd.snd.snd.fst (kd (opV (gt (Sh.int IntKind.u32) l ((0 : Nat) + i.toNat)))).snd.snd.snd.snd + IntKind.i64.wrap (q - p))] = [opV (gt (Sh.int IntKind.u32) l ((0 : Nat) + i.toNat)), rg (gt (Sh.int IntKind.u32) l ((0 : Nat) + i.toNat)) (regs (opV (gt (Sh.int IntKind.u32) l ((0 : Nat) + i.toNat)))) (0 : Int), rg (gt (Sh.int IntKind.u32) l ((0 : Nat) + i.toNat)) (regs (opV (gt (Sh.int IntKind.u32) l ((0 : Nat) + i.toNat)))) (1 : Int), rg (gt (Sh.int IntKind.u32) l ((0 : Nat) + i.toNat)) (regs (opV (gt (Sh.int IntKind.u32) l ((0 : Nat) + i.toNat)))) (2 : Int), numN (gt (Sh.int IntKind.u32) l ((0 : Nat) + i.toNat)) q (kd (opV (gt (Sh.int IntKind.u32) l ((0 : Nat) + i.toNat)))).snd.snd.fst (kd (opV (gt (Sh.int IntKind.u32) l ((0 : Nat) + i.toNat)))).snd.snd.snd.fst (kd (opV (gt (Sh.int IntKind.u32) l ((0 : Nat) + i.toNat)))).snd.snd.snd.snd])) (Q [SV.bool false] [((12 : Nat), LB.var [SV.int IntKind.i64 (opV (gt (Sh.int IntKind.u32) l ((0 : Nat) + i.toNat))), SV.int IntKind.i64 (rg (gt (Sh.int IntKind.u32) l ((0 : Nat) + i.toNat)) (regs (opV (gt (Sh.int IntKind.u32) l ((0 : Nat) + i.toNat)))) (0 : Int)), SV.int IntKind.i64 (rg (gt (Sh.int IntKind.u32) l ((0 : Nat) + i.toNat)) (regs (opV (gt (Sh.int IntKind.u32) l ((0 : Nat) + i.toNat)))) (1 : Int)), SV.int IntKind.i64 (rg (gt (Sh.int IntKind.u32) l ((0 : Nat) + i.toNat)) (regs (opV (gt (Sh.int IntKind.u32) l ((0 : Nat) + i.toNat)))) (2 : Int)), SV.int IntKind.i64 (IntKind.i64.wrap (numN (gt (Sh.int IntKind.u32) l ((0 : Nat) + i.toNat)) p (kd (opV (gt (Sh.int IntKind.u32) l ((0 : Nat) + i.toNat)))).snd.snd.fst (kd (opV (gt (Sh.int IntKind.u32) l ((0 : Nat) + i.toNat)))).snd.snd.snd.fst (kd (opV (gt (Sh.int IntKind.u32) l ((0 : Nat) + i.toNat)))).snd.snd.snd.snd + IntKind.i64.wrap (q - p)))]), ((13 : Nat), LB.var [SV.int IntKind.i64 (opV (gt (Sh.int IntKind.u32) l ((0 : Nat) + i.toNat))), SV.int IntKind.i64 (rg (gt (Sh.int IntKind.u32) l ((0 : Nat) + i.toNat)) (regs (opV (gt (Sh.int IntKind.u32) l ((0 : Nat) + i.toNat)))) (0 : Int)), SV.int IntKind.i64 (rg (gt (Sh.int IntKind.u32) l ((0 : Nat) + i.toNat)) (regs (opV (gt (Sh.int IntKind.u32) l ((0 : Nat) + i.toNat)))) (1 : Int)), SV.int IntKind.i64 (rg (gt (Sh.int IntKind.u32) l ((0 : Nat) + i.toNat)) (regs (opV (gt (Sh.int IntKind.u32) l ((0 : Nat) + i.toNat)))) (2 : Int)), SV.int IntKind.i64 (numN (gt (Sh.int IntKind.u32) l ((0 : Nat) + i.toNat)) q (kd (opV (gt (Sh.int IntKind.u32) l ((0 : Nat) + i.toNat)))).snd.snd.fst (kd (opV (gt (Sh.int IntKind.u32) l ((0 : Nat) + i.toNat)))).snd.snd.snd.fst (kd (opV (gt (Sh.int IntKind.u32) l ((0 : Nat) + i.toNat)))).snd.snd.snd.snd)]), ((24 : Nat), LB.row (22 : Nat) (Sh.int IntKind.u32) l)]) (R (hd Tryd.f5 (0 : Nat)) { env := [((7 : Nat), SV.bool true), ((8 : Nat), SV.int IntKind.i64 p), ((9 : Nat), SV.int IntKind.i64 q), ((10 : Nat), SV.win true (Sh.int IntKind.u32) (24 : Nat) (0 : Nat) (2 : Nat)), ((11 : Nat), SV.int IntKind.i64 (IntKind.i64.wrap (i + (1 : Int)))), ((12 : Nat), SV.ptr (12 : Nat) (0 : Nat)), ((13 : Nat), SV.ptr (13 : Nat) (0 : Nat)), ((25 : Nat), SV.int IntKind.i64 i), ((26 : Nat), SV.bool (decide (i < (2 : Int)))), ((27 : Nat), SV.int IntKind.i64 i), ((28 : Nat), SV.int IntKind.i64 (IntKind.i64.wrap (i + (1 : Int)))), ((29 : Nat), SV.win true (Sh.int IntKind.u32) (24 : Nat) (0 : Nat) (2 : Nat)), ((30 : Nat), SV.int IntKind.i64 i), ((31 : Nat), SV.elp (Sh.int IntKind.u32) (24 : Nat) ((0 : Nat) + i.toNat) (0 : Nat)), ((32 : Nat), SV.int IntKind.u32 (gt (Sh.int IntKind.u32) l ((0 : Nat) + i.toNat))), ((33 : Nat), SV.int IntKind.i64 p), ((34 : Nat), SV.agg [SV.int IntKind.i64 (opV (gt (Sh.int IntKind.u32) l ((0 : Nat) + i.toNat))), SV.int IntKind.i64 (rg (gt (Sh.int IntKind.u32) l ((0 : Nat) + i.toNat)) (regs (opV (gt (Sh.int IntKind.u32) l ((0 : Nat) + i.toNat)))) (0 : Int)), SV.int IntKind.i64 (rg (gt (Sh.int IntKind.u32) l ((0 : Nat) + i.toNat)) (regs (opV (gt (Sh.int IntKind.u32) l ((0 : Nat) + i.toNat)))) (1 : Int)), SV.int IntKind.i64 (rg (gt (Sh.int IntKind.u32) l ((0 : Nat) + i.toNat)) (regs (opV (gt (Sh.int IntKind.u32) l ((0 : Nat) + i.toNat)))) (2 : Int)), SV.int IntKind.i64 (numN (gt (Sh.int IntKind.u32) l ((0 : Nat) + i.toNat)) p (kd (opV (gt (Sh.int IntKind.u32) l ((0 : Nat) + i.toNat)))).snd.snd.fst (kd (opV (gt (Sh.int IntKind.u32) l ((0 : Nat) + i.toNat)))).snd.snd.snd.fst (kd (opV (gt (Sh.int IntKind.u32) l ((0 : Nat) + i.toNat)))).snd.snd.snd.snd)]), ((35 : Nat), SV.win true (Sh.int IntKind.u32) (24 : Nat) (0 : Nat) (2 : Nat)), ((36 : Nat), SV.int IntKind.i64 i), ((37 : Nat), SV.elp (Sh.int IntKind.u32) (24 : Nat) ((0 : Nat) + i.toNat) (0 : Nat)), ((38 : Nat), SV.int IntKind.u32 (gt (Sh.int IntKind.u32) l ((0 : Nat) + i.toNat))), ((39 : Nat), SV.int IntKind.i64 q), ((40 : Nat), SV.agg [SV.int IntKind.i64 (opV (gt (Sh.int IntKind.u32) l ((0 : Nat) + i.toNat))), SV.int IntKind.i64 (rg (gt (Sh.int IntKind.u32) l ((0 : Nat) + i.toNat)) (regs (opV (gt (Sh.int IntKind.u32) l ((0 : Nat) + i.toNat)))) (0 : Int)), SV.int IntKind.i64 (rg (gt (Sh.int IntKind.u32) l ((0 : Nat) + i.toNat)) (regs (opV (gt (Sh.int IntKind.u32) l ((0 : Nat) + i.toNat)))) (1 : Int)), SV.int IntKind.i64 (rg (gt (Sh.int IntKind.u32) l ((0 : Nat) + i.toNat)) (regs (opV (gt (Sh.int IntKind.u32) l ((0 : Nat) + i.toNat)))) (2 : Int)), SV.int IntKind.i64 (numN (gt (Sh.int IntKind.u32) l ((0 : Nat) + i.toNat)) q (kd (opV (gt (Sh.int IntKind.u32) l ((0 : Nat) + i.toNat)))).snd.snd.fst (kd (opV (gt (Sh.int IntKind.u32) l ((0 : Nat) + i.toNat)))).snd.snd.snd.fst (kd (opV (gt (Sh.int IntKind.u32) l ((0 : Nat) + i.toNat)))).snd.snd.snd.snd)]), ((41 : Nat), SV.ptr (12 : Nat) (0 : Nat)), ((42 : Nat), SV.int IntKind.i64 (opV (gt (Sh.int IntKind.u32) l ((0 : Nat) + i.toNat)))), ((43 : Nat), SV.bool (decide ((5 : Int) ≤ opV (gt (Sh.int IntKind.u32) l ((0 : Nat) + i.toNat))))), ((44 : Nat), SV.ptr (12 : Nat) (4 : Nat)), ((45 : Nat), SV.int IntKind.i64 (numN (gt (Sh.int IntKind.u32) l ((0 : Nat) + i.toNat)) p (kd (opV (gt (Sh.int IntKind.u32) l ((0 : Nat) + i.toNat)))).snd.snd.fst (kd (opV (gt (Sh.int IntKind.u32) l ((0 : Nat) + i.toNat)))).snd.snd.snd.fst (kd (opV (gt (Sh.int IntKind.u32) l ((0 : Nat) + i.toNat)))).snd.snd.snd.snd)), ((46 : Nat), SV.int IntKind.i64 q), ((47 : Nat), SV.int IntKind.i64 p), ((48 : Nat), SV.int IntKind.i64 (IntKind.i64.wrap (q - p))), ((49 : Nat), SV.int IntKind.i64 (IntKind.i64.wrap (numN (gt (Sh.int IntKind.u32) l ((0 : Nat) + i.toNat)) p (kd (opV (gt (Sh.int IntKind.u32) l ((0 : Nat) + i.toNat)))).snd.snd.fst (kd (opV (gt (Sh.int IntKind.u32) l ((0 : Nat) + i.toNat)))).snd.snd.snd.fst (kd (opV (gt (Sh.int IntKind.u32) l ((0 : Nat) + i.toNat)))).snd.snd.snd.snd + IntKind.i64.wrap (q - p)))), ((50 : Nat), SV.ptr (12 : Nat) (4 : Nat)), ((51 : Nat), SV.agg [SV.int IntKind.i64 (opV (gt (Sh.int IntKind.u32) l ((0 : Nat) + i.toNat))), SV.int IntKind.i64 (rg (gt (Sh.int IntKind.u32) l ((0 : Nat) + i.toNat)) (regs (opV (gt (Sh.int IntKind.u32) l ((0 : Nat) + i.toNat)))) (0 : Int)), SV.int IntKind.i64 (rg (gt (Sh.int IntKind.u32) l ((0 : Nat) + i.toNat)) (regs (opV (gt (Sh.int IntKind.u32) l ((0 : Nat) + i.toNat)))) (1 : Int)), SV.int IntKind.i64 (rg (gt (Sh.int IntKind.u32) l ((0 : Nat) + i.toNat)) (regs (opV (gt (Sh.int IntKind.u32) l ((0 : Nat) + i.toNat)))) (2 : Int)), SV.int IntKind.i64 (IntKind.i64.wrap (numN (gt (Sh.int IntKind.u32) l ((0 : Nat) + i.toNat)) p (kd (opV (gt (Sh.int IntKind.u32) l ((0 : Nat) + i.toNat)))).snd.snd.fst (kd (opV (gt (Sh.int IntKind.u32) l ((0 : Nat) + i.toNat)))).snd.snd.snd.fst (kd (opV (gt (Sh.int IntKind.u32) l ((0 : Nat) + i.toNat)))).snd.snd.snd.snd + IntKind.i64.wrap (q - p)))]), ((52 : Nat), SV.agg [SV.int IntKind.i64 (opV (gt (Sh.int IntKind.u32) l ((0 : Nat) + i.toNat))), SV.int IntKind.i64 (rg (gt (Sh.int IntKind.u32) l ((0 : Nat) + i.toNat)) (regs (opV (gt (Sh.int IntKind.u32) l ((0 : Nat) + i.toNat)))) (0 : Int)), SV.int IntKind.i64 (rg (gt (Sh.int IntKind.u32) l ((0 : Nat) + i.toNat)) (regs (opV (gt (Sh.int IntKind.u32) l ((0 : Nat) + i.toNat)))) (1 : Int)), SV.int IntKind.i64 (rg (gt (Sh.int IntKind.u32) l ((0 : Nat) + i.toNat)) (regs (opV (gt (Sh.int IntKind.u32) l ((0 : Nat) + i.toNat)))) (2 : Int)), SV.int IntKind.i64 (numN (gt (Sh.int IntKind.u32) l ((0 : Nat) + i.toNat)) q (kd (opV (gt (Sh.int IntKind.u32) l ((0 : Nat) + i.toNat)))).snd.snd.fst (kd (opV (gt (Sh.int IntKind.u32) l ((0 : Nat) + i.toNat)))).snd.snd.snd.fst (kd (opV (gt (Sh.int IntKind.u32) l ((0 : Nat) + i.toNat)))).snd.snd.snd.snd)]), ((53 : Nat), SV.bool !decide ([opV (gt (Sh.int IntKind.u32) l ((0 : Nat) + i.toNat)), rg (gt (Sh.int IntKind.u32) l ((0 : Nat) + i.toNat)) (regs (opV (gt (Sh.int IntKind.u32) l ((0 : Nat) + i.toNat)))) (0 : Int), rg (gt (Sh.int IntKind.u32) l ((0 : Nat) + i.toNat)) (regs (opV (gt (Sh.int IntKind.u32) l ((0 : Nat) + i.toNat)))) (1 : Int), rg (gt (Sh.int IntKind.u32) l ((0 : Nat) + i.toNat)) (regs (opV (gt (Sh.int IntKind.u32) l ((0 : Nat) + i.toNat)))) (2 : Int), IntKind.i64.wrap (numN (gt (Sh.int IntKind.u32) l ((0 : Nat) + i.toNat)) p (kd (opV (gt (Sh.int IntKind.u32) l ((0 : Nat) + i.toNat)))).snd.snd.fst (kd (opV (gt (Sh.int IntKind.u32) l ((0 : Nat) + i.toNat)))).snd.snd.snd.fst (kd (opV (gt (Sh.int IntKind.u32) l ((0 : Nat) + i.toNat)))).snd.snd.snd.snd + IntKind.i64.wrap (q - p))] = [opV (gt (Sh.int IntKind.u32) l ((0 : Nat) + i.toNat)), rg (gt (Sh.int IntKind.u32) l ((0 : Nat) + i.toNat)) (regs (opV (gt (Sh.int IntKind.u32) l ((0 : Nat) + i.toNat)))) (0 : Int), rg (gt (Sh.int IntKind.u32) l ((0 : Nat) + i.toNat)) (regs (opV (gt (Sh.int IntKind.u32) l ((0 : Nat) + i.toNat)))) (1 : Int), rg (gt (Sh.int IntKind.u32) l ((0 : Nat) + i.toNat)) (regs (opV (gt (Sh.int IntKind.u32) l ((0 : Nat) + i.toNat)))) (2 : Int), numN (gt (Sh.int IntKind.u32) l ((0 : Nat) + i.toNat)) q (kd (opV (gt (Sh.int IntKind.u32) l ((0 : Nat) + i.toNat)))).snd.snd.fst (kd (opV (gt (Sh.int IntKind.u32) l ((0 : Nat) + i.toNat)))).snd.snd.snd.fst (kd (opV (gt (Sh.int IntKind.u32) l ((0 : Nat) + i.toNat)))).snd.snd.snd.snd]))], blk := [((12 : Nat), LB.var [SV.int IntKind.i64 (opV (gt (Sh.int IntKind.u32) l ((0 : Nat) + i.toNat))), SV.int IntKind.i64 (rg (gt (Sh.int IntKind.u32) l ((0 : Nat) + i.toNat)) (regs (opV (gt (Sh.int IntKind.u32) l ((0 : Nat) + i.toNat)))) (0 : Int)), SV.int IntKind.i64 (rg (gt (Sh.int IntKind.u32) l ((0 : Nat) + i.toNat)) (regs (opV (gt (Sh.int IntKind.u32) l ((0 : Nat) + i.toNat)))) (1 : Int)), SV.int IntKind.i64 (rg (gt (Sh.int IntKind.u32) l ((0 : Nat) + i.toNat)) (regs (opV (gt (Sh.int IntKind.u32) l ((0 : Nat) + i.toNat)))) (2 : Int)), SV.int IntKind.i64 (IntKind.i64.wrap (numN (gt (Sh.int IntKind.u32) l ((0 : Nat) + i.toNat)) p (kd (opV (gt (Sh.int IntKind.u32) l ((0 : Nat) + i.toNat)))).snd.snd.fst (kd (opV (gt (Sh.int IntKind.u32) l ((0 : Nat) + i.toNat)))).snd.snd.snd.fst (kd (opV (gt (Sh.int IntKind.u32) l ((0 : Nat) + i.toNat)))).snd.snd.snd.snd + IntKind.i64.wrap (q - p)))]), ((13 : Nat), LB.var [SV.int IntKind.i64 (opV (gt (Sh.int IntKind.u32) l ((0 : Nat) + i.toNat))), SV.int IntKind.i64 (rg (gt (Sh.int IntKind.u32) l ((0 : Nat) + i.toNat)) (regs (opV (gt (Sh.int IntKind.u32) l ((0 : Nat) + i.toNat)))) (0 : Int)), SV.int IntKind.i64 (rg (gt (Sh.int IntKind.u32) l ((0 : Nat) + i.toNat)) (regs (opV (gt (Sh.int IntKind.u32) l ((0 : Nat) + i.toNat)))) (1 : Int)), SV.int IntKind.i64 (rg (gt (Sh.int IntKind.u32) l ((0 : Nat) + i.toNat)) (regs (opV (gt (Sh.int IntKind.u32) l ((0 : Nat) + i.toNat)))) (2 : Int)), SV.int IntKind.i64 (numN (gt (Sh.int IntKind.u32) l ((0 : Nat) + i.toNat)) q (kd (opV (gt (Sh.int IntKind.u32) l ((0 : Nat) + i.toNat)))).snd.snd.fst (kd (opV (gt (Sh.int IntKind.u32) l ((0 : Nat) + i.toNat)))).snd.snd.snd.fst (kd (opV (gt (Sh.int IntKind.u32) l ((0 : Nat) + i.toNat)))).snd.snd.snd.snd)]), ((24 : Nat), LB.row (22 : Nat) (Sh.int IntKind.u32) l)] })) (bc (!decide ([opV (gt (Sh.int IntKind.u32) l ((0 : Nat) + i.toNat)), rg (gt (Sh.int IntKind.u32) l ((0 : Nat) + i.toNat)) (regs (opV (gt (Sh.int IntKind.u32) l ((0 : Nat) + i.toNat)))) (0 : Int), rg (gt (Sh.int IntKind.u32) l ((0 : Nat) + i.toNat)) (regs (opV (gt (Sh.int IntKind.u32) l ((0 : Nat) + i.toNat)))) (1 : Int), rg (gt (Sh.int IntKind.u32) l ((0 : Nat) + i.toNat)) (regs (opV (gt (Sh.int IntKind.u32) l ((0 : Nat) + i.toNat)))) (2 : Int), numN (gt (Sh.int IntKind.u32) l ((0 : Nat) + i.toNat)) p (kd (opV (gt (Sh.int IntKind.u32) l ((0 : Nat) + i.toNat)))).snd.snd.fst (kd (opV (gt (Sh.int IntKind.u32) l ((0 : Nat) + i.toNat)))).snd.snd.snd.fst (kd (opV (gt (Sh.int IntKind.u32) l ((0 : Nat) + i.toNat)))).snd.snd.snd.snd] = [opV (gt (Sh.int IntKind.u32) l ((0 : Nat) + i.toNat)), rg (gt (Sh.int IntKind.u32) l ((0 : Nat) + i.toNat)) (regs (opV (gt (Sh.int IntKind.u32) l ((0 : Nat) + i.toNat)))) (0 : Int), rg (gt (Sh.int IntKind.u32) l ((0 : Nat) + i.toNat)) (regs (opV (gt (Sh.int IntKind.u32) l ((0 : Nat) + i.toNat)))) (1 : Int), rg (gt (Sh.int IntKind.u32) l ((0 : Nat) + i.toNat)) (regs (opV (gt (Sh.int IntKind.u32) l ((0 : Nat) + i.toNat)))) (2 : Int), numN (gt (Sh.int IntKind.u32) l ((0 : Nat) + i.toNat)) q (kd (opV (gt (Sh.int IntKind.u32) l ((0 : Nat) + i.toNat)))).snd.snd.fst (kd (opV (gt (Sh.int IntKind.u32) l ((0 : Nat) + i.toNat)))).snd.snd.snd.fst (kd (opV (gt (Sh.int IntKind.u32) l ((0 : Nat) + i.toNat)))).snd.snd.snd.snd])) (Q [SV.bool false] [((12 : Nat), LB.var [SV.int IntKind.i64 (opV (gt (Sh.int IntKind.u32) l ((0 : Nat) + i.toNat))), SV.int IntKind.i64 (rg (gt (Sh.int IntKind.u32) l ((0 : Nat) + i.toNat)) (regs (opV (gt (Sh.int IntKind.u32) l ((0 : Nat) + i.toNat)))) (0 : Int)), SV.int IntKind.i64 (rg (gt (Sh.int IntKind.u32) l ((0 : Nat) + i.toNat)) (regs (opV (gt (Sh.int IntKind.u32) l ((0 : Nat) + i.toNat)))) (1 : Int)), SV.int IntKind.i64 (rg (gt (Sh.int IntKind.u32) l ((0 : Nat) + i.toNat)) (regs (opV (gt (Sh.int IntKind.u32) l ((0 : Nat) + i.toNat)))) (2 : Int)), SV.int IntKind.i64 (numN (gt (Sh.int IntKind.u32) l ((0 : Nat) + i.toNat)) p (kd (opV (gt (Sh.int IntKind.u32) l ((0 : Nat) + i.toNat)))).snd.snd.fst (kd (opV (gt (Sh.int IntKind.u32) l ((0 : Nat) + i.toNat)))).snd.snd.snd.fst (kd (opV (gt (Sh.int IntKind.u32) l ((0 : Nat) + i.toNat)))).snd.snd.snd.snd)]), ((13 : Nat), LB.var [SV.int IntKind.i64 (opV (gt (Sh.int IntKind.u32) l ((0 : Nat) + i.toNat))), SV.int IntKind.i64 (rg (gt (Sh.int IntKind.u32) l ((0 : Nat) + i.toNat)) (regs (opV (gt (Sh.int IntKind.u32) l ((0 : Nat) + i.toNat)))) (0 : Int)), SV.int IntKind.i64 (rg (gt (Sh.int IntKind.u32) l ((0 : Nat) + i.toNat)) (regs (opV (gt (Sh.int IntKind.u32) l ((0 : Nat) + i.toNat)))) (1 : Int)), SV.int IntKind.i64 (rg (gt (Sh.int IntKind.u32) l ((0 : Nat) + i.toNat)) (regs (opV (gt (Sh.int IntKind.u32) l ((0 : Nat) + i.toNat)))) (2 : Int)), SV.int IntKind.i64 (numN (gt (Sh.int IntKind.u32) l ((0 : Nat) + i.toNat)) q (kd (opV (gt (Sh.int IntKind.u32) l ((0 : Nat) + i.toNat)))).snd.snd.fst (kd (opV (gt (Sh.int IntKind.u32) l ((0 : Nat) + i.toNat)))).snd.snd.snd.fst (kd (opV (gt (Sh.int IntKind.u32) l ((0 : Nat) + i.toNat)))).snd.snd.snd.snd)]), ((24 : Nat), LB.row (22 : Nat) (Sh.int IntKind.u32) l)]) (R (hd Tryd.f5 (0 : Nat)) { env := [((7 : Nat), SV.bool true), ((8 : Nat), SV.int IntKind.i64 p), ((9 : Nat), SV.int IntKind.i64 q), ((10 : Nat), SV.win true (Sh.int IntKind.u32) (24 : Nat) (0 : Nat) (2 : Nat)), ((11 : Nat), SV.int IntKind.i64 (IntKind.i64.wrap (i + (1 : Int)))), ((12 : Nat), SV.ptr (12 : Nat) (0 : Nat)), ((13 : Nat), SV.ptr (13 : Nat) (0 : Nat)), ((25 : Nat), SV.int IntKind.i64 i), ((26 : Nat), SV.bool (decide (i < (2 : Int)))), ((27 : Nat), SV.int IntKind.i64 i), ((28 : Nat), SV.int IntKind.i64 (IntKind.i64.wrap (i + (1 : Int)))), ((29 : Nat), SV.win true (Sh.int IntKind.u32) (24 : Nat) (0 : Nat) (2 : Nat)), ((30 : Nat), SV.int IntKind.i64 i), ((31 : Nat), SV.elp (Sh.int IntKind.u32) (24 : Nat) ((0 : Nat) + i.toNat) (0 : Nat)), ((32 : Nat), SV.int IntKind.u32 (gt (Sh.int IntKind.u32) l ((0 : Nat) + i.toNat))), ((33 : Nat), SV.int IntKind.i64 p), ((34 : Nat), SV.agg [SV.int IntKind.i64 (opV (gt (Sh.int IntKind.u32) l ((0 : Nat) + i.toNat))), SV.int IntKind.i64 (rg (gt (Sh.int IntKind.u32) l ((0 : Nat) + i.toNat)) (regs (opV (gt (Sh.int IntKind.u32) l ((0 : Nat) + i.toNat)))) (0 : Int)), SV.int IntKind.i64 (rg (gt (Sh.int IntKind.u32) l ((0 : Nat) + i.toNat)) (regs (opV (gt (Sh.int IntKind.u32) l ((0 : Nat) + i.toNat)))) (1 : Int)), SV.int IntKind.i64 (rg (gt (Sh.int IntKind.u32) l ((0 : Nat) + i.toNat)) (regs (opV (gt (Sh.int IntKind.u32) l ((0 : Nat) + i.toNat)))) (2 : Int)), SV.int IntKind.i64 (numN (gt (Sh.int IntKind.u32) l ((0 : Nat) + i.toNat)) p (kd (opV (gt (Sh.int IntKind.u32) l ((0 : Nat) + i.toNat)))).snd.snd.fst (kd (opV (gt (Sh.int IntKind.u32) l ((0 : Nat) + i.toNat)))).snd.snd.snd.fst (kd (opV (gt (Sh.int IntKind.u32) l ((0 : Nat) + i.toNat)))).snd.snd.snd.snd)]), ((35 : Nat), SV.win true (Sh.int IntKind.u32) (24 : Nat) (0 : Nat) (2 : Nat)), ((36 : Nat), SV.int IntKind.i64 i), ((37 : Nat), SV.elp (Sh.int IntKind.u32) (24 : Nat) ((0 : Nat) + i.toNat) (0 : Nat)), ((38 : Nat), SV.int IntKind.u32 (gt (Sh.int IntKind.u32) l ((0 : Nat) + i.toNat))), ((39 : Nat), SV.int IntKind.i64 q), ((40 : Nat), SV.agg [SV.int IntKind.i64 (opV (gt (Sh.int IntKind.u32) l ((0 : Nat) + i.toNat))), SV.int IntKind.i64 (rg (gt (Sh.int IntKind.u32) l ((0 : Nat) + i.toNat)) (regs (opV (gt (Sh.int IntKind.u32) l ((0 : Nat) + i.toNat)))) (0 : Int)), SV.int IntKind.i64 (rg (gt (Sh.int IntKind.u32) l ((0 : Nat) + i.toNat)) (regs (opV (gt (Sh.int IntKind.u32) l ((0 : Nat) + i.toNat)))) (1 : Int)), SV.int IntKind.i64 (rg (gt (Sh.int IntKind.u32) l ((0 : Nat) + i.toNat)) (regs (opV (gt (Sh.int IntKind.u32) l ((0 : Nat) + i.toNat)))) (2 : Int)), SV.int IntKind.i64 (numN (gt (Sh.int IntKind.u32) l ((0 : Nat) + i.toNat)) q (kd (opV (gt (Sh.int IntKind.u32) l ((0 : Nat) + i.toNat)))).snd.snd.fst (kd (opV (gt (Sh.int IntKind.u32) l ((0 : Nat) + i.toNat)))).snd.snd.snd.fst (kd (opV (gt (Sh.int IntKind.u32) l ((0 : Nat) + i.toNat)))).snd.snd.snd.snd)]), ((41 : Nat), SV.ptr (12 : Nat) (0 : Nat)), ((42 : Nat), SV.int IntKind.i64 (opV (gt (Sh.int IntKind.u32) l ((0 : Nat) + i.toNat)))), ((43 : Nat), SV.bool (decide ((5 : Int) ≤ opV (gt (Sh.int IntKind.u32) l ((0 : Nat) + i.toNat))))), ((51 : Nat), SV.agg [SV.int IntKind.i64 (opV (gt (Sh.int IntKind.u32) l ((0 : Nat) + i.toNat))), SV.int IntKind.i64 (rg (gt (Sh.int IntKind.u32) l ((0 : Nat) + i.toNat)) (regs (opV (gt (Sh.int IntKind.u32) l ((0 : Nat) + i.toNat)))) (0 : Int)), SV.int IntKind.i64 (rg (gt (Sh.int IntKind.u32) l ((0 : Nat) + i.toNat)) (regs (opV (gt (Sh.int IntKind.u32) l ((0 : Nat) + i.toNat)))) (1 : Int)), SV.int IntKind.i64 (rg (gt (Sh.int IntKind.u32) l ((0 : Nat) + i.toNat)) (regs (opV (gt (Sh.int IntKind.u32) l ((0 : Nat) + i.toNat)))) (2 : Int)), SV.int IntKind.i64 (numN (gt (Sh.int IntKind.u32) l ((0 : Nat) + i.toNat)) p (kd (opV (gt (Sh.int IntKind.u32) l ((0 : Nat) + i.toNat)))).snd.snd.fst (kd (opV (gt (Sh.int IntKind.u32) l ((0 : Nat) + i.toNat)))).snd.snd.snd.fst (kd (opV (gt (Sh.int IntKind.u32) l ((0 : Nat) + i.toNat)))).snd.snd.snd.snd)]), ((52 : Nat), SV.agg [SV.int IntKind.i64 (opV (gt (Sh.int IntKind.u32) l ((0 : Nat) + i.toNat))), SV.int IntKind.i64 (rg (gt (Sh.int IntKind.u32) l ((0 : Nat) + i.toNat)) (regs (opV (gt (Sh.int IntKind.u32) l ((0 : Nat) + i.toNat)))) (0 : Int)), SV.int IntKind.i64 (rg (gt (Sh.int IntKind.u32) l ((0 : Nat) + i.toNat)) (regs (opV (gt (Sh.int IntKind.u32) l ((0 : Nat) + i.toNat)))) (1 : Int)), SV.int IntKind.i64 (rg (gt (Sh.int IntKind.u32) l ((0 : Nat) + i.toNat)) (regs (opV (gt (Sh.int IntKind.u32) l ((0 : Nat) + i.toNat)))) (2 : Int)), SV.int IntKind.i64 (numN (gt (Sh.int IntKind.u32) l ((0 : Nat) + i.toNat)) q (kd (opV (gt (Sh.int IntKind.u32) l ((0 : Nat) + i.toNat)))).snd.snd.fst (kd (opV (gt (Sh.int IntKind.u32) l ((0 : Nat) + i.toNat)))).snd.snd.snd.fst (kd (opV (gt (Sh.int IntKind.u32) l ((0 : Nat) + i.toNat)))).snd.snd.snd.snd)]), ((53 : Nat), SV.bool !decide ([opV (gt (Sh.int IntKind.u32) l ((0 : Nat) + i.toNat)), rg (gt (Sh.int IntKind.u32) l ((0 : Nat) + i.toNat)) (regs (opV (gt (Sh.int IntKind.u32) l ((0 : Nat) + i.toNat)))) (0 : Int), rg (gt (Sh.int IntKind.u32) l ((0 : Nat) + i.toNat)) (regs (opV (gt (Sh.int IntKind.u32) l ((0 : Nat) + i.toNat)))) (1 : Int), rg (gt (Sh.int IntKind.u32) l ((0 : Nat) + i.toNat)) (regs (opV (gt (Sh.int IntKind.u32) l ((0 : Nat) + i.toNat)))) (2 : Int), numN (gt (Sh.int IntKind.u32) l ((0 : Nat) + i.toNat)) p (kd (opV (gt (Sh.int IntKind.u32) l ((0 : Nat) + i.toNat)))).snd.snd.fst (kd (opV (gt (Sh.int IntKind.u32) l ((0 : Nat) + i.toNat)))).snd.snd.snd.fst (kd (opV (gt (Sh.int IntKind.u32) l ((0 : Nat) + i.toNat)))).snd.snd.snd.snd] = [opV (gt (Sh.int IntKind.u32) l ((0 : Nat) + i.toNat)), rg (gt (Sh.int IntKind.u32) l ((0 : Nat) + i.toNat)) (regs (opV (gt (Sh.int IntKind.u32) l ((0 : Nat) + i.toNat)))) (0 : Int), rg (gt (Sh.int IntKind.u32) l ((0 : Nat) + i.toNat)) (regs (opV (gt (Sh.int IntKind.u32) l ((0 : Nat) + i.toNat)))) (1 : Int), rg (gt (Sh.int IntKind.u32) l ((0 : Nat) + i.toNat)) (regs (opV (gt (Sh.int IntKind.u32) l ((0 : Nat) + i.toNat)))) (2 : Int), numN (gt (Sh.int IntKind.u32) l ((0 : Nat) + i.toNat)) q (kd (opV (gt (Sh.int IntKind.u32) l ((0 : Nat) + i.toNat)))).snd.snd.fst (kd (opV (gt (Sh.int IntKind.u32) l ((0 : Nat) + i.toNat)))).snd.snd.snd.fst (kd (opV (gt (Sh.int IntKind.u32) l ((0 : Nat) + i.toNat)))).snd.snd.snd.snd]))], blk := [((12 : Nat), LB.var [SV.int IntKind.i64 (opV (gt (Sh.int IntKind.u32) l ((0 : Nat) + i.toNat))), SV.int IntKind.i64 (rg (gt (Sh.int IntKind.u32) l ((0 : Nat) + i.toNat)) (regs (opV (gt (Sh.int IntKind.u32) l ((0 : Nat) + i.toNat)))) (0 : Int)), SV.int IntKind.i64 (rg (gt (Sh.int IntKind.u32) l ((0 : Nat) + i.toNat)) (regs (opV (gt (Sh.int IntKind.u32) l ((0 : Nat) + i.toNat)))) (1 : Int)), SV.int IntKind.i64 (rg (gt (Sh.int IntKind.u32) l ((0 : Nat) + i.toNat)) (regs (opV (gt (Sh.int IntKind.u32) l ((0 : Nat) + i.toNat)))) (2 : Int)), SV.int IntKind.i64 (numN (gt (Sh.int IntKind.u32) l ((0 : Nat) + i.toNat)) p (kd (opV (gt (Sh.int IntKind.u32) l ((0 : Nat) + i.toNat)))).snd.snd.fst (kd (opV (gt (Sh.int IntKind.u32) l ((0 : Nat) + i.toNat)))).snd.snd.snd.fst (kd (opV (gt (Sh.int IntKind.u32) l ((0 : Nat) + i.toNat)))).snd.snd.snd.snd)]), ((13 : Nat), LB.var [SV.int IntKind.i64 (opV (gt (Sh.int IntKind.u32) l ((0 : Nat) + i.toNat))), SV.int IntKind.i64 (rg (gt (Sh.int IntKind.u32) l ((0 : Nat) + i.toNat)) (regs (opV (gt (Sh.int IntKind.u32) l ((0 : Nat) + i.toNat)))) (0 : Int)), SV.int IntKind.i64 (rg (gt (Sh.int IntKind.u32) l ((0 : Nat) + i.toNat)) (regs (opV (gt (Sh.int IntKind.u32) l ((0 : Nat) + i.toNat)))) (1 : Int)), SV.int IntKind.i64 (rg (gt (Sh.int IntKind.u32) l ((0 : Nat) + i.toNat)) (regs (opV (gt (Sh.int IntKind.u32) l ((0 : Nat) + i.toNat)))) (2 : Int)), SV.int IntKind.i64 (numN (gt (Sh.int IntKind.u32) l ((0 : Nat) + i.toNat)) q (kd (opV (gt (Sh.int IntKind.u32) l ((0 : Nat) + i.toNat)))).snd.snd.fst (kd (opV (gt (Sh.int IntKind.u32) l ((0 : Nat) + i.toNat)))).snd.snd.snd.fst (kd (opV (gt (Sh.int IntKind.u32) l ((0 : Nat) + i.toNat)))).snd.snd.snd.snd)]), ((24 : Nat), LB.row (22 : Nat) (Sh.int IntKind.u32) l)] }))) (Q [SV.bool true] [((24 : Nat), LB.row (22 : Nat) (Sh.int IntKind.u32) l)])) := by kernel_rfl
end
end Go.Proofs.YtjihaaibammbnaaDoor
namespace Go.Proofs.YtjihaaibammbnaaDoor
open Go.Px Go.Ax
def digT : Nat → Int → List Int
  | 0, _ => []
  | m + 1, n => (if 10 ≤ n then digT m (n / 10) else []) ++ [48 + n % 10]
def preDig (m : Nat) (n : Int) (L : Nat) : Prop := 0 ≤ n ∧ n < 10 ^ m ∧ 1 ≤ m ∧ m < 19 ∧ L + m < 536870912
def ctDig (m : Nat) : CtrI := ⟨[.row 5 (.int .u8), .dat (.int .i64)], fun x => preDig m x.2.1 (List.length x.1), fun x => [.win true (.int .u8) 0 0 (List.length (x.1 ++ digT m x.2.1))], fun x => [(0, .row 5 (.int .u8) (x.1 ++ digT m x.2.1))]⟩
def CD (m : Nat) : CV := [(27, .inr (ctDig m))]
set_option maxRecDepth 100000
theorem vc_app (m : Nat) (l : List Int) (n : Int) (Q : List SV → List (Nat × LB) → Prop) (R : List Item → PS → Prop) : sy tt G0 (CD m) Tryd.f27.ntmps Tryd.f27.results.toList Q R 1000 [.code (bodyOf Tryd.f27)] (entryI [.row 5 (.int .u8), .dat (.int .i64)] (l, n, ())) =
    (bc (decide (n < (0 : Int))) ((0 : Nat) + (1 : Nat) ≤ ((List.replicate (1 : Nat) (Sh.int IntKind.u8).dflt).set (0 : Nat) (45 : Int)).length ∧
 l.length = l.length ∧
 (0 : Nat) = (0 : Nat) ∧
 l.length + (winL ((fun self => self.6) (mkT (1 : Nat) (1 : Nat) false (TK.int IntKind.u8) (Sh.int IntKind.u8) none)) (0 : Nat) (1 : Nat) ((List.replicate (1 : Nat) (Sh.int IntKind.u8).dflt).set (0 : Nat) (45 : Int))).length < (2 : Nat) ^ (30 : Nat) ∧
 (1 : Nat) ≤ (2 : Nat) ^ (10 : Nat) ∧
 bc (decide ((10 : Int) ≤ IntKind.i64.wrap ((0 : Int) - n))) ((10 : Int) ≠ (0 : Int) ∧
 l.length + (winL ((fun self => self.6) (mkT (1 : Nat) (1 : Nat) false (TK.int IntKind.u8) (Sh.int IntKind.u8) none)) (0 : Nat) (1 : Nat) ((List.replicate (1 : Nat) (Sh.int IntKind.u8).dflt).set (0 : Nat) (45 : Int))).length = (l ++ winL (Sh.int IntKind.u8) (0 : Nat) (1 : Nat) ((List.replicate (1 : Nat) (Sh.int IntKind.u8).dflt).set (0 : Nat) (45 : Int))).length ∧
 (ctDig m).pre (l ++ winL (Sh.int IntKind.u8) (0 : Nat) (1 : Nat) ((List.replicate (1 : Nat) (Sh.int IntKind.u8).dflt).set (0 : Nat) (45 : Int)), IntKind.i64.wrap ((IntKind.i64.wrap ((0 : Int) - n)).tdiv (10 : Int)), ()) ∧
 (10 : Int) ≠ (0 : Int) ∧
 (0 : Nat) + (1 : Nat) ≤ ((List.replicate (1 : Nat) (Sh.int IntKind.u8).dflt).set (0 : Nat) (IntKind.u8.wrap (IntKind.i64.wrap ((48 : Int) + (IntKind.i64.wrap ((0 : Int) - n)).tmod (10 : Int))))).length ∧
 List.length (l ++ winL (Sh.int IntKind.u8) (0 : Nat) (1 : Nat) ((List.replicate (1 : Nat) (Sh.int IntKind.u8).dflt).set (0 : Nat) (45 : Int)) ++ digT m (IntKind.i64.wrap ((IntKind.i64.wrap ((0 : Int) - n)).tdiv (10 : Int)))) = List.length (l ++ winL (Sh.int IntKind.u8) (0 : Nat) (1 : Nat) ((List.replicate (1 : Nat) (Sh.int IntKind.u8).dflt).set (0 : Nat) (45 : Int)) ++ digT m (IntKind.i64.wrap ((IntKind.i64.wrap ((0 : Int) - n)).tdiv (10 : Int)))) ∧
 (0 : Nat) = (0 : Nat) ∧
 List.length (l ++ winL (Sh.int IntKind.u8) (0 : Nat) (1 : Nat) ((List.replicate (1 : Nat) (Sh.int IntKind.u8).dflt).set (0 : Nat) (45 : Int)) ++ digT m (IntKind.i64.wrap ((IntKind.i64.wrap ((0 : Int) - n)).tdiv (10 : Int)))) + (winL ((fun self => self.6) (mkT (1 : Nat) (1 : Nat) false (TK.int IntKind.u8) (Sh.int IntKind.u8) none)) (0 : Nat) (1 : Nat) ((List.replicate (1 : Nat) (Sh.int IntKind.u8).dflt).set (0 : Nat) (IntKind.u8.wrap (IntKind.i64.wrap ((48 : Int) + (IntKind.i64.wrap ((0 : Int) - n)).tmod (10 : Int)))))).length < (2 : Nat) ^ (30 : Nat) ∧
 (1 : Nat) ≤ (2 : Nat) ^ (10 : Nat) ∧
 Q [SV.win true (Sh.int IntKind.u8) (24 : Nat) (0 : Nat) (List.length (l ++ winL (Sh.int IntKind.u8) (0 : Nat) (1 : Nat) ((List.replicate (1 : Nat) (Sh.int IntKind.u8).dflt).set (0 : Nat) (45 : Int)) ++ digT m (IntKind.i64.wrap ((IntKind.i64.wrap ((0 : Int) - n)).tdiv (10 : Int)))) + (winL ((fun self => self.6) (mkT (1 : Nat) (1 : Nat) false (TK.int IntKind.u8) (Sh.int IntKind.u8) none)) (0 : Nat) (1 : Nat) ((List.replicate (1 : Nat) (Sh.int IntKind.u8).dflt).set (0 : Nat) (IntKind.u8.wrap (IntKind.i64.wrap ((48 : Int) + (IntKind.i64.wrap ((0 : Int) - n)).tmod (10 : Int)))))).length)] [((8 : Nat), LB.row (5 : Nat) (Sh.int IntKind.u8) ((List.replicate (1 : Nat) (Sh.int IntKind.u8).dflt).set (0 : Nat) (45 : Int))), ((23 : Nat), LB.row (5 : Nat) (Sh.int IntKind.u8) ((List.replicate (1 : Nat) (Sh.int IntKind.u8).dflt).set (0 : Nat) (IntKind.u8.wrap (IntKind.i64.wrap ((48 : Int) + (IntKind.i64.wrap ((0 : Int) - n)).tmod (10 : Int)))))), ((24 : Nat), LB.row (5 : Nat) (Sh.int IntKind.u8) (l ++ winL (Sh.int IntKind.u8) (0 : Nat) (1 : Nat) ((List.replicate (1 : Nat) (Sh.int IntKind.u8).dflt).set (0 : Nat) (45 : Int)) ++ digT m (IntKind.i64.wrap ((IntKind.i64.wrap ((0 : Int) - n)).tdiv (10 : Int))) ++ winL (Sh.int IntKind.u8) (0 : Nat) (1 : Nat) ((List.replicate (1 : Nat) (Sh.int IntKind.u8).dflt).set (0 : Nat) (IntKind.u8.wrap (IntKind.i64.wrap ((48 : Int) + (IntKind.i64.wrap ((0 : Int) - n)).tmod (10 : Int)))))))]) ((10 : Int) ≠ (0 : Int) ∧
 (0 : Nat) + (1 : Nat) ≤ ((List.replicate (1 : Nat) (Sh.int IntKind.u8).dflt).set (0 : Nat) (IntKind.u8.wrap (IntKind.i64.wrap ((48 : Int) + (IntKind.i64.wrap ((0 : Int) - n)).tmod (10 : Int))))).length ∧
 l.length + (winL ((fun self => self.6) (mkT (1 : Nat) (1 : Nat) false (TK.int IntKind.u8) (Sh.int IntKind.u8) none)) (0 : Nat) (1 : Nat) ((List.replicate (1 : Nat) (Sh.int IntKind.u8).dflt).set (0 : Nat) (45 : Int))).length = (l ++ winL (Sh.int IntKind.u8) (0 : Nat) (1 : Nat) ((List.replicate (1 : Nat) (Sh.int IntKind.u8).dflt).set (0 : Nat) (45 : Int))).length ∧
 (0 : Nat) = (0 : Nat) ∧
 l.length + (winL ((fun self => self.6) (mkT (1 : Nat) (1 : Nat) false (TK.int IntKind.u8) (Sh.int IntKind.u8) none)) (0 : Nat) (1 : Nat) ((List.replicate (1 : Nat) (Sh.int IntKind.u8).dflt).set (0 : Nat) (45 : Int))).length + (winL ((fun self => self.6) (mkT (1 : Nat) (1 : Nat) false (TK.int IntKind.u8) (Sh.int IntKind.u8) none)) (0 : Nat) (1 : Nat) ((List.replicate (1 : Nat) (Sh.int IntKind.u8).dflt).set (0 : Nat) (IntKind.u8.wrap (IntKind.i64.wrap ((48 : Int) + (IntKind.i64.wrap ((0 : Int) - n)).tmod (10 : Int)))))).length < (2 : Nat) ^ (30 : Nat) ∧
 (1 : Nat) ≤ (2 : Nat) ^ (10 : Nat) ∧
 Q [SV.win true (Sh.int IntKind.u8) (24 : Nat) (0 : Nat) (l.length + (winL ((fun self => self.6) (mkT (1 : Nat) (1 : Nat) false (TK.int IntKind.u8) (Sh.int IntKind.u8) none)) (0 : Nat) (1 : Nat) ((List.replicate (1 : Nat) (Sh.int IntKind.u8).dflt).set (0 : Nat) (45 : Int))).length + (winL ((fun self => self.6) (mkT (1 : Nat) (1 : Nat) false (TK.int IntKind.u8) (Sh.int IntKind.u8) none)) (0 : Nat) (1 : Nat) ((List.replicate (1 : Nat) (Sh.int IntKind.u8).dflt).set (0 : Nat) (IntKind.u8.wrap (IntKind.i64.wrap ((48 : Int) + (IntKind.i64.wrap ((0 : Int) - n)).tmod (10 : Int)))))).length)] [((8 : Nat), LB.row (5 : Nat) (Sh.int IntKind.u8) ((List.replicate (1 : Nat) (Sh.int IntKind.u8).dflt).set (0 : Nat) (45 : Int))), ((23 : Nat), LB.row (5 : Nat) (Sh.int IntKind.u8) ((List.replicate (1 : Nat) (Sh.int IntKind.u8).dflt).set (0 : Nat) (IntKind.u8.wrap (IntKind.i64.wrap ((48 : Int) + (IntKind.i64.wrap ((0 : Int) - n)).tmod (10 : Int)))))), ((24 : Nat), LB.row (5 : Nat) (Sh.int IntKind.u8) (l ++ winL (Sh.int IntKind.u8) (0 : Nat) (1 : Nat) ((List.replicate (1 : Nat) (Sh.int IntKind.u8).dflt).set (0 : Nat) (45 : Int)) ++ winL (Sh.int IntKind.u8) (0 : Nat) (1 : Nat) ((List.replicate (1 : Nat) (Sh.int IntKind.u8).dflt).set (0 : Nat) (IntKind.u8.wrap (IntKind.i64.wrap ((48 : Int) + (IntKind.i64.wrap ((0 : Int) - n)).tmod (10 : Int)))))))])) (bc (decide ((10 : Int) ≤ n)) ((10 : Int) ≠ (0 : Int) ∧
 l.length = l.length ∧
 (ctDig m).pre (l, IntKind.i64.wrap (n.tdiv (10 : Int)), ()) ∧
 (10 : Int) ≠ (0 : Int) ∧
 (0 : Nat) + (1 : Nat) ≤ ((List.replicate (1 : Nat) (Sh.int IntKind.u8).dflt).set (0 : Nat) (IntKind.u8.wrap (IntKind.i64.wrap ((48 : Int) + n.tmod (10 : Int))))).length ∧
 List.length (l ++ digT m (IntKind.i64.wrap (n.tdiv (10 : Int)))) = List.length (l ++ digT m (IntKind.i64.wrap (n.tdiv (10 : Int)))) ∧
 (0 : Nat) = (0 : Nat) ∧
 List.length (l ++ digT m (IntKind.i64.wrap (n.tdiv (10 : Int)))) + (winL ((fun self => self.6) (mkT (1 : Nat) (1 : Nat) false (TK.int IntKind.u8) (Sh.int IntKind.u8) none)) (0 : Nat) (1 : Nat) ((List.replicate (1 : Nat) (Sh.int IntKind.u8).dflt).set (0 : Nat) (IntKind.u8.wrap (IntKind.i64.wrap ((48 : Int) + n.tmod (10 : Int)))))).length < (2 : Nat) ^ (30 : Nat) ∧
 (1 : Nat) ≤ (2 : Nat) ^ (10 : Nat) ∧
 Q [SV.win true (Sh.int IntKind.u8) (24 : Nat) (0 : Nat) (List.length (l ++ digT m (IntKind.i64.wrap (n.tdiv (10 : Int)))) + (winL ((fun self => self.6) (mkT (1 : Nat) (1 : Nat) false (TK.int IntKind.u8) (Sh.int IntKind.u8) none)) (0 : Nat) (1 : Nat) ((List.replicate (1 : Nat) (Sh.int IntKind.u8).dflt).set (0 : Nat) (IntKind.u8.wrap (IntKind.i64.wrap ((48 : Int) + n.tmod (10 : Int)))))).length)] [((23 : Nat), LB.row (5 : Nat) (Sh.int IntKind.u8) ((List.replicate (1 : Nat) (Sh.int IntKind.u8).dflt).set (0 : Nat) (IntKind.u8.wrap (IntKind.i64.wrap ((48 : Int) + n.tmod (10 : Int)))))), ((24 : Nat), LB.row (5 : Nat) (Sh.int IntKind.u8) (l ++ digT m (IntKind.i64.wrap (n.tdiv (10 : Int))) ++ winL (Sh.int IntKind.u8) (0 : Nat) (1 : Nat) ((List.replicate (1 : Nat) (Sh.int IntKind.u8).dflt).set (0 : Nat) (IntKind.u8.wrap (IntKind.i64.wrap ((48 : Int) + n.tmod (10 : Int)))))))]) ((10 : Int) ≠ (0 : Int) ∧
 (0 : Nat) + (1 : Nat) ≤ ((List.replicate (1 : Nat) (Sh.int IntKind.u8).dflt).set (0 : Nat) (IntKind.u8.wrap (IntKind.i64.wrap ((48 : Int) + n.tmod (10 : Int))))).length ∧
 l.length = l.length ∧
 (0 : Nat) = (0 : Nat) ∧
 l.length + (winL ((fun self => self.6) (mkT (1 : Nat) (1 : Nat) false (TK.int IntKind.u8) (Sh.int IntKind.u8) none)) (0 : Nat) (1 : Nat) ((List.replicate (1 : Nat) (Sh.int IntKind.u8).dflt).set (0 : Nat) (IntKind.u8.wrap (IntKind.i64.wrap ((48 : Int) + n.tmod (10 : Int)))))).length < (2 : Nat) ^ (30 : Nat) ∧
 (1 : Nat) ≤ (2 : Nat) ^ (10 : Nat) ∧
 Q [SV.win true (Sh.int IntKind.u8) (24 : Nat) (0 : Nat) (l.length + (winL ((fun self => self.6) (mkT (1 : Nat) (1 : Nat) false (TK.int IntKind.u8) (Sh.int IntKind.u8) none)) (0 : Nat) (1 : Nat) ((List.replicate (1 : Nat) (Sh.int IntKind.u8).dflt).set (0 : Nat) (IntKind.u8.wrap (IntKind.i64.wrap ((48 : Int) + n.tmod (10 : Int)))))).length)] [((23 : Nat), LB.row (5 : Nat) (Sh.int IntKind.u8) ((List.replicate (1 : Nat) (Sh.int IntKind.u8).dflt).set (0 : Nat) (IntKind.u8.wrap (IntKind.i64.wrap ((48 : Int) + n.tmod (10 : Int)))))), ((24 : Nat), LB.row (5 : Nat) (Sh.int IntKind.u8) (l ++ winL (Sh.int IntKind.u8) (0 : Nat) (1 : Nat) ((List.replicate (1 : Nat) (Sh.int IntKind.u8).dflt).set (0 : Nat) (IntKind.u8.wrap (IntKind.i64.wrap ((48 : Int) + n.tmod (10 : Int)))))))]))) := by kernel_rfl
end Go.Proofs.YtjihaaibammbnaaDoor
namespace Go.Proofs.YtjihaaibammbnaaDoor
open Go.Px Go.Ax
theorem QI.row {ct : CtrI} {x : DI ct.args} {rs : List SV} {blk : List (Nat × LB)} {e : Sh} {et : TypeId} {a k : Nat} {xs : List e.D} (h : ct.out x = [.win true e 0 0 xs.length]) (hr : ct.blk x = [(0, .row et e xs)]) (hs : rs = [.win true e a 0 k]) (hk : k = xs.length) (hb : lk blk a = some (.row et e xs)) (ha : a < BIG) : QI ct x rs blk := by
  subst hs; subst hk
  refine ⟨[(0, a)], ?_, ?_, by simp, fun p hp => by simp at hp; subst hp; exact ha⟩
  · rw [h]
    exact ⟨_, _, rfl, .inl ⟨true, a, rfl, rfl, fun h => h⟩, rfl⟩
  · rw [hr]
    exact ⟨.inl ⟨a, _, rfl, hb, rfl⟩, trivial⟩
theorem digT_len (m : Nat) (n : Int) : (digT m n).length ≤ m := by
  induction m generalizing n with
  | zero => simp [digT]
  | succ m ih =>
    have := ih (n / 10)
    simp only [digT, List.length_append, List.length_cons, List.length_nil]
    split
    · omega
    · simp
theorem dig_run (m : Nat) (hh : HeldI Tryd.prog G0 27 (ctDig m)) (l : List Int) (n : Int) (hp : preDig (m + 1) n l.length) (R : List Item → PS → Prop) :
    sy tt G0 (CD m) Tryd.f27.ntmps Tryd.f27.results.toList (QI (ctDig (m + 1)) (l, n, ())) R 1000 [.code (bodyOf Tryd.f27)] (entryI [.row 5 (.int .u8), .dat (.int .i64)] (l, n, ())) := by
  obtain ⟨h0, h1, _, h3, h4⟩ := hp
  have hpow : (10 : Int) ^ (m + 1) = 10 ^ m * 10 := Int.pow_succ 10 m
  have hbig : n < 1000000000000000000 := by
    have : (10 : Int) ^ (m + 1) ≤ 10 ^ 18 := by
      have := Nat.pow_le_pow_right (n := 10) (by omega) (show m + 1 ≤ 18 by omega)
      exact_mod_cast this
    have e : (10 : Int) ^ 18 = 1000000000000000000 := by decide
    omega
  refine (vc_app m l n _ _).mpr ?_
  have e1 : IntKind.i64.wrap (n.tdiv 10) = n / 10 := by rw [Int.tdiv_eq_ediv_of_nonneg h0]; exact IntWalk.i64_in _ (by omega)
  have e2 : IntKind.u8.wrap (IntKind.i64.wrap (48 + n.tmod 10)) = 48 + n % 10 := by
    rw [Int.tmod_eq_emod_of_nonneg h0, IntWalk.i64_in _ (by omega)]
    exact IntWalk.u8_in _ (by omega)
  rw [show decide (n < 0) = false from decide_eq_false (by omega), bc_f, e1, e2]
  refine bc_of (fun h => ?_) (fun h => ?_)
  · have h10 := of_decide_eq_true h
    have hm : 1 ≤ m := by
      rcases m with _ | m
      · simp at h1; omega
      · omega
    have hd := digT_len m (n / 10)
    have hpre : preDig m (n / 10) l.length := ⟨by omega, by omega, hm, by omega, by omega⟩
    refine ⟨by decide, rfl, hpre, by decide, Nat.le_refl 1, rfl, rfl, ?_, by decide, ?_⟩
    · show List.length (l ++ digT m (n / 10)) + 1 < 2 ^ 30
      rw [List.length_append]; omega
    · refine QI.row (e := .int .u8) (et := 5) (a := 24) (xs := l ++ digT m (n / 10) ++ [48 + n % 10]) ?_ ?_ rfl ?_ rfl (by decide)
      · simp only [ctDig, digT, if_pos h10, List.append_assoc]
      · simp only [ctDig, digT, if_pos h10, List.append_assoc]
      · show List.length (l ++ digT m (n / 10)) + 1 = _
        first | (simp only [List.length_append, List.length_cons, List.length_nil]; done) | (simp only [List.length_append, List.length_cons, List.length_nil]; omega)
  · have h10 := of_decide_eq_false h
    refine ⟨by decide, Nat.le_refl 1, rfl, rfl, ?_, by decide, ?_⟩
    · show l.length + 1 < 2 ^ 30
      omega
    · refine QI.row (e := .int .u8) (et := 5) (xs := l ++ [48 + n % 10]) ?_ ?_ rfl ?_ rfl (by decide)
      · simp only [ctDig, digT, if_neg h10, List.nil_append]
      · simp only [ctDig, digT, if_neg h10, List.nil_append]
      · show l.length + 1 = _
        first | (simp only [List.length_append, List.length_cons, List.length_nil]; done) | (simp only [List.length_append, List.length_cons, List.length_nil]; omega)
theorem dig_held : ∀ m, HeldI Tryd.prog G0 27 (ctDig m)
  | 0 => fun x hp => absurd (show preDig 0 x.2.1 (List.length x.1) from hp).2.2.1 (by omega)
  | m + 1 => HeldI.run (cx0.consI (dig_held m) (fn := Tryd.f27) rfl rfl rfl) (fn := Tryd.f27) rfl rfl ⟨(by decide : 2 ≤ Tryd.f27.ntmps), (by decide : 2 < 1000)⟩ fun x hp => dig_run m (dig_held m) x.1 x.2.1 hp _
end Go.Proofs.YtjihaaibammbnaaDoor
namespace Go.Proofs.YtjihaaibammbnaaDoor
open Go.Px Go.Ax
set_option maxRecDepth 100000
theorem vc_near (n : Int) (Q : List SV → List (Nat × LB) → Prop) (R : List Item → PS → Prop) : sy tt G0 [] Tryd.f26.ntmps Tryd.f26.results.toList Q R 1000 [.code (bodyOf Tryd.f26)] (entry [.int .i64] (n, ())) =
    ((4 : Int) ≠ (0 : Int) ∧
 Q [SV.int IntKind.i64 (IntKind.i64.wrap (min (max n (0 : Int)) (65536 : Int) - (min (max n (0 : Int)) (65536 : Int)).tmod (4 : Int)))] []) := by kernel_rfl
theorem vc_asm (o a b c n t : Int) (Q : List SV → List (Nat × LB) → Prop) (R : List Item → PS → Prop) : sy tt G0 C4 Tryd.f25.ntmps Tryd.f25.results.toList Q R 1000 [.code (bodyOf Tryd.f25)] (entry [.pair (.int .i64) (.pair (.int .i64) (.pair (.int .i64) (.pair (.int .i64) (.int .i64)))), .int .i64] ((o, a, b, c, n), t, ())) =
    ((0 : Int) ≤ o ∧
 o < (↑(9 : Nat) : Int) ∧
 bc (gt (Sh.str.pair ((Sh.int IntKind.i64).pair ((Sh.int IntKind.i64).pair (Sh.bool.pair Sh.bool)))) kindsL o.toNat).snd.snd.snd.snd ((4 : Int) ≠ (0 : Int) ∧
 ctLow.pre (IntKind.u32.wrap (IntKind.i64.wrap ((IntKind.i64.wrap (n - t)).tdiv (4 : Int))), (gt (Sh.str.pair ((Sh.int IntKind.i64).pair ((Sh.int IntKind.i64).pair (Sh.bool.pair Sh.bool)))) kindsL o.toNat).snd.snd.fst, ()) ∧
 (0 : Int) ≤ (24 : Int) ∧
 (0 : Int) ≤ (16 : Int) ∧
 (0 : Int) ≤ (8 : Int) ∧
 Q [SV.int IntKind.u32 (bitI BinOp.or IntKind.u32 (bitI BinOp.or IntKind.u32 (bitI BinOp.or IntKind.u32 (bitI BinOp.or IntKind.u32 (IntKind.u32.wrap (lowV (IntKind.u32.wrap (IntKind.i64.wrap ((IntKind.i64.wrap (n - t)).tdiv (4 : Int)))) (gt (Sh.str.pair ((Sh.int IntKind.i64).pair ((Sh.int IntKind.i64).pair (Sh.bool.pair Sh.bool)))) kindsL o.toNat).snd.snd.fst)) (IntKind.u32.wrap (IntKind.u32.wrap o * (2 : Int) ^ min (Int.toNat (24 : Int)) IntKind.u32.bits))) (IntKind.u32.wrap (IntKind.u32.wrap (IntKind.u8.wrap a) * (2 : Int) ^ min (Int.toNat (16 : Int)) IntKind.u32.bits))) (IntKind.u32.wrap (IntKind.u32.wrap (IntKind.u8.wrap b) * (2 : Int) ^ min (Int.toNat (8 : Int)) IntKind.u32.bits))) (IntKind.u32.wrap (IntKind.u8.wrap c)))] [((2 : Nat), LB.var [SV.int IntKind.i64 o, SV.int IntKind.i64 a, SV.int IntKind.i64 b, SV.int IntKind.i64 c, SV.int IntKind.i64 n]), ((5 : Nat), LB.var [SV.str (gt (Sh.str.pair ((Sh.int IntKind.i64).pair ((Sh.int IntKind.i64).pair (Sh.bool.pair Sh.bool)))) kindsL o.toNat).fst, SV.int IntKind.i64 (gt (Sh.str.pair ((Sh.int IntKind.i64).pair ((Sh.int IntKind.i64).pair (Sh.bool.pair Sh.bool)))) kindsL o.toNat).snd.fst, SV.int IntKind.i64 (gt (Sh.str.pair ((Sh.int IntKind.i64).pair ((Sh.int IntKind.i64).pair (Sh.bool.pair Sh.bool)))) kindsL o.toNat).snd.snd.fst, SV.bool (gt (Sh.str.pair ((Sh.int IntKind.i64).pair ((Sh.int IntKind.i64).pair (Sh.bool.pair Sh.bool)))) kindsL o.toNat).snd.snd.snd.fst, SV.bool (gt (Sh.str.pair ((Sh.int IntKind.i64).pair ((Sh.int IntKind.i64).pair (Sh.bool.pair Sh.bool)))) kindsL o.toNat).snd.snd.snd.snd])]) (ctLow.pre (IntKind.u32.wrap n, (gt (Sh.str.pair ((Sh.int IntKind.i64).pair ((Sh.int IntKind.i64).pair (Sh.bool.pair Sh.bool)))) kindsL o.toNat).snd.snd.fst, ()) ∧
 (0 : Int) ≤ (24 : Int) ∧
 (0 : Int) ≤ (16 : Int) ∧
 (0 : Int) ≤ (8 : Int) ∧
 Q [SV.int IntKind.u32 (bitI BinOp.or IntKind.u32 (bitI BinOp.or IntKind.u32 (bitI BinOp.or IntKind.u32 (bitI BinOp.or IntKind.u32 (IntKind.u32.wrap (lowV (IntKind.u32.wrap n) (gt (Sh.str.pair ((Sh.int IntKind.i64).pair ((Sh.int IntKind.i64).pair (Sh.bool.pair Sh.bool)))) kindsL o.toNat).snd.snd.fst)) (IntKind.u32.wrap (IntKind.u32.wrap o * (2 : Int) ^ min (Int.toNat (24 : Int)) IntKind.u32.bits))) (IntKind.u32.wrap (IntKind.u32.wrap (IntKind.u8.wrap a) * (2 : Int) ^ min (Int.toNat (16 : Int)) IntKind.u32.bits))) (IntKind.u32.wrap (IntKind.u32.wrap (IntKind.u8.wrap b) * (2 : Int) ^ min (Int.toNat (8 : Int)) IntKind.u32.bits))) (IntKind.u32.wrap (IntKind.u8.wrap c)))] [((2 : Nat), LB.var [SV.int IntKind.i64 o, SV.int IntKind.i64 a, SV.int IntKind.i64 b, SV.int IntKind.i64 c, SV.int IntKind.i64 n]), ((5 : Nat), LB.var [SV.str (gt (Sh.str.pair ((Sh.int IntKind.i64).pair ((Sh.int IntKind.i64).pair (Sh.bool.pair Sh.bool)))) kindsL o.toNat).fst, SV.int IntKind.i64 (gt (Sh.str.pair ((Sh.int IntKind.i64).pair ((Sh.int IntKind.i64).pair (Sh.bool.pair Sh.bool)))) kindsL o.toNat).snd.fst, SV.int IntKind.i64 (gt (Sh.str.pair ((Sh.int IntKind.i64).pair ((Sh.int IntKind.i64).pair (Sh.bool.pair Sh.bool)))) kindsL o.toNat).snd.snd.fst, SV.bool (gt (Sh.str.pair ((Sh.int IntKind.i64).pair ((Sh.int IntKind.i64).pair (Sh.bool.pair Sh.bool)))) kindsL o.toNat).snd.snd.snd.fst, SV.bool (gt (Sh.str.pair ((Sh.int IntKind.i64).pair ((Sh.int IntKind.i64).pair (Sh.bool.pair Sh.bool)))) kindsL o.toNat).snd.snd.snd.snd])])) := by kernel_rfl
end Go.Proofs.YtjihaaibammbnaaDoor
namespace Go.Proofs.YtjihaaibammbnaaDoor
open Go.Px Go.Ax
def clip (n : Int) : Int := min (max n 0) 65536
def nearV (n : Int) : Int := clip n - clip n % 4
def pre64 (n : Int) : Prop := -9223372036854775808 ≤ n ∧ n ≤ 9223372036854775807
def ctNear : Ctr := ⟨[.int .i64], fun _ => True, fun x => [.int .i64 (nearV x.1)], fun _ => []⟩
theorem clip_range (n : Int) : 0 ≤ clip n ∧ clip n ≤ 65536 := by unfold clip; omega
theorem near_run (n : Int) (R : List Item → PS → Prop) : sy tt G0 [] Tryd.f26.ntmps Tryd.f26.results.toList (QC ctNear (n, ())) R 1000 [.code (bodyOf Tryd.f26)] (entry [.int .i64] (n, ())) := by
  refine (vc_near n _ _).mpr ⟨by decide, ?_⟩
  have h := clip_range n
  rw [show min (max n 0) 65536 = clip n from rfl, Int.tmod_eq_emod_of_nonneg h.1, IntWalk.i64_in _ (by omega)]
  exact QC.flat rfl rfl rfl
theorem near_held : Held Tryd.prog G0 26 ctNear :=
  Held.run cx0 (fn := Tryd.f26) rfl rfl ⟨by decide, by decide⟩ fun x _ => near_run x.1 _
/-- The number that stands in a word. -/
def numW (o n t : Int) : Int := if (kd o).2.2.2.2 then (n - t).tdiv 4 else n
def asmV (o a b c n t : Int) : Int :=
  bitI .or .u32 (bitI .or .u32 (bitI .or .u32 (bitI .or .u32 (IntKind.u32.wrap (lowV (IntKind.u32.wrap (numW o n t)) (kd o).2.2.1)) (IntKind.u32.wrap (IntKind.u32.wrap o * 2 ^ min (Int.toNat 24) IntKind.u32.bits)))
    (IntKind.u32.wrap (IntKind.u32.wrap (IntKind.u8.wrap a) * 2 ^ min (Int.toNat 16) IntKind.u32.bits))) (IntKind.u32.wrap (IntKind.u32.wrap (IntKind.u8.wrap b) * 2 ^ min (Int.toNat 8) IntKind.u32.bits))) (IntKind.u32.wrap (IntKind.u8.wrap c))
def i5 : Sh := .pair (.int .i64) (.pair (.int .i64) (.pair (.int .i64) (.pair (.int .i64) (.int .i64))))
def preAsm (o n t : Int) : Prop := (0 ≤ o ∧ o < 9) ∧ (-4611686018427387904 ≤ n ∧ n ≤ 4611686018427387904) ∧ 0 ≤ t ∧ t ≤ 65540
abbrev ctAsm : Ctr := ⟨[.pair (.int .i64) (.pair (.int .i64) (.pair (.int .i64) (.pair (.int .i64) (.int .i64)))), .int .i64], fun x => preAsm x.1.1 x.1.2.2.2.2 x.2.1, fun x => [.int .u32 (asmV x.1.1 x.1.2.1 x.1.2.2.1 x.1.2.2.2.1 x.1.2.2.2.2 x.2.1)], fun _ => []⟩
theorem asm_run (o a b c n t : Int) (h : preAsm o n t) (R : List Item → PS → Prop) : sy tt G0 C4 Tryd.f25.ntmps Tryd.f25.results.toList (QC ctAsm ((o, a, b, c, n), t, ())) R 1000 [.code (bodyOf Tryd.f25)] (entry [.pair (.int .i64) (.pair (.int .i64) (.pair (.int .i64) (.pair (.int .i64) (.int .i64)))), .int .i64] ((o, a, b, c, n), t, ())) := by
  obtain ⟨ho, hn, ht⟩ := h
  have hb := kd_bits o ho.1 ho.2
  have hq : -4611686018427453445 ≤ (n - t).tdiv 4 ∧ (n - t).tdiv 4 ≤ 4611686018427453445 := by
    rcases Int.le_total 0 (n - t) with h | h
    · rw [Int.tdiv_eq_ediv_of_nonneg h]; omega
    · rw [show n - t = -(t - n) by omega, Int.neg_tdiv, Int.tdiv_eq_ediv_of_nonneg (by omega)]; omega
  have hw : ∀ z : Int, 0 ≤ IntKind.u32.wrap z ∧ IntKind.u32.wrap z < 4294967296 := fun z => by rw [IntKind.wrap_u32]; omega
  refine (vc_asm o a b c n t _ _).mpr ⟨ho.1, ho.2, ?_⟩
  rw [IntWalk.i64_in (n - t) (by omega), IntWalk.i64_in ((n - t).tdiv 4) (by omega)]
  refine bc_of (fun hk => ?_) (fun hk => ?_)
  · refine ⟨by decide, ⟨hw _, hb⟩, by decide, by decide, by decide, QC.flat ?_ rfl rfl⟩
    have e : numW o n t = (n - t).tdiv 4 := if_pos hk
    simp only [asmV, e]
    rfl
  · refine ⟨⟨hw _, hb⟩, by decide, by decide, by decide, QC.flat ?_ rfl rfl⟩
    have hk' : (kd o).2.2.2.2 = false := hk
    have e : numW o n t = n := if_neg (by rw [hk']; decide)
    simp only [asmV, e]
    rfl
theorem asm_held : Held Tryd.prog G0 25 ctAsm :=
  Held.run cx4 (fn := Tryd.f25) rfl rfl ⟨by decide, by decide⟩ fun x hp => asm_run x.1.1 x.1.2.1 x.1.2.2.1 x.1.2.2.2.1 x.1.2.2.2.2 x.2.1 hp _
end Go.Proofs.YtjihaaibammbnaaDoor
namespace Go.Proofs.YtjihaaibammbnaaDoor
open Go.Px Go.Ax
def C7 : CV := (26, .inl ctNear) :: (25, .inl ctAsm) :: C4
set_option maxRecDepth 100000
theorem vc_enc (o a b c n t : Int) (Q : List SV → List (Nat × LB) → Prop) (R : List Item → PS → Prop) : sy tt G0 C7 Tryd.f14.ntmps Tryd.f14.results.toList Q R 1000 [.code (bodyOf Tryd.f14)] (entry [.pair (.int .i64) (.pair (.int .i64) (.pair (.int .i64) (.pair (.int .i64) (.int .i64)))), .int .i64] ((o, a, b, c, n), t, ())) =
    (bc (decide (o < (0 : Int))) (true = true ∧
 Q [SV.int IntKind.u32 (0 : Int), SV.int IntKind.i64 (20 : Int)] [((2 : Nat), LB.var [SV.int IntKind.i64 o, SV.int IntKind.i64 a, SV.int IntKind.i64 b, SV.int IntKind.i64 c, SV.int IntKind.i64 n])]) (bc (bif false then true else decide ((9 : Int) ≤ o)) (Q [SV.int IntKind.u32 (0 : Int), SV.int IntKind.i64 (20 : Int)] [((2 : Nat), LB.var [SV.int IntKind.i64 o, SV.int IntKind.i64 a, SV.int IntKind.i64 b, SV.int IntKind.i64 c, SV.int IntKind.i64 n])]) (ctAsm.pre ((o, a, b, c, n), t, ()) ∧
 ctDec.pre (asmV o a b c n t, t, ()) ∧
 bc (!decide ([opV (asmV o a b c n t), rg (asmV o a b c n t) (regs (opV (asmV o a b c n t))) (0 : Int), rg (asmV o a b c n t) (regs (opV (asmV o a b c n t))) (1 : Int), rg (asmV o a b c n t) (regs (opV (asmV o a b c n t))) (2 : Int), numN (asmV o a b c n t) t (kd (opV (asmV o a b c n t))).snd.snd.fst (kd (opV (asmV o a b c n t))).snd.snd.snd.fst (kd (opV (asmV o a b c n t))).snd.snd.snd.snd] = [o, a, b, c, n])) (Q [SV.int IntKind.u32 (0 : Int), SV.int IntKind.i64 (20 : Int)] [((2 : Nat), LB.var [SV.int IntKind.i64 o, SV.int IntKind.i64 a, SV.int IntKind.i64 b, SV.int IntKind.i64 c, SV.int IntKind.i64 n])]) (Q [SV.int IntKind.u32 (asmV o a b c n t), SV.int IntKind.i64 (0 : Int)] [((2 : Nat), LB.var [SV.int IntKind.i64 o, SV.int IntKind.i64 a, SV.int IntKind.i64 b, SV.int IntKind.i64 c, SV.int IntKind.i64 n])])))) := by kernel_rfl
end Go.Proofs.YtjihaaibammbnaaDoor
namespace Go.Proofs.YtjihaaibammbnaaDoor
open Go.Px Go.Ax
def decN (w t : Int) : List Int := [opV w, rg w (regs (opV w)) 0, rg w (regs (opV w)) 1, rg w (regs (opV w)) 2, numN w t (kd (opV w)).2.2.1 (kd (opV w)).2.2.2.1 (kd (opV w)).2.2.2.2]
/-- Whether an instruction has a word at a place. -/
def encB (o a b c n t : Int) : Bool := decide (0 ≤ o) && (decide (o < 9) && decide (decN (asmV o a b c n t) t = [o, a, b, c, n]))
def encW (o a b c n t : Int) : Int := if encB o a b c n t then asmV o a b c n t else 0
def encE (o a b c n t : Int) : Int := if encB o a b c n t then 0 else 20
abbrev encV (o a b c n t : Int) : List SV := [.int .u32 (encW o a b c n t), .int .i64 (encE o a b c n t)]
theorem encV_t {o a b c n t : Int} (h : encB o a b c n t = true) : encV o a b c n t = [.int .u32 (asmV o a b c n t), .int .i64 0] := by simp [encV, encW, encE, h]
theorem encV_f {o a b c n t : Int} (h : encB o a b c n t = false) : encV o a b c n t = [.int .u32 0, .int .i64 20] := by simp [encV, encW, encE, h]
def preEnc (n t : Int) : Prop := (-4611686018427387904 ≤ n ∧ n ≤ 4611686018427387904) ∧ 0 ≤ t ∧ t ≤ 65540
abbrev ctEnc : Ctr := ⟨[.pair (.int .i64) (.pair (.int .i64) (.pair (.int .i64) (.pair (.int .i64) (.int .i64)))), .int .i64], fun x => preEnc x.1.2.2.2.2 x.2.1, fun x => encV x.1.1 x.1.2.1 x.1.2.2.1 x.1.2.2.2.1 x.1.2.2.2.2 x.2.1, fun _ => []⟩
theorem enc_run (o a b c n t : Int) (h : preEnc n t) (R : List Item → PS → Prop) : sy tt G0 C7 Tryd.f14.ntmps Tryd.f14.results.toList (QC ctEnc ((o, a, b, c, n), t, ())) R 1000 [.code (bodyOf Tryd.f14)] (entry [.pair (.int .i64) (.pair (.int .i64) (.pair (.int .i64) (.pair (.int .i64) (.int .i64)))), .int .i64] ((o, a, b, c, n), t, ())) := by
  refine (vc_enc o a b c n t _ _).mpr (bc_of (fun h1 => ?_) (fun h1 => ?_))
  · refine ⟨rfl, QC.flat ?_ rfl rfl⟩
    have : ¬ 0 ≤ o := by have := of_decide_eq_true h1; omega
    exact encV_f (by simp [encB, this])
  · rw [cond_false]
    refine bc_of (fun h2 => QC.flat ?_ rfl rfl) (fun h2 => ?_)
    · have : ¬ o < 9 := by have := of_decide_eq_true h2; omega
      exact encV_f (by simp [encB, this])
    · have k1 := of_decide_eq_false h1
      have k2 := of_decide_eq_false h2
      have hw := bitI_u32 .or (bitI .or .u32 (bitI .or .u32 (bitI .or .u32 (IntKind.u32.wrap (lowV (IntKind.u32.wrap (numW o n t)) (kd o).2.2.1)) (IntKind.u32.wrap (IntKind.u32.wrap o * 2 ^ min (Int.toNat 24) IntKind.u32.bits))) (IntKind.u32.wrap (IntKind.u32.wrap (IntKind.u8.wrap a) * 2 ^ min (Int.toNat 16) IntKind.u32.bits))) (IntKind.u32.wrap (IntKind.u32.wrap (IntKind.u8.wrap b) * 2 ^ min (Int.toNat 8) IntKind.u32.bits))) (IntKind.u32.wrap (IntKind.u8.wrap c))
      have b1 : decide (0 ≤ o) = true := decide_eq_true (by omega)
      have b2 : decide (o < 9) = true := decide_eq_true (by omega)
      have hA : preAsm o n t := ⟨⟨by omega, by omega⟩, h.1, h.2⟩
      refine ⟨hA, ⟨hw, h.2⟩, bc_of (fun h3 => QC.flat ?_ rfl rfl) (fun h3 => QC.flat ?_ rfl rfl)⟩
      · refine encV_f ?_
        have : decide (decN (asmV o a b c n t) t = [o, a, b, c, n]) = false := by
          have h4 : (!decide (decN (asmV o a b c n t) t = [o, a, b, c, n])) = true := h3
          simpa using h4
        rw [encB, this, b1, b2]; rfl
      · refine encV_t ?_
        have : decide (decN (asmV o a b c n t) t = [o, a, b, c, n]) = true := by
          have h4 : (!decide (decN (asmV o a b c n t) t = [o, a, b, c, n])) = false := h3
          simpa using h4
        rw [encB, this, b1, b2]; rfl
theorem cx7 : CxOK Tryd.prog tt G0 C7 := (cx4.cons asm_held (fn := Tryd.f25) rfl rfl rfl).cons near_held (fn := Tryd.f26) rfl rfl rfl
theorem enc_held : Held Tryd.prog G0 14 ctEnc :=
  Held.run cx7 (fn := Tryd.f14) rfl rfl ⟨by decide, by decide⟩ fun x hp => enc_run x.1.1 x.1.2.1 x.1.2.2.1 x.1.2.2.2.1 x.1.2.2.2.2 x.2.1 hp _
end Go.Proofs.YtjihaaibammbnaaDoor
namespace Go.Proofs.YtjihaaibammbnaaDoor
open Go.Px Go.Ax
def C8 : CV := (14, .inl ctEnc) :: C7
theorem cx8 : CxOK Tryd.prog tt G0 C8 := cx7.cons enc_held (fn := Tryd.f14) rfl rfl rfl
set_option maxRecDepth 100000
theorem vc_valid (o a b c n : Int) (Q : List SV → List (Nat × LB) → Prop) (R : List Item → PS → Prop) : sy tt G0 C8 Tryd.f15.ntmps Tryd.f15.results.toList Q R 1000 [.code (bodyOf Tryd.f15)] (entry [.pair (.int .i64) (.pair (.int .i64) (.pair (.int .i64) (.pair (.int .i64) (.int .i64))))] ((o, a, b, c, n), ())) =
    (ctNear.pre (n, ()) ∧
 ctEnc.pre ((o, a, b, c, n), nearV n, ()) ∧
 Q [SV.bool (decide (encE o a b c n (nearV n) = (0 : Int)))] [((1 : Nat), LB.var [SV.int IntKind.i64 o, SV.int IntKind.i64 a, SV.int IntKind.i64 b, SV.int IntKind.i64 c, SV.int IntKind.i64 n])]) := by kernel_rfl
end Go.Proofs.YtjihaaibammbnaaDoor
namespace Go.Proofs.YtjihaaibammbnaaDoor
open Go.Px Go.Ax
def validV (o a b c n : Int) : Bool := encB o a b c n (nearV n)
def preVal (n : Int) : Prop := -4611686018427387904 ≤ n ∧ n ≤ 4611686018427387904
abbrev ctValid : Ctr := ⟨[.pair (.int .i64) (.pair (.int .i64) (.pair (.int .i64) (.pair (.int .i64) (.int .i64))))], fun x => preVal x.1.2.2.2.2, fun x => [.bool (validV x.1.1 x.1.2.1 x.1.2.2.1 x.1.2.2.2.1 x.1.2.2.2.2)], fun _ => []⟩
theorem valid_run (o a b c n : Int) (h : preVal n) (R : List Item → PS → Prop) : sy tt G0 C8 Tryd.f15.ntmps Tryd.f15.results.toList (QC ctValid ((o, a, b, c, n), ())) R 1000 [.code (bodyOf Tryd.f15)] (entry [.pair (.int .i64) (.pair (.int .i64) (.pair (.int .i64) (.pair (.int .i64) (.int .i64))))] ((o, a, b, c, n), ())) := by
  have hc := clip_range n
  have hn : 0 ≤ nearV n ∧ nearV n ≤ 65540 := by unfold nearV; omega
  refine (vc_valid o a b c n _ _).mpr ⟨trivial, ⟨h, hn⟩, QC.flat ?_ rfl rfl⟩
  show [SV.bool (validV o a b c n)] = [SV.bool (decide (encE o a b c n (nearV n) = 0))]
  unfold validV encE
  cases encB o a b c n (nearV n) <;> rfl
theorem valid_held : Held Tryd.prog G0 15 ctValid :=
  Held.run cx8 (fn := Tryd.f15) rfl rfl ⟨by decide, by decide⟩ fun x hp => valid_run x.1.1 x.1.2.1 x.1.2.2.1 x.1.2.2.2.1 x.1.2.2.2.2 hp _
end Go.Proofs.YtjihaaibammbnaaDoor
namespace Go.Proofs.YtjihaaibammbnaaDoor
open Go.Px Go.Ax
/-- A number's text. -/
def numT (n : Int) : List Int := if n < 0 then 45 :: digT 19 (-n) else digT 19 n
def preNT (n : Int) (L : Nat) : Prop := -1000000000000000000 < n ∧ n < 1000000000000000000 ∧ L < 268435456
def ctNT : CtrI := ⟨[.row 5 (.int .u8), .dat (.int .i64)], fun x => preNT x.2.1 (List.length x.1), fun x => [.win true (.int .u8) 0 0 (List.length (x.1 ++ numT x.2.1))], fun x => [(0, .row 5 (.int .u8) (x.1 ++ numT x.2.1))]⟩
theorem p18 : (10 : Int) ^ 18 = 1000000000000000000 := by decide
theorem nt_run (l : List Int) (n : Int) (hp : preNT n l.length) (R : List Item → PS → Prop) :
    sy tt G0 (CD 18) Tryd.f27.ntmps Tryd.f27.results.toList (QI ctNT (l, n, ())) R 1000 [.code (bodyOf Tryd.f27)] (entryI [.row 5 (.int .u8), .dat (.int .i64)] (l, n, ())) := by
  obtain ⟨h0, h1, h4⟩ := hp
  have h18 := p18
  refine (vc_app 18 l n _ _).mpr (bc_of (fun h => ?_) (fun h => ?_))
  · have hn := of_decide_eq_true h
    have e0 : IntKind.i64.wrap (0 - n) = -n := by rw [IntWalk.i64_in _ (by omega)]; omega
    rw [e0]
    have e1 : IntKind.i64.wrap ((-n).tdiv 10) = -n / 10 := by rw [Int.tdiv_eq_ediv_of_nonneg (by omega)]; exact IntWalk.i64_in _ (by omega)
    have e2 : IntKind.u8.wrap (IntKind.i64.wrap (48 + (-n).tmod 10)) = 48 + -n % 10 := by
      rw [Int.tmod_eq_emod_of_nonneg (by omega), IntWalk.i64_in _ (by omega)]
      exact IntWalk.u8_in _ (by omega)
    rw [e1, e2]
    have hl1 : l.length + 1 < 2 ^ 30 := by omega
    have hlen : l.length + 1 = (l ++ [45]).length := by simp
    refine ⟨Nat.le_refl 1, rfl, rfl, hl1, by decide, bc_of (fun h2 => ?_) (fun h2 => ?_)⟩
    · have h10 := of_decide_eq_true h2
      have hd := digT_len 18 (-n / 10)
      have hpre : preDig 18 (-n / 10) (l ++ [45]).length := ⟨by omega, by omega, by omega, by omega, by rw [← hlen]; omega⟩
      have hx : l ++ numT n = l ++ [45] ++ digT 18 (-n / 10) ++ [48 + -n % 10] := by
        rw [numT, if_pos hn, digT, if_pos h10]; simp
      refine ⟨by decide, hlen, hpre, by decide, Nat.le_refl 1, rfl, rfl, ?_, by decide, ?_⟩
      · show List.length (l ++ [45] ++ digT 18 (-n / 10)) + 1 < 2 ^ 30
        rw [List.length_append, ← hlen]; omega
      · refine QI.row (e := .int .u8) (et := 5) (a := 24) (xs := l ++ numT n) rfl rfl rfl ?_ (by rw [hx]; rfl) (by decide)
        show List.length (l ++ [45] ++ digT 18 (-n / 10)) + 1 = _
        rw [hx]; simp only [List.length_append, List.length_cons, List.length_nil]
    · have h10 := of_decide_eq_false h2
      have hx : l ++ numT n = l ++ [45] ++ [48 + -n % 10] := by
        rw [numT, if_pos hn, digT, if_neg h10]; simp
      refine ⟨by decide, Nat.le_refl 1, hlen, rfl, ?_, by decide, ?_⟩
      · show l.length + 1 + 1 < 2 ^ 30
        omega
      · refine QI.row (e := .int .u8) (et := 5) (xs := l ++ numT n) rfl rfl rfl ?_ (by rw [hx]; rfl) (by decide)
        show l.length + 1 + 1 = _
        rw [hx]; simp only [List.length_append, List.length_cons, List.length_nil]
  · have hn := of_decide_eq_false h
    have e1 : IntKind.i64.wrap (n.tdiv 10) = n / 10 := by rw [Int.tdiv_eq_ediv_of_nonneg (by omega)]; exact IntWalk.i64_in _ (by omega)
    have e2 : IntKind.u8.wrap (IntKind.i64.wrap (48 + n.tmod 10)) = 48 + n % 10 := by
      rw [Int.tmod_eq_emod_of_nonneg (by omega), IntWalk.i64_in _ (by omega)]
      exact IntWalk.u8_in _ (by omega)
    rw [e1, e2]
    refine bc_of (fun h2 => ?_) (fun h2 => ?_)
    · have h10 := of_decide_eq_true h2
      have hd := digT_len 18 (n / 10)
      have hpre : preDig 18 (n / 10) l.length := ⟨by omega, by omega, by omega, by omega, by omega⟩
      have hx : l ++ numT n = l ++ digT 18 (n / 10) ++ [48 + n % 10] := by
        rw [numT, if_neg hn, digT, if_pos h10]; simp
      refine ⟨by decide, rfl, hpre, by decide, Nat.le_refl 1, rfl, rfl, ?_, by decide, ?_⟩
      · show List.length (l ++ digT 18 (n / 10)) + 1 < 2 ^ 30
        rw [List.length_append]; omega
      · refine QI.row (e := .int .u8) (et := 5) (a := 24) (xs := l ++ numT n) rfl rfl rfl ?_ (by rw [hx]; rfl) (by decide)
        show List.length (l ++ digT 18 (n / 10)) + 1 = _
        rw [hx]; simp only [List.length_append, List.length_cons, List.length_nil]
    · have h10 := of_decide_eq_false h2
      have hx : l ++ numT n = l ++ [48 + n % 10] := by
        rw [numT, if_neg hn, digT, if_neg h10]; simp
      refine ⟨by decide, Nat.le_refl 1, rfl, rfl, ?_, by decide, ?_⟩
      · show l.length + 1 < 2 ^ 30
        omega
      · refine QI.row (e := .int .u8) (et := 5) (xs := l ++ numT n) rfl rfl rfl ?_ (by rw [hx]; rfl) (by decide)
        show l.length + 1 = _
        rw [hx]; simp only [List.length_append, List.length_cons, List.length_nil]
theorem nt_held : HeldI Tryd.prog G0 27 ctNT :=
  HeldI.run (cx0.consI (dig_held 18) (fn := Tryd.f27) rfl rfl rfl) (fn := Tryd.f27) rfl rfl ⟨by decide, by decide⟩ fun x hp => nt_run x.1 x.2.1 hp _
end Go.Proofs.YtjihaaibammbnaaDoor
namespace Go.Proofs.YtjihaaibammbnaaDoor
open Go.Px Go.Ax
def C9 : CV := (27, .inr ctNT) :: (15, .inl ctValid) :: C8
theorem cx9 : CxOK Tryd.prog tt G0 C9 := (cx8.cons valid_held (fn := Tryd.f15) rfl rfl rfl).consI nt_held (fn := Tryd.f27) rfl rfl rfl
set_option maxRecDepth 100000
theorem vc_print (o a b c n : Int) (Q : List SV → List (Nat × LB) → Prop) (R : List Item → PS → Prop) : sy tt G0 C9 Tryd.f16.ntmps Tryd.f16.results.toList Q R 1000 [.code (bodyOf Tryd.f16)] (entry [.pair (.int .i64) (.pair (.int .i64) (.pair (.int .i64) (.pair (.int .i64) (.int .i64))))] ((o, a, b, c, n), ())) =
    (ctValid.pre ((o, a, b, c, n), ()) ∧
 bc (!validV o a b c n) (Q [SV.str (ByteArray.mk #[]).data.toList] [((1 : Nat), LB.var [SV.int IntKind.i64 o, SV.int IntKind.i64 a, SV.int IntKind.i64 b, SV.int IntKind.i64 c, SV.int IntKind.i64 n])]) ((0 : Int) ≤ o ∧
 o < (↑(9 : Nat) : Int) ∧
 List.length (gt (Sh.str.pair ((Sh.int IntKind.i64).pair ((Sh.int IntKind.i64).pair (Sh.bool.pair Sh.bool)))) kindsL o.toNat).fst < (2 : Nat) ^ (40 : Nat) ∧
 R (hd Tryd.f16 (0 : Nat)) { env := [((0 : Nat), SV.agg [SV.int IntKind.i64 o, SV.int IntKind.i64 a, SV.int IntKind.i64 b, SV.int IntKind.i64 c, SV.int IntKind.i64 n]), ((1 : Nat), SV.ptr (1 : Nat) (0 : Nat)), ((2 : Nat), SV.str (ByteArray.mk #[]).data.toList), ((3 : Nat), SV.ptr (3 : Nat) (0 : Nat)), ((4 : Nat), SV.win true (Sh.int IntKind.u8) (16 : Nat) (0 : Nat) (List.length (gt (Sh.str.pair ((Sh.int IntKind.i64).pair ((Sh.int IntKind.i64).pair (Sh.bool.pair Sh.bool)))) kindsL o.toNat).fst)), ((7 : Nat), SV.agg [SV.int IntKind.i64 o, SV.int IntKind.i64 a, SV.int IntKind.i64 b, SV.int IntKind.i64 c, SV.int IntKind.i64 n]), ((8 : Nat), SV.bool (validV o a b c n)), ((9 : Nat), SV.bool !validV o a b c n), ((10 : Nat), SV.ptr (1 : Nat) (0 : Nat)), ((11 : Nat), SV.int IntKind.i64 o), ((12 : Nat), SV.elv (Sh.str.pair ((Sh.int IntKind.i64).pair ((Sh.int IntKind.i64).pair (Sh.bool.pair Sh.bool)))) (gt (Sh.str.pair ((Sh.int IntKind.i64).pair ((Sh.int IntKind.i64).pair (Sh.bool.pair Sh.bool)))) kindsL o.toNat)), ((13 : Nat), SV.agg [SV.str (gt (Sh.str.pair ((Sh.int IntKind.i64).pair ((Sh.int IntKind.i64).pair (Sh.bool.pair Sh.bool)))) kindsL o.toNat).fst, SV.int IntKind.i64 (gt (Sh.str.pair ((Sh.int IntKind.i64).pair ((Sh.int IntKind.i64).pair (Sh.bool.pair Sh.bool)))) kindsL o.toNat).snd.fst, SV.int IntKind.i64 (gt (Sh.str.pair ((Sh.int IntKind.i64).pair ((Sh.int IntKind.i64).pair (Sh.bool.pair Sh.bool)))) kindsL o.toNat).snd.snd.fst, SV.bool (gt (Sh.str.pair ((Sh.int IntKind.i64).pair ((Sh.int IntKind.i64).pair (Sh.bool.pair Sh.bool)))) kindsL o.toNat).snd.snd.snd.fst, SV.bool (gt (Sh.str.pair ((Sh.int IntKind.i64).pair ((Sh.int IntKind.i64).pair (Sh.bool.pair Sh.bool)))) kindsL o.toNat).snd.snd.snd.snd]), ((14 : Nat), SV.ptr (3 : Nat) (0 : Nat)), ((15 : Nat), SV.str (gt (Sh.str.pair ((Sh.int IntKind.i64).pair ((Sh.int IntKind.i64).pair (Sh.bool.pair Sh.bool)))) kindsL o.toNat).fst), ((16 : Nat), SV.win true (Sh.int IntKind.u8) (16 : Nat) (0 : Nat) (List.length (gt (Sh.str.pair ((Sh.int IntKind.i64).pair ((Sh.int IntKind.i64).pair (Sh.bool.pair Sh.bool)))) kindsL o.toNat).fst)), ((17 : Nat), SV.ptr (1 : Nat) (1 : Nat)), ((18 : Nat), SV.int IntKind.i64 a), ((19 : Nat), SV.ptr (1 : Nat) (2 : Nat)), ((20 : Nat), SV.int IntKind.i64 b), ((21 : Nat), SV.ptr (1 : Nat) (3 : Nat)), ((22 : Nat), SV.int IntKind.i64 c), ((23 : Nat), SV.arr (3 : Nat) (Sh.int IntKind.i64) (((List.set (Sh.arr (3 : Nat) (Sh.int IntKind.i64)).dflt (0 : Nat) a).set (1 : Nat) b).set (2 : Nat) c)), ((24 : Nat), SV.int IntKind.i64 (0 : Int))], blk := [((1 : Nat), LB.var [SV.int IntKind.i64 o, SV.int IntKind.i64 a, SV.int IntKind.i64 b, SV.int IntKind.i64 c, SV.int IntKind.i64 n]), ((3 : Nat), LB.var [SV.str (gt (Sh.str.pair ((Sh.int IntKind.i64).pair ((Sh.int IntKind.i64).pair (Sh.bool.pair Sh.bool)))) kindsL o.toNat).fst, SV.int IntKind.i64 (gt (Sh.str.pair ((Sh.int IntKind.i64).pair ((Sh.int IntKind.i64).pair (Sh.bool.pair Sh.bool)))) kindsL o.toNat).snd.fst, SV.int IntKind.i64 (gt (Sh.str.pair ((Sh.int IntKind.i64).pair ((Sh.int IntKind.i64).pair (Sh.bool.pair Sh.bool)))) kindsL o.toNat).snd.snd.fst, SV.bool (gt (Sh.str.pair ((Sh.int IntKind.i64).pair ((Sh.int IntKind.i64).pair (Sh.bool.pair Sh.bool)))) kindsL o.toNat).snd.snd.snd.fst, SV.bool (gt (Sh.str.pair ((Sh.int IntKind.i64).pair ((Sh.int IntKind.i64).pair (Sh.bool.pair Sh.bool)))) kindsL o.toNat).snd.snd.snd.snd]), ((16 : Nat), LB.row (5 : Nat) (Sh.int IntKind.u8) (List.map ofB (gt (Sh.str.pair ((Sh.int IntKind.i64).pair ((Sh.int IntKind.i64).pair (Sh.bool.pair Sh.bool)))) kindsL o.toNat).fst))] })) := by kernel_rfl
end Go.Proofs.YtjihaaibammbnaaDoor
namespace Go.Proofs.YtjihaaibammbnaaDoor
open Go.Px Go.Ax
set_option maxRecDepth 100000
theorem vc_printA (o a b c n i kr kb : Int) (ks : List UInt8) (kg kt : Bool) (r l : List Int) (Q : List SV → List (Nat × LB) → Prop) (R : List Item → PS → Prop) : sy tt G0 C9 Tryd.f16.ntmps Tryd.f16.results.toList Q R 1000 (hd Tryd.f16 0) ⟨[(0, .agg [.int .i64 o, .int .i64 a, .int .i64 b, .int .i64 c, .int .i64 n]), (1, .ptr 1 0), (3, .ptr 3 0), (4, .win true (.int .u8) 16 0 l.length), (23, .arr 3 (.int .i64) r), (24, .int .i64 i)], [(1, .var [.int .i64 o, .int .i64 a, .int .i64 b, .int .i64 c, .int .i64 n]), (3, .var [.str ks, .int .i64 kr, .int .i64 kb, .bool kg, .bool kt]), (16, .row 5 (.int .u8) l)]⟩ =
    (bc (decide (i < (3 : Int))) ((0 : Int) ≤ i ∧
 i < (↑(3 : Nat) : Int) ∧
 bc (decide (i < kr)) ((0 : Nat) + (1 : Nat) ≤ ([32] : List Int).length ∧
 l.length = l.length ∧
 (0 : Nat) = (0 : Nat) ∧
 l.length + (([32] : List Int)).length < (2 : Nat) ^ (30 : Nat) ∧
 (1 : Nat) ≤ (2 : Nat) ^ (10 : Nat) ∧
 l.length + (([32] : List Int)).length = (l ++ ([32] : List Int)).length ∧
 ctNT.pre (l ++ ([32] : List Int), gt (Sh.int IntKind.i64) r i.toNat, ()) ∧
 R (hd Tryd.f16 (0 : Nat)) { env := [((0 : Nat), SV.agg [SV.int IntKind.i64 o, SV.int IntKind.i64 a, SV.int IntKind.i64 b, SV.int IntKind.i64 c, SV.int IntKind.i64 n]), ((1 : Nat), SV.ptr (1 : Nat) (0 : Nat)), ((3 : Nat), SV.ptr (3 : Nat) (0 : Nat)), ((4 : Nat), SV.win true (Sh.int IntKind.u8) (1147456 : Nat) (0 : Nat) (List.length (l ++ ([32] : List Int) ++ numT (gt (Sh.int IntKind.i64) r i.toNat)))), ((5 : Nat), SV.int IntKind.i64 i), ((6 : Nat), SV.int IntKind.i64 (gt (Sh.int IntKind.i64) r i.toNat)), ((23 : Nat), SV.arr (3 : Nat) (Sh.int IntKind.i64) r), ((24 : Nat), SV.int IntKind.i64 (IntKind.i64.wrap (i + (1 : Int)))), ((25 : Nat), SV.bool (decide (i < (3 : Int)))), ((26 : Nat), SV.int IntKind.i64 i), ((27 : Nat), SV.int IntKind.i64 (gt (Sh.int IntKind.i64) r i.toNat)), ((28 : Nat), SV.int IntKind.i64 i), ((29 : Nat), SV.ptr (3 : Nat) (1 : Nat)), ((30 : Nat), SV.int IntKind.i64 kr), ((31 : Nat), SV.bool (decide (i < kr))), ((32 : Nat), SV.dead), ((33 : Nat), SV.win true (Sh.int IntKind.u8) (33 : Nat) (0 : Nat) (1 : Nat)), ((35 : Nat), SV.int IntKind.i64 (gt (Sh.int IntKind.i64) r i.toNat)), ((36 : Nat), SV.win true (Sh.int IntKind.u8) (1147456 : Nat) (0 : Nat) (List.length (l ++ ([32] : List Int) ++ numT (gt (Sh.int IntKind.i64) r i.toNat)))), ((37 : Nat), SV.int IntKind.i64 (IntKind.i64.wrap (i + (1 : Int))))], blk := [((1 : Nat), LB.var [SV.int IntKind.i64 o, SV.int IntKind.i64 a, SV.int IntKind.i64 b, SV.int IntKind.i64 c, SV.int IntKind.i64 n]), ((3 : Nat), LB.var [SV.str ks, SV.int IntKind.i64 kr, SV.int IntKind.i64 kb, SV.bool kg, SV.bool kt]), ((33 : Nat), LB.row (5 : Nat) (Sh.int IntKind.u8) ([32] : List Int)), ((1147456 : Nat), LB.row (5 : Nat) (Sh.int IntKind.u8) (l ++ ([32] : List Int) ++ numT (gt (Sh.int IntKind.i64) r i.toNat)))] }) (R (hd Tryd.f16 (0 : Nat)) { env := [((0 : Nat), SV.agg [SV.int IntKind.i64 o, SV.int IntKind.i64 a, SV.int IntKind.i64 b, SV.int IntKind.i64 c, SV.int IntKind.i64 n]), ((1 : Nat), SV.ptr (1 : Nat) (0 : Nat)), ((3 : Nat), SV.ptr (3 : Nat) (0 : Nat)), ((4 : Nat), SV.win true (Sh.int IntKind.u8) (16 : Nat) (0 : Nat) l.length), ((5 : Nat), SV.int IntKind.i64 i), ((6 : Nat), SV.int IntKind.i64 (gt (Sh.int IntKind.i64) r i.toNat)), ((23 : Nat), SV.arr (3 : Nat) (Sh.int IntKind.i64) r), ((24 : Nat), SV.int IntKind.i64 (IntKind.i64.wrap (i + (1 : Int)))), ((25 : Nat), SV.bool (decide (i < (3 : Int)))), ((26 : Nat), SV.int IntKind.i64 i), ((27 : Nat), SV.int IntKind.i64 (gt (Sh.int IntKind.i64) r i.toNat)), ((28 : Nat), SV.int IntKind.i64 i), ((29 : Nat), SV.ptr (3 : Nat) (1 : Nat)), ((30 : Nat), SV.int IntKind.i64 kr), ((31 : Nat), SV.bool (decide (i < kr))), ((37 : Nat), SV.int IntKind.i64 (IntKind.i64.wrap (i + (1 : Int))))], blk := [((1 : Nat), LB.var [SV.int IntKind.i64 o, SV.int IntKind.i64 a, SV.int IntKind.i64 b, SV.int IntKind.i64 c, SV.int IntKind.i64 n]), ((3 : Nat), LB.var [SV.str ks, SV.int IntKind.i64 kr, SV.int IntKind.i64 kb, SV.bool kg, SV.bool kt]), ((16 : Nat), LB.row (5 : Nat) (Sh.int IntKind.u8) l)] })) (bc (decide ((0 : Int) < kb)) ((0 : Nat) + (1 : Nat) ≤ ([32] : List Int).length ∧
 l.length = l.length ∧
 (0 : Nat) = (0 : Nat) ∧
 l.length + (([32] : List Int)).length < (2 : Nat) ^ (30 : Nat) ∧
 (1 : Nat) ≤ (2 : Nat) ^ (10 : Nat) ∧
 l.length + (([32] : List Int)).length = (l ++ ([32] : List Int)).length ∧
 ctNT.pre (l ++ ([32] : List Int), n, ()) ∧
 (0 : Nat) + List.length (l ++ ([32] : List Int) ++ numT n) ≤ List.length (l ++ ([32] : List Int) ++ numT n) ∧
 Q [SV.str (List.map toB (winL (Sh.int IntKind.u8) 0 (List.length (l ++ ([32] : List Int) ++ numT n)) (l ++ ([32] : List Int) ++ numT n)))] [((1 : Nat), LB.var [SV.int IntKind.i64 o, SV.int IntKind.i64 a, SV.int IntKind.i64 b, SV.int IntKind.i64 c, SV.int IntKind.i64 n]), ((3 : Nat), LB.var [SV.str ks, SV.int IntKind.i64 kr, SV.int IntKind.i64 kb, SV.bool kg, SV.bool kt]), ((42 : Nat), LB.row (5 : Nat) (Sh.int IntKind.u8) ([32] : List Int)), ((1188416 : Nat), LB.row (5 : Nat) (Sh.int IntKind.u8) (l ++ ([32] : List Int) ++ numT n))]) ((0 : Nat) + l.length ≤ l.length ∧
 Q [SV.str (List.map toB (winL (Sh.int IntKind.u8) 0 l.length l))] [((1 : Nat), LB.var [SV.int IntKind.i64 o, SV.int IntKind.i64 a, SV.int IntKind.i64 b, SV.int IntKind.i64 c, SV.int IntKind.i64 n]), ((3 : Nat), LB.var [SV.str ks, SV.int IntKind.i64 kr, SV.int IntKind.i64 kb, SV.bool kg, SV.bool kt]), ((16 : Nat), LB.row (5 : Nat) (Sh.int IntKind.u8) l)]))) := by kernel_rfl
end Go.Proofs.YtjihaaibammbnaaDoor
