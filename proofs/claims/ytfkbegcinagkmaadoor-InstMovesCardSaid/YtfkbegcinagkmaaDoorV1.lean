/-
  A part of the proof: what a piece of the program gives; conditions: those of each theorem.
-/
import Derived.Test.YtfkbegcinagkmaaDoorT5
set_option linter.unusedVariables false
namespace Go.Proofs.YtfkbegcinagkmaaDoor
open Go.Px Go.Ax
def kn (s : List UInt8) (r b : Int) (g t : Bool) : List UInt8 × Int × Int × Bool × Bool := (s, r, b, g, t)
abbrev kindSh : Sh := .pair .str (.pair (.int .i64) (.pair (.int .i64) (.pair .bool .bool)))
def kindsL : List kindSh.D := [kn [100, 97, 116, 97] 0 32 false false, kn [97, 100, 100] 3 0 false false, kn [115, 101, 116] 1 16 false false, kn [108, 111, 97, 100] 3 0 false false, kn [115, 116, 111, 114, 101] 3 0 false false,
  kn [106, 117, 109, 112] 0 24 true true, kn [99, 97, 108, 108] 0 24 true true, kn [98, 114, 97, 110, 99, 104] 1 16 true true, kn [112, 111, 111, 108] 1 16 false true]
def kindCells : List Value := kindsL.flatMap fun k => [bstr k.1, .int .i64 k.2.1, .int .i64 k.2.2.1, .bool k.2.2.2.1, .bool k.2.2.2.2]
def rawG : T ABlk := .node .nil .nil (some (.cells kindCells 60 2))
def G0 : GV := ⟨[(0, ⟨.arr 9 kindSh, kindsL⟩)], rawG⟩
set_option maxRecDepth 100000
theorem vc_low (w i : Int) (Q : List SV → List (Nat × LB) → Prop) (R : List Item → PS → Prop) : sy tt G0 [] Tryd.f28.ntmps Tryd.f28.results.toList Q R 1000 [.code (bodyOf Tryd.f28)] (entry [.int .u32, .int .i64] (w, i, ())) =
    ((0 : Int) ≤ IntKind.i64.wrap ((32 : Int) - i) ∧
       (0 : Int) ≤ IntKind.i64.wrap ((32 : Int) - i) ∧
         Q
           [SV.int IntKind.i64
               (IntKind.i64.wrap
                 ((IntKind.u32.wrap (w * (2 : Int) ^ min (IntKind.i64.wrap ((32 : Int) - i)).toNat IntKind.u32.bits)).fdiv
                   ((2 : Int) ^ min (IntKind.i64.wrap ((32 : Int) - i)).toNat IntKind.u32.bits)))]
           []) := by kernel_rfl
theorem vc_lowS (w i : Int) (Q : List SV → List (Nat × LB) → Prop) (R : List Item → PS → Prop) : sy tt G0 [] Tryd.f29.ntmps Tryd.f29.results.toList Q R 1000 [.code (bodyOf Tryd.f29)] (entry [.int .u32, .int .i64] (w, i, ())) =
    ((0 : Int) ≤ IntKind.i64.wrap ((32 : Int) - i) ∧
       (0 : Int) ≤ IntKind.i64.wrap ((32 : Int) - i) ∧
         Q
           [SV.int IntKind.i64
               (IntKind.i64.wrap
                 ((IntKind.i32.wrap
                       (IntKind.u32.wrap
                         (w * (2 : Int) ^ min (IntKind.i64.wrap ((32 : Int) - i)).toNat IntKind.u32.bits))).fdiv
                   ((2 : Int) ^ min (IntKind.i64.wrap ((32 : Int) - i)).toNat IntKind.i32.bits)))]
           []) := by kernel_rfl
theorem vc_octet (w i : Int) (Q : List SV → List (Nat × LB) → Prop) (R : List Item → PS → Prop) : sy tt G0 [] Tryd.f23.ntmps Tryd.f23.results.toList Q R 1000 [.code (bodyOf Tryd.f23)] (entry [.int .u32, .int .i64] (w, i, ())) =
    ((0 : Int) ≤ IntKind.i64.wrap ((24 : Int) - IntKind.i64.wrap ((8 : Int) * i)) ∧
       Q
         [SV.int IntKind.i64
             (IntKind.i64.wrap
               (IntKind.u8.wrap
                 (w.fdiv
                   ((2 : Int) ^
                     min (IntKind.i64.wrap ((24 : Int) - IntKind.i64.wrap ((8 : Int) * i))).toNat IntKind.u32.bits))))]
         []) := by kernel_rfl
theorem vc_place (n : Int) (Q : List SV → List (Nat × LB) → Prop) (R : List Item → PS → Prop) : sy tt G0 [] Tryd.f11.ntmps Tryd.f11.results.toList Q R 1000 [.code (bodyOf Tryd.f11)] (entry [.int .u16] (n, ())) =
    ((16385 : Int) ≠ (0 : Int) ∧
       Q [SV.int IntKind.i64 (IntKind.i64.wrap ((4 : Int) * (IntKind.i64.wrap n).tmod (16385 : Int)))] []) := by kernel_rfl
theorem vc_made (x : List Int) (Q : List SV → List (Nat × LB) → Prop) (R : List Item → PS → Prop) : sy tt G0 [] Tryd.f12.ntmps Tryd.f12.results.toList Q R 1000 [.code (bodyOf Tryd.f12)] (entry [.arr 4 (.int .u8)] (x, ())) =
    ((0 : Int) ≤ (0 : Int) ∧
       (0 : Int) < ↑(4 : Nat) ∧
         Int.toNat (0 : Int) < (4 : Nat) ∧
           (10 : Int) ≠ (0 : Int) ∧
             (0 : Int) ≤ (1 : Int) ∧
               (1 : Int) < ↑(4 : Nat) ∧
                 Int.toNat (1 : Int) < (4 : Nat) ∧
                   (0 : Int) ≤ (0 : Int) ∧
                     (0 : Int) < ↑(4 : Nat) ∧
                       Int.toNat (0 : Int) < (4 : Nat) ∧
                         bc (decide (gt (Sh.int IntKind.u8) x (Int.toNat (0 : Int)) < (200 : Int)))
                           ((16 : Int) ≠ (0 : Int) ∧
                             (0 : Int) ≤ (2 : Int) ∧
                               (2 : Int) < ↑(4 : Nat) ∧
                                 Int.toNat (2 : Int) < (4 : Nat) ∧
                                   (0 : Int) ≤ (3 : Int) ∧
                                     (3 : Int) < ↑(4 : Nat) ∧
                                       Int.toNat (3 : Int) < (4 : Nat) ∧
                                         bc
                                           (decide
                                             (IntKind.u32.wrap
                                                 (Int.tmod (gt (Sh.int IntKind.u8) x (Int.toNat (0 : Int))) (10 : Int)) =
                                               (1 : Int)))
                                           (true = true ∧
                                             true = true ∧
                                               (17 : Int) ≠ (0 : Int) ∧
                                                 (17 : Int) ≠ (0 : Int) ∧
                                                   (0 : Int) ≤ (24 : Int) ∧
                                                     (0 : Int) ≤ (16 : Int) ∧
                                                       (0 : Int) ≤ (8 : Int) ∧
                                                         Q
                                                           [SV.int IntKind.u32
                                                               (bitI BinOp.or IntKind.u32
                                                                 (bitI BinOp.or IntKind.u32
                                                                   (bitI BinOp.or IntKind.u32
                                                                     (IntKind.u32.wrap
                                                                       (IntKind.u32.wrap
                                                                           (Int.tmod
                                                                             (gt (Sh.int IntKind.u8) x (Int.toNat (0 : Int)))
                                                                             (10 : Int)) *
                                                                         (2 : Int) ^
                                                                           min (Int.toNat (24 : Int)) IntKind.u32.bits))
                                                                     (IntKind.u32.wrap
                                                                       ((IntKind.u32.wrap
                                                                               (gt (Sh.int IntKind.u8) x
                                                                                 (Int.toNat (1 : Int)))).tmod
                                                                           (16 : Int) *
                                                                         (2 : Int) ^
                                                                           min (Int.toNat (16 : Int)) IntKind.u32.bits)))
                                                                   (IntKind.u32.wrap
                                                                     ((IntKind.u32.wrap
                                                                             (gt (Sh.int IntKind.u8) x
                                                                               (Int.toNat (2 : Int)))).tmod
                                                                         (17 : Int) *
                                                                       (2 : Int) ^
                                                                         min (Int.toNat (8 : Int)) IntKind.u32.bits)))
                                                                 ((IntKind.u32.wrap
                                                                       (gt (Sh.int IntKind.u8) x (Int.toNat (3 : Int)))).tmod
                                                                   (17 : Int)))]
                                                           [((1 : Nat), LB.var [SV.arr (4 : Nat) (Sh.int IntKind.u8) x])])
                                           (bc
                                             (bif false then true
                                             else
                                               decide
                                                 (IntKind.u32.wrap
                                                     (Int.tmod (gt (Sh.int IntKind.u8) x (Int.toNat (0 : Int))) (10 : Int)) =
                                                   (3 : Int)))
                                             (true = true ∧
                                               (17 : Int) ≠ (0 : Int) ∧
                                                 (17 : Int) ≠ (0 : Int) ∧
                                                   (0 : Int) ≤ (24 : Int) ∧
                                                     (0 : Int) ≤ (16 : Int) ∧
                                                       (0 : Int) ≤ (8 : Int) ∧
                                                         Q
                                                           [SV.int IntKind.u32
                                                               (bitI BinOp.or IntKind.u32
                                                                 (bitI BinOp.or IntKind.u32
                                                                   (bitI BinOp.or IntKind.u32
                                                                     (IntKind.u32.wrap
                                                                       (IntKind.u32.wrap
                                                                           (Int.tmod
                                                                             (gt (Sh.int IntKind.u8) x (Int.toNat (0 : Int)))
                                                                             (10 : Int)) *
                                                                         (2 : Int) ^
                                                                           min (Int.toNat (24 : Int)) IntKind.u32.bits))
                                                                     (IntKind.u32.wrap
                                                                       ((IntKind.u32.wrap
                                                                               (gt (Sh.int IntKind.u8) x
                                                                                 (Int.toNat (1 : Int)))).tmod
                                                                           (16 : Int) *
                                                                         (2 : Int) ^
                                                                           min (Int.toNat (16 : Int)) IntKind.u32.bits)))
                                                                   (IntKind.u32.wrap
                                                                     ((IntKind.u32.wrap
                                                                             (gt (Sh.int IntKind.u8) x
                                                                               (Int.toNat (2 : Int)))).tmod
                                                                         (17 : Int) *
                                                                       (2 : Int) ^
                                                                         min (Int.toNat (8 : Int)) IntKind.u32.bits)))
                                                                 ((IntKind.u32.wrap
                                                                       (gt (Sh.int IntKind.u8) x (Int.toNat (3 : Int)))).tmod
                                                                   (17 : Int)))]
                                                           [((1 : Nat), LB.var [SV.arr (4 : Nat) (Sh.int IntKind.u8) x])])
                                             (bc
                                               (bif false then true
                                               else
                                                 decide
                                                   (IntKind.u32.wrap
                                                       (Int.tmod (gt (Sh.int IntKind.u8) x (Int.toNat (0 : Int)))
                                                         (10 : Int)) =
                                                     (4 : Int)))
                                               ((17 : Int) ≠ (0 : Int) ∧
                                                 (17 : Int) ≠ (0 : Int) ∧
                                                   (0 : Int) ≤ (24 : Int) ∧
                                                     (0 : Int) ≤ (16 : Int) ∧
                                                       (0 : Int) ≤ (8 : Int) ∧
                                                         Q
                                                           [SV.int IntKind.u32
                                                               (bitI BinOp.or IntKind.u32
                                                                 (bitI BinOp.or IntKind.u32
                                                                   (bitI BinOp.or IntKind.u32
                                                                     (IntKind.u32.wrap
                                                                       (IntKind.u32.wrap
                                                                           (Int.tmod
                                                                             (gt (Sh.int IntKind.u8) x (Int.toNat (0 : Int)))
                                                                             (10 : Int)) *
                                                                         (2 : Int) ^
                                                                           min (Int.toNat (24 : Int)) IntKind.u32.bits))
                                                                     (IntKind.u32.wrap
                                                                       ((IntKind.u32.wrap
                                                                               (gt (Sh.int IntKind.u8) x
                                                                                 (Int.toNat (1 : Int)))).tmod
                                                                           (16 : Int) *
                                                                         (2 : Int) ^
                                                                           min (Int.toNat (16 : Int)) IntKind.u32.bits)))
                                                                   (IntKind.u32.wrap
                                                                     ((IntKind.u32.wrap
                                                                             (gt (Sh.int IntKind.u8) x
                                                                               (Int.toNat (2 : Int)))).tmod
                                                                         (17 : Int) *
                                                                       (2 : Int) ^
                                                                         min (Int.toNat (8 : Int)) IntKind.u32.bits)))
                                                                 ((IntKind.u32.wrap
                                                                       (gt (Sh.int IntKind.u8) x (Int.toNat (3 : Int)))).tmod
                                                                   (17 : Int)))]
                                                           [((1 : Nat), LB.var [SV.arr (4 : Nat) (Sh.int IntKind.u8) x])])
                                               ((0 : Int) ≤ (24 : Int) ∧
                                                 (0 : Int) ≤ (16 : Int) ∧
                                                   (0 : Int) ≤ (8 : Int) ∧
                                                     Q
                                                       [SV.int IntKind.u32
                                                           (bitI BinOp.or IntKind.u32
                                                             (bitI BinOp.or IntKind.u32
                                                               (bitI BinOp.or IntKind.u32
                                                                 (IntKind.u32.wrap
                                                                   (IntKind.u32.wrap
                                                                       (Int.tmod
                                                                         (gt (Sh.int IntKind.u8) x (Int.toNat (0 : Int)))
                                                                         (10 : Int)) *
                                                                     (2 : Int) ^
                                                                       min (Int.toNat (24 : Int)) IntKind.u32.bits))
                                                                 (IntKind.u32.wrap
                                                                   ((IntKind.u32.wrap
                                                                           (gt (Sh.int IntKind.u8) x
                                                                             (Int.toNat (1 : Int)))).tmod
                                                                       (16 : Int) *
                                                                     (2 : Int) ^
                                                                       min (Int.toNat (16 : Int)) IntKind.u32.bits)))
                                                               (IntKind.u32.wrap
                                                                 (IntKind.u32.wrap
                                                                     (gt (Sh.int IntKind.u8) x (Int.toNat (2 : Int))) *
                                                                   (2 : Int) ^ min (Int.toNat (8 : Int)) IntKind.u32.bits)))
                                                             (IntKind.u32.wrap
                                                               (gt (Sh.int IntKind.u8) x (Int.toNat (3 : Int)))))]
                                                       [((1 : Nat), LB.var [SV.arr (4 : Nat) (Sh.int IntKind.u8) x])]))))
                           ((0 : Int) ≤ (2 : Int) ∧
                             (2 : Int) < ↑(4 : Nat) ∧
                               Int.toNat (2 : Int) < (4 : Nat) ∧
                                 (0 : Int) ≤ (3 : Int) ∧
                                   (3 : Int) < ↑(4 : Nat) ∧
                                     Int.toNat (3 : Int) < (4 : Nat) ∧
                                       bc
                                         (decide
                                           (IntKind.u32.wrap
                                               (Int.tmod (gt (Sh.int IntKind.u8) x (Int.toNat (0 : Int))) (10 : Int)) =
                                             (1 : Int)))
                                         (true = true ∧
                                           true = true ∧
                                             (17 : Int) ≠ (0 : Int) ∧
                                               (17 : Int) ≠ (0 : Int) ∧
                                                 (0 : Int) ≤ (24 : Int) ∧
                                                   (0 : Int) ≤ (16 : Int) ∧
                                                     (0 : Int) ≤ (8 : Int) ∧
                                                       Q
                                                         [SV.int IntKind.u32
                                                             (bitI BinOp.or IntKind.u32
                                                               (bitI BinOp.or IntKind.u32
                                                                 (bitI BinOp.or IntKind.u32
                                                                   (IntKind.u32.wrap
                                                                     (IntKind.u32.wrap
                                                                         (Int.tmod
                                                                           (gt (Sh.int IntKind.u8) x (Int.toNat (0 : Int)))
                                                                           (10 : Int)) *
                                                                       (2 : Int) ^
                                                                         min (Int.toNat (24 : Int)) IntKind.u32.bits))
                                                                   (IntKind.u32.wrap
                                                                     (IntKind.u32.wrap
                                                                         (gt (Sh.int IntKind.u8) x (Int.toNat (1 : Int))) *
                                                                       (2 : Int) ^
                                                                         min (Int.toNat (16 : Int)) IntKind.u32.bits)))
                                                                 (IntKind.u32.wrap
                                                                   ((IntKind.u32.wrap
                                                                           (gt (Sh.int IntKind.u8) x
                                                                             (Int.toNat (2 : Int)))).tmod
                                                                       (17 : Int) *
                                                                     (2 : Int) ^
                                                                       min (Int.toNat (8 : Int)) IntKind.u32.bits)))
                                                               ((IntKind.u32.wrap
                                                                     (gt (Sh.int IntKind.u8) x (Int.toNat (3 : Int)))).tmod
                                                                 (17 : Int)))]
                                                         [((1 : Nat), LB.var [SV.arr (4 : Nat) (Sh.int IntKind.u8) x])])
                                         (bc
                                           (bif false then true
                                           else
                                             decide
                                               (IntKind.u32.wrap
                                                   (Int.tmod (gt (Sh.int IntKind.u8) x (Int.toNat (0 : Int))) (10 : Int)) =
                                                 (3 : Int)))
                                           (true = true ∧
                                             (17 : Int) ≠ (0 : Int) ∧
                                               (17 : Int) ≠ (0 : Int) ∧
                                                 (0 : Int) ≤ (24 : Int) ∧
                                                   (0 : Int) ≤ (16 : Int) ∧
                                                     (0 : Int) ≤ (8 : Int) ∧
                                                       Q
                                                         [SV.int IntKind.u32
                                                             (bitI BinOp.or IntKind.u32
                                                               (bitI BinOp.or IntKind.u32
                                                                 (bitI BinOp.or IntKind.u32
                                                                   (IntKind.u32.wrap
                                                                     (IntKind.u32.wrap
                                                                         (Int.tmod
                                                                           (gt (Sh.int IntKind.u8) x (Int.toNat (0 : Int)))
                                                                           (10 : Int)) *
                                                                       (2 : Int) ^
                                                                         min (Int.toNat (24 : Int)) IntKind.u32.bits))
                                                                   (IntKind.u32.wrap
                                                                     (IntKind.u32.wrap
                                                                         (gt (Sh.int IntKind.u8) x (Int.toNat (1 : Int))) *
                                                                       (2 : Int) ^
                                                                         min (Int.toNat (16 : Int)) IntKind.u32.bits)))
                                                                 (IntKind.u32.wrap
                                                                   ((IntKind.u32.wrap
                                                                           (gt (Sh.int IntKind.u8) x
                                                                             (Int.toNat (2 : Int)))).tmod
                                                                       (17 : Int) *
                                                                     (2 : Int) ^
                                                                       min (Int.toNat (8 : Int)) IntKind.u32.bits)))
                                                               ((IntKind.u32.wrap
                                                                     (gt (Sh.int IntKind.u8) x (Int.toNat (3 : Int)))).tmod
                                                                 (17 : Int)))]
                                                         [((1 : Nat), LB.var [SV.arr (4 : Nat) (Sh.int IntKind.u8) x])])
                                           (bc
                                             (bif false then true
                                             else
                                               decide
                                                 (IntKind.u32.wrap
                                                     (Int.tmod (gt (Sh.int IntKind.u8) x (Int.toNat (0 : Int))) (10 : Int)) =
                                                   (4 : Int)))
                                             ((17 : Int) ≠ (0 : Int) ∧
                                               (17 : Int) ≠ (0 : Int) ∧
                                                 (0 : Int) ≤ (24 : Int) ∧
                                                   (0 : Int) ≤ (16 : Int) ∧
                                                     (0 : Int) ≤ (8 : Int) ∧
                                                       Q
                                                         [SV.int IntKind.u32
                                                             (bitI BinOp.or IntKind.u32
                                                               (bitI BinOp.or IntKind.u32
                                                                 (bitI BinOp.or IntKind.u32
                                                                   (IntKind.u32.wrap
                                                                     (IntKind.u32.wrap
                                                                         (Int.tmod
                                                                           (gt (Sh.int IntKind.u8) x (Int.toNat (0 : Int)))
                                                                           (10 : Int)) *
                                                                       (2 : Int) ^
                                                                         min (Int.toNat (24 : Int)) IntKind.u32.bits))
                                                                   (IntKind.u32.wrap
                                                                     (IntKind.u32.wrap
                                                                         (gt (Sh.int IntKind.u8) x (Int.toNat (1 : Int))) *
                                                                       (2 : Int) ^
                                                                         min (Int.toNat (16 : Int)) IntKind.u32.bits)))
                                                                 (IntKind.u32.wrap
                                                                   ((IntKind.u32.wrap
                                                                           (gt (Sh.int IntKind.u8) x
                                                                             (Int.toNat (2 : Int)))).tmod
                                                                       (17 : Int) *
                                                                     (2 : Int) ^
                                                                       min (Int.toNat (8 : Int)) IntKind.u32.bits)))
                                                               ((IntKind.u32.wrap
                                                                     (gt (Sh.int IntKind.u8) x (Int.toNat (3 : Int)))).tmod
                                                                 (17 : Int)))]
                                                         [((1 : Nat), LB.var [SV.arr (4 : Nat) (Sh.int IntKind.u8) x])])
                                             ((0 : Int) ≤ (24 : Int) ∧
                                               (0 : Int) ≤ (16 : Int) ∧
                                                 (0 : Int) ≤ (8 : Int) ∧
                                                   Q
                                                     [SV.int IntKind.u32
                                                         (bitI BinOp.or IntKind.u32
                                                           (bitI BinOp.or IntKind.u32
                                                             (bitI BinOp.or IntKind.u32
                                                               (IntKind.u32.wrap
                                                                 (IntKind.u32.wrap
                                                                     (Int.tmod
                                                                       (gt (Sh.int IntKind.u8) x (Int.toNat (0 : Int)))
                                                                       (10 : Int)) *
                                                                   (2 : Int) ^ min (Int.toNat (24 : Int)) IntKind.u32.bits))
                                                               (IntKind.u32.wrap
                                                                 (IntKind.u32.wrap
                                                                     (gt (Sh.int IntKind.u8) x (Int.toNat (1 : Int))) *
                                                                   (2 : Int) ^ min (Int.toNat (16 : Int)) IntKind.u32.bits)))
                                                             (IntKind.u32.wrap
                                                               (IntKind.u32.wrap
                                                                   (gt (Sh.int IntKind.u8) x (Int.toNat (2 : Int))) *
                                                                 (2 : Int) ^ min (Int.toNat (8 : Int)) IntKind.u32.bits)))
                                                           (IntKind.u32.wrap
                                                             (gt (Sh.int IntKind.u8) x (Int.toNat (3 : Int)))))]
                                                     [((1 : Nat), LB.var [SV.arr (4 : Nat) (Sh.int IntKind.u8) x])]))))) := by kernel_rfl
end Go.Proofs.YtfkbegcinagkmaaDoor
