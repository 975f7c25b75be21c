/-
  A part of the proof: what pieces of the program give; conditions: those of each theorem.
-/
import Derived.Test.YtgffokpiklnpmaaQ0
import Derived.Test.YtgffokpiklnpmaaHD
import Derived.KernelRfl
set_option linter.unusedVariables false
namespace Go.Proofs.Ytgffokpiklnpmaa
open Go.Px Go.Ax
set_option maxRecDepth 100000
theorem vc_lb (b w : List Int) (Q : List SV → List (Nat × LB) → Prop) (R : List Item → PS → Prop) : sy tt G0 D8 Try.f14.ntmps Try.f14.results.toList Q R 1000 [.code (bodyOf Try.f14)] (entry [.sl (.int .u8), .arr 2 (.int .i64)] (b, w, ())) =
    ((0 : Int) ≤ (0 : Int) ∧
 (0 : Int) < (↑(2 : Nat) : Int) ∧
 Int.toNat (0 : Int) < (2 : Nat) ∧
 (0 : Int) ≤ (1 : Int) ∧
 (1 : Int) < (↑(2 : Nat) : Int) ∧
 Int.toNat (1 : Int) < (2 : Nat) ∧
 ctBlk.pre
 (b, gt (Sh.int IntKind.i64) w (Int.toNat (0 : Int)), gt (Sh.int IntKind.i64) w (Int.toNat (1 : Int)),
 ()) ∧
 Q
 [SV.win true ((Sh.int IntKind.i64).pair (Sh.int IntKind.i64)) (1045056 : Nat) (0 : Nat)
 (blkO b (gt (Sh.int IntKind.i64) w (Int.toNat (0 : Int)))
 (gt (Sh.int IntKind.i64) w (Int.toNat (1 : Int)))).length,
 SV.int IntKind.i64
 (errO (gt (Sh.int IntKind.i64) w (Int.toNat (0 : Int)))
 (gt (Sh.int IntKind.i64) w (Int.toNat (1 : Int))))]
 [((3 : Nat), LB.var [SV.arr (2 : Nat) (Sh.int IntKind.i64) w]),
 ((1045056 : Nat),
 LB.row (48 : Nat) ((Sh.int IntKind.i64).pair (Sh.int IntKind.i64))
 (blkO b (gt (Sh.int IntKind.i64) w (Int.toNat (0 : Int)))
 (gt (Sh.int IntKind.i64) w (Int.toNat (1 : Int)))))]) := by kernel_rfl
theorem vc_san  (Q : List SV → List (Nat × LB) → Prop) (R : List Item → PS → Prop) : sy tt G0 D8 Try.f11.ntmps Try.f11.results.toList Q R 1000 [.code (bodyOf Try.f11)] (entry [] ()) =
    ((0 : Int) ≤ (10 : Int) ∧
 (10 : Int) ≤ (10 : Int) ∧
 (10 : Int) < (2 : Int) ^ (24 : Nat) ∧
 (↑(1 : Nat) : Int) * (10 : Int) ≤ (2 : Int) ^ (48 : Nat) ∧
 (0 : Nat) + Int.toNat (10 : Int) ≤ (List.replicate (Int.toNat (10 : Int)) (Sh.int IntKind.u8).dflt).length ∧
 ctCut.pre
 (winL (Sh.int IntKind.u8) (0 : Nat) (Int.toNat (10 : Int))
 (List.replicate (Int.toNat (10 : Int)) (Sh.int IntKind.u8).dflt),
 (4 : Int), (8 : Int), ()) ∧
 (0 : Nat) + (10 : Nat) ≤
 (((((((((((List.replicate (10 : Nat) (Sh.int IntKind.u8).dflt).set (0 : Nat) (1 : Int)).set (1 : Nat)
 (1 : Int)).set
 (2 : Nat) (1 : Int)).set
 (3 : Nat) (1 : Int)).set
 (4 : Nat) (1 : Int)).set
 (5 : Nat) (1 : Int)).set
 (6 : Nat) (1 : Int)).set
 (7 : Nat) (1 : Int)).set
 (8 : Nat) (1 : Int)).set
 (9 : Nat) (1 : Int)).length ∧
 ctCut.pre
 (winL (Sh.int IntKind.u8) (0 : Nat) (10 : Nat)
 (((((((((((List.replicate (10 : Nat) (Sh.int IntKind.u8).dflt).set (0 : Nat) (1 : Int)).set
 (1 : Nat) (1 : Int)).set
 (2 : Nat) (1 : Int)).set
 (3 : Nat) (1 : Int)).set
 (4 : Nat) (1 : Int)).set
 (5 : Nat) (1 : Int)).set
 (6 : Nat) (1 : Int)).set
 (7 : Nat) (1 : Int)).set
 (8 : Nat) (1 : Int)).set
 (9 : Nat) (1 : Int)),
 (4 : Int), (8 : Int), ()) ∧
 (0 : Nat) + (5 : Nat) ≤
 ((((((List.replicate (5 : Nat) (Sh.int IntKind.u8).dflt).set (0 : Nat) (1 : Int)).set (1 : Nat)
 (2 : Int)).set
 (2 : Nat) (3 : Int)).set
 (3 : Nat) (10 : Int)).set
 (4 : Nat) (9 : Int)).length ∧
 ctBlk.pre
 (winL (Sh.int IntKind.u8) (0 : Nat) (5 : Nat)
 ((((((List.replicate (5 : Nat) (Sh.int IntKind.u8).dflt).set (0 : Nat) (1 : Int)).set
 (1 : Nat) (2 : Int)).set
 (2 : Nat) (3 : Int)).set
 (3 : Nat) (10 : Int)).set
 (4 : Nat) (9 : Int)),
 (4 : Int), (8 : Int), ()) ∧
 (0 : Int) ≤ (4 : Int) ∧
 (4 : Int) ≤ (4 : Int) ∧
 (4 : Int) < (2 : Int) ^ (24 : Nat) ∧
 (↑(1 : Nat) : Int) * (4 : Int) ≤ (2 : Int) ^ (48 : Nat) ∧
 (0 : Int) ≤ (8 : Int) ∧
 (8 : Int) ≤ (8 : Int) ∧
 (8 : Int) < (2 : Int) ^ (24 : Nat) ∧
 (↑(1 : Nat) : Int) * (8 : Int) ≤ (2 : Int) ^ (48 : Nat) ∧
 (0 : Nat) + Int.toNat (4 : Int) ≤
 (List.replicate (Int.toNat (4 : Int)) (Sh.int IntKind.u8).dflt).length ∧
 (0 : Nat) + Int.toNat (8 : Int) ≤
 (List.replicate (Int.toNat (8 : Int)) (Sh.int IntKind.u8).dflt).length ∧
 ctMa.pre
 (winL (Sh.int IntKind.u8) (0 : Nat) (Int.toNat (4 : Int))
 (List.replicate (Int.toNat (4 : Int)) (Sh.int IntKind.u8).dflt),
 winL (Sh.int IntKind.u8) (0 : Nat) (Int.toNat (8 : Int))
 (List.replicate (Int.toNat (8 : Int)) (Sh.int IntKind.u8).dflt),
 (4 : Int), (8 : Int), ()) ∧
 (0 : Nat) + (10 : Nat) ≤
 (((((((((((List.replicate (10 : Nat) (Sh.int IntKind.u8).dflt).set
 (0 : Nat) (1 : Int)).set
 (1 : Nat) (1 : Int)).set
 (2 : Nat) (1 : Int)).set
 (3 : Nat) (1 : Int)).set
 (4 : Nat) (1 : Int)).set
 (5 : Nat) (1 : Int)).set
 (6 : Nat) (1 : Int)).set
 (7 : Nat) (1 : Int)).set
 (8 : Nat) (1 : Int)).set
 (9 : Nat) (1 : Int)).length ∧
 ctCut.pre
 (winL (Sh.int IntKind.u8) (0 : Nat) (10 : Nat)
 (((((((((((List.replicate (10 : Nat) (Sh.int IntKind.u8).dflt).set
 (0 : Nat) (1 : Int)).set
 (1 : Nat) (1 : Int)).set
 (2 : Nat) (1 : Int)).set
 (3 : Nat) (1 : Int)).set
 (4 : Nat) (1 : Int)).set
 (5 : Nat) (1 : Int)).set
 (6 : Nat) (1 : Int)).set
 (7 : Nat) (1 : Int)).set
 (8 : Nat) (1 : Int)).set
 (9 : Nat) (1 : Int)),
 (3 : Int), (8 : Int), ()) ∧
 (0 : Nat) + (10 : Nat) ≤
 (((((((((((List.replicate (10 : Nat) (Sh.int IntKind.u8).dflt).set
 (0 : Nat) (1 : Int)).set
 (1 : Nat) (1 : Int)).set
 (2 : Nat) (1 : Int)).set
 (3 : Nat) (1 : Int)).set
 (4 : Nat) (1 : Int)).set
 (5 : Nat) (1 : Int)).set
 (6 : Nat) (1 : Int)).set
 (7 : Nat) (1 : Int)).set
 (8 : Nat) (1 : Int)).set
 (9 : Nat) (1 : Int)).length ∧
 ctCut.pre
 (winL (Sh.int IntKind.u8) (0 : Nat) (10 : Nat)
 (((((((((((List.replicate (10 : Nat)
 (Sh.int
 IntKind.u8).dflt).set
 (0 : Nat) (1 : Int)).set
 (1 : Nat) (1 : Int)).set
 (2 : Nat) (1 : Int)).set
 (3 : Nat) (1 : Int)).set
 (4 : Nat) (1 : Int)).set
 (5 : Nat) (1 : Int)).set
 (6 : Nat) (1 : Int)).set
 (7 : Nat) (1 : Int)).set
 (8 : Nat) (1 : Int)).set
 (9 : Nat) (1 : Int)),
 (8 : Int), (4 : Int), ()) ∧
 ctBlk.pre ([], (4 : Int), (4 : Int), ()) ∧
 (0 : Nat) +
 (cutO
 (winL (Sh.int IntKind.u8) (0 : Nat) (Int.toNat (10 : Int))
 (List.replicate (Int.toNat (10 : Int))
 (Sh.int IntKind.u8).dflt))
 (4 : Int) (8 : Int)).length ≤
 (cutO
 (winL (Sh.int IntKind.u8) (0 : Nat) (Int.toNat (10 : Int))
 (List.replicate (Int.toNat (10 : Int))
 (Sh.int IntKind.u8).dflt))
 (4 : Int) (8 : Int)).length ∧
 (0 : Nat) + (2 : Nat) ≤
 (((List.replicate (2 : Nat) (Sh.int IntKind.i64).dflt).set
 (0 : Nat) (4 : Int)).set
 (1 : Nat) (8 : Int)).length ∧
 ctInts.pre
 (winL (Sh.int IntKind.i64) (0 : Nat)
 (cutO
 (winL (Sh.int IntKind.u8) (0 : Nat)
 (Int.toNat (10 : Int))
 (List.replicate (Int.toNat (10 : Int))
 (Sh.int IntKind.u8).dflt))
 (4 : Int) (8 : Int)).length
 (cutO
 (winL (Sh.int IntKind.u8) (0 : Nat)
 (Int.toNat (10 : Int))
 (List.replicate (Int.toNat (10 : Int))
 (Sh.int IntKind.u8).dflt))
 (4 : Int) (8 : Int)),
 winL (Sh.int IntKind.i64) (0 : Nat) (2 : Nat)
 (((List.replicate (2 : Nat)
 (Sh.int IntKind.i64).dflt).set
 (0 : Nat) (4 : Int)).set
 (1 : Nat) (8 : Int)),
 ()) ∧
 (0 : Nat) +
 (cutO
 (winL (Sh.int IntKind.u8) (0 : Nat) (10 : Nat)
 (((((((((((List.replicate (10 : Nat)
 (Sh.int
 IntKind.u8).dflt).set
 (0 : Nat)
 (1 :
 Int)).set
 (1 : Nat)
 (1 : Int)).set
 (2 : Nat)
 (1 : Int)).set
 (3 : Nat) (1 : Int)).set
 (4 : Nat) (1 : Int)).set
 (5 : Nat) (1 : Int)).set
 (6 : Nat) (1 : Int)).set
 (7 : Nat) (1 : Int)).set
 (8 : Nat) (1 : Int)).set
 (9 : Nat) (1 : Int)))
 (4 : Int) (8 : Int)).length ≤
 (cutO
 (winL (Sh.int IntKind.u8) (0 : Nat) (10 : Nat)
 (((((((((((List.replicate (10 : Nat)
 (Sh.int
 IntKind.u8).dflt).set
 (0 : Nat)
 (1 : Int)).set
 (1 : Nat)
 (1 : Int)).set
 (2 : Nat)
 (1 : Int)).set
 (3 : Nat) (1 : Int)).set
 (4 : Nat) (1 : Int)).set
 (5 : Nat) (1 : Int)).set
 (6 : Nat) (1 : Int)).set
 (7 : Nat) (1 : Int)).set
 (8 : Nat) (1 : Int)).set
 (9 : Nat) (1 : Int)))
 (4 : Int) (8 : Int)).length ∧
 (0 : Nat) + (1 : Nat) ≤
 ((List.replicate (1 : Nat)
 (Sh.int IntKind.i64).dflt).set
 (0 : Nat) (8 : Int)).length ∧
 ctInts.pre
 (winL (Sh.int IntKind.i64) (0 : Nat)
 (cutO
 (winL (Sh.int IntKind.u8) (0 : Nat) (10 : Nat)
 (((((((((((List.replicate (10 : Nat)
 (Sh.int
 IntKind.u8).dflt).set
 (0 :
 Nat)
 (1 :
 Int)).set
 (1 : Nat)
 (1 :
 Int)).set
 (2 : Nat)
 (1 : Int)).set
 (3 : Nat)
 (1 : Int)).set
 (4 : Nat)
 (1 : Int)).set
 (5 : Nat) (1 : Int)).set
 (6 : Nat) (1 : Int)).set
 (7 : Nat) (1 : Int)).set
 (8 : Nat) (1 : Int)).set
 (9 : Nat) (1 : Int)))
 (4 : Int) (8 : Int)).length
 (cutO
 (winL (Sh.int IntKind.u8) (0 : Nat) (10 : Nat)
 (((((((((((List.replicate (10 : Nat)
 (Sh.int
 IntKind.u8).dflt).set
 (0 :
 Nat)
 (1 :
 Int)).set
 (1 : Nat)
 (1 :
 Int)).set
 (2 : Nat)
 (1 : Int)).set
 (3 : Nat)
 (1 : Int)).set
 (4 : Nat) (1 : Int)).set
 (5 : Nat) (1 : Int)).set
 (6 : Nat) (1 : Int)).set
 (7 : Nat) (1 : Int)).set
 (8 : Nat) (1 : Int)).set
 (9 : Nat) (1 : Int)))
 (4 : Int) (8 : Int)),
 winL (Sh.int IntKind.i64) (0 : Nat) (1 : Nat)
 ((List.replicate (1 : Nat)
 (Sh.int IntKind.i64).dflt).set
 (0 : Nat) (8 : Int)),
 ()) ∧
 (0 : Nat) +
 (blkO
 (winL (Sh.int IntKind.u8) (0 : Nat) (5 : Nat)
 ((((((List.replicate (5 : Nat)
 (Sh.int
 IntKind.u8).dflt).set
 (0 : Nat) (1 : Int)).set
 (1 : Nat) (2 : Int)).set
 (2 : Nat) (3 : Int)).set
 (3 : Nat) (10 : Int)).set
 (4 : Nat) (9 : Int)))
 (4 : Int) (8 : Int)).length ≤
 (blkO
 (winL (Sh.int IntKind.u8) (0 : Nat) (5 : Nat)
 ((((((List.replicate (5 : Nat)
 (Sh.int
 IntKind.u8).dflt).set
 (0 : Nat) (1 : Int)).set
 (1 : Nat) (2 : Int)).set
 (2 : Nat) (3 : Int)).set
 (3 : Nat) (10 : Int)).set
 (4 : Nat) (9 : Int)))
 (4 : Int) (8 : Int)).length ∧
 (0 : Nat) + (2 : Nat) ≤
 (((List.replicate (2 : Nat)
 ((Sh.int IntKind.i64).pair
 (Sh.int IntKind.i64)).dflt).set
 (0 : Nat) ((0 : Int), (4 : Int))).set
 (1 : Nat) ((4 : Int), (5 : Int))).length ∧
 ctRngs.pre
 (winL rgS (0 : Nat)
 (blkO
 (winL (Sh.int IntKind.u8) (0 : Nat)
 (5 : Nat)
 ((((((List.replicate (5 : Nat)
 (Sh.int
 IntKind.u8).dflt).set
 (0 : Nat)
 (1 : Int)).set
 (1 : Nat) (2 : Int)).set
 (2 : Nat) (3 : Int)).set
 (3 : Nat) (10 : Int)).set
 (4 : Nat) (9 : Int)))
 (4 : Int) (8 : Int)).length
 (blkO
 (winL (Sh.int IntKind.u8) (0 : Nat)
 (5 : Nat)
 ((((((List.replicate (5 : Nat)
 (Sh.int
 IntKind.u8).dflt).set
 (0 : Nat)
 (1 : Int)).set
 (1 : Nat) (2 : Int)).set
 (2 : Nat) (3 : Int)).set
 (3 : Nat) (10 : Int)).set
 (4 : Nat) (9 : Int)))
 (4 : Int) (8 : Int)),
 winL rgS (0 : Nat) (2 : Nat)
 (((List.replicate (2 : Nat)
 ((Sh.int IntKind.i64).pair
 (Sh.int
 IntKind.i64)).dflt).set
 (0 : Nat) ((0 : Int), (4 : Int))).set
 (1 : Nat) ((4 : Int), (5 : Int))),
 ()) ∧
 (0 : Nat) +
 (matO
 (winL (Sh.int IntKind.u8) (0 : Nat)
 (Int.toNat (4 : Int))
 (List.replicate (Int.toNat (4 : Int))
 (Sh.int IntKind.u8).dflt))
 (winL (Sh.int IntKind.u8) (0 : Nat)
 (Int.toNat (8 : Int))
 (List.replicate (Int.toNat (8 : Int))
 (Sh.int IntKind.u8).dflt))
 (4 : Int) (8 : Int)).length ≤
 (matO
 (winL (Sh.int IntKind.u8) (0 : Nat)
 (Int.toNat (4 : Int))
 (List.replicate (Int.toNat (4 : Int))
 (Sh.int IntKind.u8).dflt))
 (winL (Sh.int IntKind.u8) (0 : Nat)
 (Int.toNat (8 : Int))
 (List.replicate (Int.toNat (8 : Int))
 (Sh.int IntKind.u8).dflt))
 (4 : Int) (8 : Int)).length ∧
 (0 : Nat) + (2 : Nat) ≤
 (((List.replicate (2 : Nat)
 (Sh.arr (2 : Nat)
 (Sh.int
 IntKind.i64)).dflt).set
 (0 : Nat)
 ((List.set
 (Sh.arr (2 : Nat)
 (Sh.int IntKind.i64)).dflt
 (0 : Nat) (0 : Int)).set
 (1 : Nat) (0 : Int))).set
 (1 : Nat)
 ((List.set
 (Sh.arr (2 : Nat)
 (Sh.int IntKind.i64)).dflt
 (0 : Nat) (0 : Int)).set
 (1 : Nat) (1 : Int))).length ∧
 ctPrs.pre
 (winL paS (0 : Nat)
 (matO
 (winL (Sh.int IntKind.u8)
 (0 : Nat) (Int.toNat (4 : Int))
 (List.replicate
 (Int.toNat (4 : Int))
 (Sh.int IntKind.u8).dflt))
 (winL (Sh.int IntKind.u8)
 (0 : Nat) (Int.toNat (8 : Int))
 (List.replicate
 (Int.toNat (8 : Int))
 (Sh.int IntKind.u8).dflt))
 (4 : Int) (8 : Int)).length
 (matO
 (winL (Sh.int IntKind.u8) (0 : Nat)
 (Int.toNat (4 : Int))
 (List.replicate
 (Int.toNat (4 : Int))
 (Sh.int IntKind.u8).dflt))
 (winL (Sh.int IntKind.u8) (0 : Nat)
 (Int.toNat (8 : Int))
 (List.replicate
 (Int.toNat (8 : Int))
 (Sh.int IntKind.u8).dflt))
 (4 : Int) (8 : Int)),
 winL paS (0 : Nat) (2 : Nat)
 (((List.replicate (2 : Nat)
 (Sh.arr (2 : Nat)
 (Sh.int
 IntKind.i64)).dflt).set
 (0 : Nat)
 ((List.set
 (Sh.arr (2 : Nat)
 (Sh.int
 IntKind.i64)).dflt
 (0 : Nat) (0 : Int)).set
 (1 : Nat) (0 : Int))).set
 (1 : Nat)
 ((List.set
 (Sh.arr (2 : Nat)
 (Sh.int IntKind.i64)).dflt
 (0 : Nat) (0 : Int)).set
 (1 : Nat) (1 : Int))),
 ()) ∧
 Q
 [SV.bool
 (bif true then
 decide
 ((↑(blkO [] (4 : Int)
 (4 : Int)).length :
 Int) =
 (0 : Int))
 else false)]
 [((17 : Nat),
 LB.row (5 : Nat) (Sh.int IntKind.u8)
 (((((((((((List.replicate (10 : Nat)
 (Sh.int
 IntKind.u8).dflt).set
 (0 :
 Nat)
 (1 :
 Int)).set
 (1 :
 Nat)
 (1 :
 Int)).set
 (2 :
 Nat)
 (1 :
 Int)).set
 (3 : Nat)
 (1 :
 Int)).set
 (4 : Nat)
 (1 : Int)).set
 (5 : Nat)
 (1 : Int)).set
 (6 : Nat)
 (1 : Int)).set
 (7 : Nat) (1 : Int)).set
 (8 : Nat) (1 : Int)).set
 (9 : Nat) (1 : Int))),
 ((19 : Nat),
 LB.row (5 : Nat) (Sh.int IntKind.u8)
 (List.replicate
 (Int.toNat (10 : Int))
 (Sh.int IntKind.u8).dflt)),
 ((29 : Nat),
 LB.row (5 : Nat) (Sh.int IntKind.u8)
 ((((((List.replicate (5 : Nat)
 (Sh.int
 IntKind.u8).dflt).set
 (0 : Nat)
 (1 : Int)).set
 (1 : Nat)
 (2 : Int)).set
 (2 : Nat) (3 : Int)).set
 (3 : Nat) (10 : Int)).set
 (4 : Nat) (9 : Int))),
 ((34 : Nat),
 LB.row (5 : Nat) (Sh.int IntKind.u8)
 (List.replicate
 (Int.toNat (4 : Int))
 (Sh.int IntKind.u8).dflt)),
 ((35 : Nat),
 LB.row (5 : Nat) (Sh.int IntKind.u8)
 (List.replicate
 (Int.toNat (8 : Int))
 (Sh.int IntKind.u8).dflt)),
 ((57 : Nat),
 LB.row (3 : Nat) (Sh.int IntKind.i64)
 (((List.replicate (2 : Nat)
 (Sh.int
 IntKind.i64).dflt).set
 (0 : Nat) (4 : Int)).set
 (1 : Nat) (8 : Int))),
 ((66 : Nat),
 LB.row (3 : Nat) (Sh.int IntKind.i64)
 ((List.replicate (1 : Nat)
 (Sh.int IntKind.i64).dflt).set
 (0 : Nat) (8 : Int))),
 ((78 : Nat),
 LB.row (48 : Nat)
 ((Sh.int IntKind.i64).pair
 (Sh.int IntKind.i64))
 (((List.replicate (2 : Nat)
 ((Sh.int IntKind.i64).pair
 (Sh.int
 IntKind.i64)).dflt).set
 (0 : Nat)
 ((0 : Int), (4 : Int))).set
 (1 : Nat)
 ((4 : Int), (5 : Int)))),
 ((89 : Nat),
 LB.row (26 : Nat)
 (Sh.arr (2 : Nat)
 (Sh.int IntKind.i64))
 (((List.replicate (2 : Nat)
 (Sh.arr (2 : Nat)
 (Sh.int
 IntKind.i64)).dflt).set
 (0 : Nat)
 ((List.set
 (Sh.arr (2 : Nat)
 (Sh.int
 IntKind.i64)).dflt
 (0 : Nat) (0 : Int)).set
 (1 : Nat) (0 : Int))).set
 (1 : Nat)
 ((List.set
 (Sh.arr (2 : Nat)
 (Sh.int
 IntKind.i64)).dflt
 (0 : Nat) (0 : Int)).set
 (1 : Nat) (1 : Int)))),
 ((1081920 : Nat),
 LB.row (3 : Nat) (Sh.int IntKind.i64)
 (cutO
 (winL (Sh.int IntKind.u8)
 (0 : Nat) (Int.toNat (10 : Int))
 (List.replicate
 (Int.toNat (10 : Int))
 (Sh.int IntKind.u8).dflt))
 (4 : Int) (8 : Int))),
 ((1102400 : Nat),
 LB.row (3 : Nat) (Sh.int IntKind.i64)
 (cutO
 (winL (Sh.int IntKind.u8)
 (0 : Nat) (10 : Nat)
 (((((((((((List.replicate
 (10 :
 Nat)
 (Sh.int
 IntKind.u8).dflt).set
 (0 :
 Nat)
 (1 :
 Int)).set
 (1 :
 Nat)
 (1 :
 Int)).set
 (2 :
 Nat)
 (1 :
 Int)).set
 (3 :
 Nat)
 (1 :
 Int)).set
 (4 : Nat)
 (1 :
 Int)).set
 (5 : Nat)
 (1 : Int)).set
 (6 : Nat)
 (1 : Int)).set
 (7 : Nat)
 (1 : Int)).set
 (8 : Nat) (1 : Int)).set
 (9 : Nat) (1 : Int)))
 (4 : Int) (8 : Int))),
 ((1122880 : Nat),
 LB.row (48 : Nat)
 ((Sh.int IntKind.i64).pair
 (Sh.int IntKind.i64))
 (blkO
 (winL (Sh.int IntKind.u8)
 (0 : Nat) (5 : Nat)
 ((((((List.replicate (5 : Nat)
 (Sh.int
 IntKind.u8).dflt).set
 (0 : Nat)
 (1 : Int)).set
 (1 : Nat)
 (2 : Int)).set
 (2 : Nat)
 (3 : Int)).set
 (3 : Nat) (10 : Int)).set
 (4 : Nat) (9 : Int)))
 (4 : Int) (8 : Int))),
 ((1147456 : Nat),
 LB.row (26 : Nat)
 (Sh.arr (2 : Nat)
 (Sh.int IntKind.i64))
 (matO
 (winL (Sh.int IntKind.u8)
 (0 : Nat) (Int.toNat (4 : Int))
 (List.replicate
 (Int.toNat (4 : Int))
 (Sh.int IntKind.u8).dflt))
 (winL (Sh.int IntKind.u8)
 (0 : Nat) (Int.toNat (8 : Int))
 (List.replicate
 (Int.toNat (8 : Int))
 (Sh.int IntKind.u8).dflt))
 (4 : Int) (8 : Int))),
 ((1167936 : Nat),
 LB.row (3 : Nat) (Sh.int IntKind.i64)
 (cutO
 (winL (Sh.int IntKind.u8)
 (0 : Nat) (10 : Nat)
 (((((((((((List.replicate
 (10 :
 Nat)
 (Sh.int
 IntKind.u8).dflt).set
 (0 :
 Nat)
 (1 :
 Int)).set
 (1 :
 Nat)
 (1 :
 Int)).set
 (2 :
 Nat)
 (1 :
 Int)).set
 (3 :
 Nat)
 (1 :
 Int)).set
 (4 : Nat)
 (1 :
 Int)).set
 (5 : Nat)
 (1 : Int)).set
 (6 : Nat)
 (1 : Int)).set
 (7 : Nat)
 (1 : Int)).set
 (8 : Nat) (1 : Int)).set
 (9 : Nat) (1 : Int)))
 (3 : Int) (8 : Int))),
 ((1188416 : Nat),
 LB.row (3 : Nat) (Sh.int IntKind.i64)
 (cutO
 (winL (Sh.int IntKind.u8)
 (0 : Nat) (10 : Nat)
 (((((((((((List.replicate
 (10 :
 Nat)
 (Sh.int
 IntKind.u8).dflt).set
 (0 :
 Nat)
 (1 :
 Int)).set
 (1 :
 Nat)
 (1 :
 Int)).set
 (2 :
 Nat)
 (1 :
 Int)).set
 (3 :
 Nat)
 (1 :
 Int)).set
 (4 : Nat)
 (1 :
 Int)).set
 (5 : Nat)
 (1 : Int)).set
 (6 : Nat)
 (1 : Int)).set
 (7 : Nat)
 (1 : Int)).set
 (8 : Nat) (1 : Int)).set
 (9 : Nat) (1 : Int)))
 (8 : Int) (4 : Int))),
 ((1204800 : Nat),
 LB.row (48 : Nat)
 ((Sh.int IntKind.i64).pair
 (Sh.int IntKind.i64))
 (blkO [] (4 : Int) (4 : Int)))]) := by kernel_rfl
end Go.Proofs.Ytgffokpiklnpmaa
namespace Go.Proofs.Ytgffokpiklnpmaa
open Go.Px Go.Ax
attribute [local irreducible] Go.Px.sy Go.Px.syE
def ctSan : Ctr := ⟨[], fun _ => True, fun _ => [.bool true], fun _ => []⟩
instance (b : List Int) : Decidable (bytesOK b) := inferInstanceAs (Decidable (∀ c ∈ b, 0 ≤ c ∧ c < 256))
instance (n : Nat) : Decidable (preLn n) := inferInstanceAs (Decidable (n < 2 ^ 62))
theorem san_run : sy tt G0 D8 Try.f11.ntmps Try.f11.results.toList (QC ctSan ()) (Px.Good Try.prog tt G0 11 Try.f11.ntmps Try.f11.results.toList (QC ctSan ())) 1000 [.code (bodyOf Try.f11)] (entry [] ()) := by
  rw [vc_san]
  repeat' first
    | exact trivial
    | decide +kernel
    | (refine And.intro ?_ ?_)
    | (show preLn _; decide +kernel)
    | (refine QC.flat ?_ rfl rfl)
  show [SV.bool true] = [SV.bool (bif true then decide (((blkO [] 4 4).length : Int) = 0) else false)]
  rfl
theorem san_held : Held Try.prog G0 11 ctSan := Held.run dx8 (fn := Try.f11) rfl rfl ⟨by decide, by decide⟩ fun x _ => san_run
def ctLb : Ctr := ⟨[slB, paS], fun x => preT x.1, fun x => [.win true rgS 0 0 (List.length (blkO x.1 (pr2 x.2.1).1 (pr2 x.2.1).2)), .int .i64 (errO (pr2 x.2.1).1 (pr2 x.2.1).2)], fun x => [.row 48 rgS (blkO x.1 (pr2 x.2.1).1 (pr2 x.2.1).2)]⟩
theorem lb_run (b w : List Int) (hp : preT b) (R : List Item → PS → Prop) : sy tt G0 D8 Try.f14.ntmps Try.f14.results.toList (QC ctLb (b, w, ())) R 1000 [.code (bodyOf Try.f14)] (entry [slB, paS] (b, w, ())) := by
  rw [vc_lb]
  exact ⟨by decide, by decide, by decide, by decide, by decide, by decide, hp, QC.row1 (e := rgS) (et := 48) (xs := blkO b (pr2 w).1 (pr2 w).2) (n := errO (pr2 w).1 (pr2 w).2) rfl rfl rfl rfl rfl⟩
theorem lb_held : Held Try.prog G0 14 ctLb := Held.run dx8 (fn := Try.f14) rfl rfl ⟨by decide, by decide⟩ fun x hp => lb_run x.1 x.2.1 hp _
abbrev D9 : CV := (11, .inl ctSan) :: (14, .inl ctLb) :: D8
theorem dx9 : CxOK Try.prog tt G0 D9 := (dx8.cons lb_held (fn := Try.f14) rfl rfl rfl).cons san_held (fn := Try.f11) rfl rfl rfl
theorem bytes_of {l : List Int} (h : ∀ n ∈ l, (Lit.int .u8 n).wf = true) : bytesOK l := fun n hn => by
  have := Go.bounds_u8 (h n hn)
  exact ⟨this.1, by omega⟩
theorem hG : Glob G0.raw := ⟨fun g x h => by simp [G0, T.get] at h, fun g x h => by simp [G0, T.get] at h⟩
abbrev H0 : AHeap := ⟨nglob, G0.raw⟩
end Go.Proofs.Ytgffokpiklnpmaa
namespace Go.Proofs.Ytgffokpiklnpmaa
open Go.Px Go.Ax
set_option maxRecDepth 100000
theorem vc_rg (l : List (Int × Int)) (y : Int) (Q : List SV → List (Nat × LB) → Prop) (R : List Item → PS → Prop) : sy tt G0 D9 Try.f22.ntmps Try.f22.results.toList Q R 1000 [.code (bodyOf Try.f22)] (entry [.sl (.pair (.int .i64) (.int .i64)), .int .i64] (l, y, ())) =
    (R (hd Try.f22 (0 : Nat))
 {
 env :=
 [((0 : Nat), SV.sl ((Sh.int IntKind.i64).pair (Sh.int IntKind.i64)) l), ((1 : Nat), SV.int IntKind.i64 y),
 ((4 : Nat), SV.nils),
 ((5 : Nat), SV.win true ((Sh.int IntKind.i64).pair (Sh.int IntKind.i64)) (7 : Nat) (0 : Nat) (0 : Nat)),
 ((6 : Nat), SV.int IntKind.i64 (0 : Int)),
 ((7 : Nat), SV.win true ((Sh.int IntKind.i64).pair (Sh.int IntKind.i64)) (7 : Nat) (0 : Nat) (0 : Nat))],
 blk :=
 [((7 : Nat),
 LB.row (48 : Nat) ((Sh.int IntKind.i64).pair (Sh.int IntKind.i64))
 (List.replicate (0 : Nat) ((Sh.int IntKind.i64).pair (Sh.int IntKind.i64)).dflt))] }) := by kernel_rfl
theorem vc_rgL (l o : List (Int × Int)) (y i : Int) (Q : List SV → List (Nat × LB) → Prop) (R : List Item → PS → Prop) : sy tt G0 D9 Try.f22.ntmps Try.f22.results.toList Q R 1000 (hd Try.f22 0) ⟨[(0, .sl (.pair (.int .i64) (.int .i64)) l), (1, .int .i64 y), (5, .win true (.pair (.int .i64) (.int .i64)) 7 0 o.length), (6, .int .i64 i)], [(7, .row 48 (.pair (.int .i64) (.int .i64)) o)]⟩ =
    (bc (decide (i < (↑l.length : Int)))
 ((0 : Int) ≤ i ∧
 i < (↑l.length : Int) ∧
 (0 : Int) ≤ i ∧
 i < (↑l.length : Int) ∧
 (0 : Nat) + (1 : Nat) ≤
 ((List.replicate (1 : Nat) ((Sh.int IntKind.i64).pair (Sh.int IntKind.i64)).dflt).set (0 : Nat)
 (IntKind.i64.wrap ((gt ((Sh.int IntKind.i64).pair (Sh.int IntKind.i64)) l i.toNat).fst + y),
 IntKind.i64.wrap
 ((gt ((Sh.int IntKind.i64).pair (Sh.int IntKind.i64)) l i.toNat).snd + y))).length ∧
 o.length = o.length ∧
 (0 : Nat) = (0 : Nat) ∧
 o.length +
 (winL
 ((fun self => self.6)
 (mkT (2 : Nat) (16 : Nat) true
 (TK.struct [((0 : Nat), (3 : TypeId)), ((1 : Nat), (3 : TypeId))])
 ((Sh.int IntKind.i64).pair (Sh.int IntKind.i64)) (some IntKind.i64)))
 (0 : Nat) (1 : Nat)
 ((List.replicate (1 : Nat) ((Sh.int IntKind.i64).pair (Sh.int IntKind.i64)).dflt).set
 (0 : Nat)
 (IntKind.i64.wrap ((gt ((Sh.int IntKind.i64).pair (Sh.int IntKind.i64)) l i.toNat).fst + y),
 IntKind.i64.wrap
 ((gt ((Sh.int IntKind.i64).pair (Sh.int IntKind.i64)) l i.toNat).snd + y)))).length <
 (2 : Nat) ^ (30 : Nat) ∧
 (16 : Nat) ≤ (2 : Nat) ^ (10 : Nat) ∧
 R (hd Try.f22 (0 : Nat))
 {
 env :=
 [((0 : Nat), SV.sl ((Sh.int IntKind.i64).pair (Sh.int IntKind.i64)) l),
 ((1 : Nat), SV.int IntKind.i64 y),
 ((5 : Nat),
 SV.win true ((Sh.int IntKind.i64).pair (Sh.int IntKind.i64)) (31 : Nat) (0 : Nat)
 (o.length +
 (winL
 ((fun self => self.6)
 (mkT (2 : Nat) (16 : Nat) true
 (TK.struct [((0 : Nat), (3 : TypeId)), ((1 : Nat), (3 : TypeId))])
 ((Sh.int IntKind.i64).pair (Sh.int IntKind.i64)) (some IntKind.i64)))
 (0 : Nat) (1 : Nat)
 ((List.replicate (1 : Nat)
 ((Sh.int IntKind.i64).pair (Sh.int IntKind.i64)).dflt).set
 (0 : Nat)
 (IntKind.i64.wrap
 ((gt ((Sh.int IntKind.i64).pair (Sh.int IntKind.i64)) l i.toNat).fst + y),
 IntKind.i64.wrap
 ((gt ((Sh.int IntKind.i64).pair (Sh.int IntKind.i64)) l i.toNat).snd +
 y)))).length)),
 ((6 : Nat), SV.int IntKind.i64 (IntKind.i64.wrap (i + (1 : Int)))),
 ((8 : Nat), SV.int IntKind.i64 i),
 ((9 : Nat), SV.sl ((Sh.int IntKind.i64).pair (Sh.int IntKind.i64)) l),
 ((10 : Nat), SV.int IntKind.i64 (↑l.length : Int)),
 ((11 : Nat), SV.bool (decide (i < (↑l.length : Int)))), ((12 : Nat), SV.int IntKind.i64 i),
 ((13 : Nat), SV.int IntKind.i64 (IntKind.i64.wrap (i + (1 : Int)))), ((14 : Nat), SV.dead),
 ((15 : Nat), SV.sl ((Sh.int IntKind.i64).pair (Sh.int IntKind.i64)) l),
 ((16 : Nat), SV.int IntKind.i64 i),
 ((17 : Nat),
 SV.elv ((Sh.int IntKind.i64).pair (Sh.int IntKind.i64))
 (gt ((Sh.int IntKind.i64).pair (Sh.int IntKind.i64)) l i.toNat)),
 ((18 : Nat),
 SV.elv (Sh.int IntKind.i64)
 (gt ((Sh.int IntKind.i64).pair (Sh.int IntKind.i64)) l i.toNat).fst),
 ((19 : Nat),
 SV.int IntKind.i64 (gt ((Sh.int IntKind.i64).pair (Sh.int IntKind.i64)) l i.toNat).fst),
 ((20 : Nat), SV.int IntKind.i64 y),
 ((21 : Nat),
 SV.int IntKind.i64
 (IntKind.i64.wrap
 ((gt ((Sh.int IntKind.i64).pair (Sh.int IntKind.i64)) l i.toNat).fst + y))),
 ((22 : Nat), SV.sl ((Sh.int IntKind.i64).pair (Sh.int IntKind.i64)) l),
 ((23 : Nat), SV.int IntKind.i64 i),
 ((24 : Nat),
 SV.elv ((Sh.int IntKind.i64).pair (Sh.int IntKind.i64))
 (gt ((Sh.int IntKind.i64).pair (Sh.int IntKind.i64)) l i.toNat)),
 ((25 : Nat),
 SV.elv (Sh.int IntKind.i64)
 (gt ((Sh.int IntKind.i64).pair (Sh.int IntKind.i64)) l i.toNat).snd),
 ((26 : Nat),
 SV.int IntKind.i64 (gt ((Sh.int IntKind.i64).pair (Sh.int IntKind.i64)) l i.toNat).snd),
 ((27 : Nat), SV.int IntKind.i64 y),
 ((28 : Nat),
 SV.int IntKind.i64
 (IntKind.i64.wrap
 ((gt ((Sh.int IntKind.i64).pair (Sh.int IntKind.i64)) l i.toNat).snd + y))),
 ((29 : Nat),
 SV.agg
 [SV.int IntKind.i64
 (IntKind.i64.wrap
 ((gt ((Sh.int IntKind.i64).pair (Sh.int IntKind.i64)) l i.toNat).fst + y)),
 SV.int IntKind.i64
 (IntKind.i64.wrap
 ((gt ((Sh.int IntKind.i64).pair (Sh.int IntKind.i64)) l i.toNat).snd + y))]),
 ((30 : Nat),
 SV.win true ((Sh.int IntKind.i64).pair (Sh.int IntKind.i64)) (30 : Nat) (0 : Nat)
 (1 : Nat)),
 ((31 : Nat),
 SV.win true ((Sh.int IntKind.i64).pair (Sh.int IntKind.i64)) (31 : Nat) (0 : Nat)
 (o.length +
 (winL
 ((fun self => self.6)
 (mkT (2 : Nat) (16 : Nat) true
 (TK.struct [((0 : Nat), (3 : TypeId)), ((1 : Nat), (3 : TypeId))])
 ((Sh.int IntKind.i64).pair (Sh.int IntKind.i64)) (some IntKind.i64)))
 (0 : Nat) (1 : Nat)
 ((List.replicate (1 : Nat)
 ((Sh.int IntKind.i64).pair (Sh.int IntKind.i64)).dflt).set
 (0 : Nat)
 (IntKind.i64.wrap
 ((gt ((Sh.int IntKind.i64).pair (Sh.int IntKind.i64)) l i.toNat).fst + y),
 IntKind.i64.wrap
 ((gt ((Sh.int IntKind.i64).pair (Sh.int IntKind.i64)) l i.toNat).snd +
 y)))).length))],
 blk :=
 [((30 : Nat),
 LB.row (48 : Nat) ((Sh.int IntKind.i64).pair (Sh.int IntKind.i64))
 ((List.replicate (1 : Nat) ((Sh.int IntKind.i64).pair (Sh.int IntKind.i64)).dflt).set
 (0 : Nat)
 (IntKind.i64.wrap
 ((gt ((Sh.int IntKind.i64).pair (Sh.int IntKind.i64)) l i.toNat).fst + y),
 IntKind.i64.wrap
 ((gt ((Sh.int IntKind.i64).pair (Sh.int IntKind.i64)) l i.toNat).snd + y)))),
 ((31 : Nat),
 LB.row (48 : Nat) ((Sh.int IntKind.i64).pair (Sh.int IntKind.i64))
 (o ++
 winL ((Sh.int IntKind.i64).pair (Sh.int IntKind.i64)) (0 : Nat) (1 : Nat)
 ((List.replicate (1 : Nat)
 ((Sh.int IntKind.i64).pair (Sh.int IntKind.i64)).dflt).set
 (0 : Nat)
 (IntKind.i64.wrap
 ((gt ((Sh.int IntKind.i64).pair (Sh.int IntKind.i64)) l i.toNat).fst + y),
 IntKind.i64.wrap
 ((gt ((Sh.int IntKind.i64).pair (Sh.int IntKind.i64)) l i.toNat).snd +
 y)))))] })
 (Q [SV.win true ((Sh.int IntKind.i64).pair (Sh.int IntKind.i64)) (7 : Nat) (0 : Nat) o.length]
 [((7 : Nat), LB.row (48 : Nat) ((Sh.int IntKind.i64).pair (Sh.int IntKind.i64)) o)])) := by kernel_rfl
end Go.Proofs.Ytgffokpiklnpmaa
namespace Go.Proofs.Ytgffokpiklnpmaa
open Go.Px Go.Ax
attribute [local irreducible] Go.Px.sy Go.Px.syE
theorem qc_row {ct : Ctr} {x : DL ct.args} {rs : List SV} {blk : List (Nat × LB)} {e : Sh} {et : TypeId} {a k : Nat} {xs : List e.D} (h : ct.out x = [.win true e 0 0 xs.length]) (hr : ct.rows x = [.row et e xs]) (hs : rs = [.win true e a 0 k]) (hk : k = xs.length) (hb : lk blk a = some (.row et e xs)) : QC ct x rs blk := by
  subst hs; subst hk
  refine ⟨fun i => if i = 0 then some a else none, ?_, ?_, fun i j b h1 h2 => ?_, by rw [hr]; rfl⟩
  · rw [h]
    exact ⟨_, _, rfl, .inl ⟨true, a, rfl, rfl, fun h => h⟩, rfl⟩
  · rw [hr]
    exact ⟨.inl ⟨a, rfl, hb⟩, trivial⟩
  · simp only at h1 h2
    split at h1
    · split at h2
      · omega
      · cases h2
    · cases h1
/-- Ranges, moved. -/
def mvR (l : List (Int × Int)) (y : Int) : List (Int × Int) := l.map fun r => (r.1 + y, r.2 + y)
def small (n : Int) : Prop := -1073741824 ≤ n ∧ n ≤ 1073741824
def preRg (l : List (Int × Int)) (y : Int) : Prop := l.length < 1048576 ∧ (∀ r ∈ l, small r.1 ∧ small r.2) ∧ small y
def ctRg : Ctr := ⟨[.sl rgS, iI], fun x => preRg x.1 x.2.1, fun x => [.win true rgS 0 0 (List.length (mvR x.1 x.2.1))], fun x => [.row 48 rgS (mvR x.1 x.2.1)]⟩
theorem rg_loop {l : List (Int × Int)} {y : Int} (hp : preRg l y) : ∀ (k i : Nat) (o : List (Int × Int)), l.length - i ≤ k → i ≤ l.length → o = mvR (l.take i) y →
    GD 22 Try.f22 (QC ctRg (l, y, ())) (hd Try.f22 0) ⟨[(0, .sl rgS l), (1, .int .i64 y), (5, .win true rgS 7 0 o.length), (6, .int .i64 (i : Nat))], [(7, .row 48 rgS o)]⟩ := by
  obtain ⟨h1, h2, h3⟩ := hp
  have fin : ∀ (i : Nat) (o : List (Int × Int)), ¬ i < l.length → i ≤ l.length → o = mvR (l.take i) y → QC ctRg (l, y, ()) [.win true rgS 7 0 o.length] [(7, .row 48 rgS o)] := by
    intro i o hn hi ho
    have e : o = mvR l y := by rw [ho, List.take_of_length_le (by omega)]
    subst e
    exact qc_row rfl rfl rfl rfl rfl
  intro k
  induction k with
  | zero =>
    intro i o hk hi ho
    refine sy_go dx9 (vc_rgL l o y i _ _) ?_
    rw [decide_eq_false (by omega), bc_f]
    exact fin i o (by omega) hi ho
  | succ k ih =>
    intro i o hk hi ho
    refine sy_go dx9 (vc_rgL l o y i _ _) ?_
    by_cases h : i < l.length
    · have hs := h2 l[i] (List.getElem_mem h)
      unfold small at hs h3
      have e1 : gt rgS l (i : Int).toNat = l[i] := gtE h
      rw [decide_eq_true (show (i : Int) < (l.length : Int) by omega), bc_t, e1, IntWalk.i64_in ((i : Int) + 1) (by omega), IntWalk.i64_in (l[i].1 + y) (by omega), IntWalk.i64_in (l[i].2 + y) (by omega)]
      have hol : o.length = i := by rw [ho, mvR, List.length_map, List.length_take]; omega
      refine ⟨by omega, by omega, by omega, by omega, Nat.le_refl _, rfl, rfl, ?_, by decide, ?_⟩
      · show o.length + 1 < 2 ^ 30
        omega
      · have ho2 : o ++ [(l[i].1 + y, l[i].2 + y)] = mvR (l.take (i + 1)) y := by
          rw [ho, mvR, mvR, List.take_succ_eq_append_getElem h, List.map_append]; rfl
        refine Good.onlyR (ih (i + 1) _ (by omega) (by omega) ho2) [(7, 31)] rfl ⟨rfl, rfl, ?_, rfl, trivial⟩ ⟨rfl, trivial⟩
        show some (SV.win true rgS 31 0 (o.length + 1)) = some (SV.win true rgS 31 0 (o ++ [(l[i].1 + y, l[i].2 + y)]).length)
        rw [List.length_append, List.length_singleton]
    · rw [decide_eq_false (by omega), bc_f]
      exact fin i o h hi ho
theorem rg_run (l : List (Int × Int)) (y : Int) (hp : preRg l y) : sy tt G0 D9 Try.f22.ntmps Try.f22.results.toList (QC ctRg (l, y, ())) (Px.Good Try.prog tt G0 22 Try.f22.ntmps Try.f22.results.toList (QC ctRg (l, y, ()))) 1000 [.code (bodyOf Try.f22)] (entry [.sl rgS, iI] (l, y, ())) := by
  rw [vc_rg]
  exact (rg_loop hp _ 0 [] (Nat.le_refl _) (Nat.zero_le _) rfl).only ⟨rfl, rfl, rfl, rfl, trivial⟩ ⟨rfl, trivial⟩
theorem rg_held : Held Try.prog G0 22 ctRg := Held.run dx9 (fn := Try.f22) rfl rfl ⟨by decide, by decide⟩ fun x hp => rg_run x.1 x.2.1 hp
abbrev D10 : CV := (22, .inl ctRg) :: D9
theorem dx10 : CxOK Try.prog tt G0 D10 := dx9.cons rg_held (fn := Try.f22) rfl rfl rfl
end Go.Proofs.Ytgffokpiklnpmaa
namespace Go.Proofs.Ytgffokpiklnpmaa
open Go.Px Go.Ax
set_option maxRecDepth 100000
theorem vc_l7 (x : List (List Int)) (en w : List Int) (Q : List SV → List (Nat × LB) → Prop) (R : List Item → PS → Prop) : sy tt G0 D10 Try.f7.ntmps Try.f7.results.toList Q R 1000 [.code (bodyOf Try.f7)] (entry [.arr 2 (.sl (.int .u8)), .sl (.int .u8), .arr 2 (.int .u8)] (x, en, w, ())) =
    (ctSan.pre () ∧
 ctMade.pre (w, ()) ∧
 (0 : Int) ≤ (0 : Int) ∧
 (0 : Int) < (↑(2 : Nat) : Int) ∧
 Int.toNat (0 : Int) < (2 : Nat) ∧
 bc (decide ((100 : Int) < (↑(List.length (gt (Sh.int IntKind.u8).sl x (Int.toNat (0 : Int)))) : Int)))
 (true = true ∧
 true = true ∧
 Q [SV.bool true]
 [((3 : Nat), LB.var [SV.arr (2 : Nat) (Sh.int IntKind.u8).sl x]),
 ((5 : Nat), LB.var [SV.arr (2 : Nat) (Sh.int IntKind.u8) w]),
 ((8 : Nat), LB.var [SV.arr (2 : Nat) (Sh.int IntKind.i64) (madeL w)])])
 ((0 : Int) ≤ (1 : Int) ∧
 (1 : Int) < (↑(2 : Nat) : Int) ∧
 Int.toNat (1 : Int) < (2 : Nat) ∧
 bc
 (bif false then true
 else
 decide ((100 : Int) < (↑(List.length (gt (Sh.int IntKind.u8).sl x (Int.toNat (1 : Int)))) : Int)))
 (true = true ∧
 Q [SV.bool true]
 [((3 : Nat), LB.var [SV.arr (2 : Nat) (Sh.int IntKind.u8).sl x]),
 ((5 : Nat), LB.var [SV.arr (2 : Nat) (Sh.int IntKind.u8) w]),
 ((8 : Nat), LB.var [SV.arr (2 : Nat) (Sh.int IntKind.i64) (madeL w)])])
 (bc (bif false then true else decide ((200 : Int) < (↑en.length : Int)))
 (Q [SV.bool true]
 [((3 : Nat), LB.var [SV.arr (2 : Nat) (Sh.int IntKind.u8).sl x]),
 ((5 : Nat), LB.var [SV.arr (2 : Nat) (Sh.int IntKind.u8) w]),
 ((8 : Nat), LB.var [SV.arr (2 : Nat) (Sh.int IntKind.i64) (madeL w)])])
 ((0 : Int) ≤ (0 : Int) ∧
 (0 : Int) < (↑(2 : Nat) : Int) ∧
 Int.toNat (0 : Int) < (2 : Nat) ∧
 (0 : Nat) = (List.replicate (0 : Nat) (Sh.int IntKind.u8).dflt).length ∧
 (0 : Nat) = (0 : Nat) ∧
 (0 : Nat) + List.length (gt (Sh.int IntKind.u8).sl x (Int.toNat (0 : Int))) <
 (2 : Nat) ^ (30 : Nat) ∧
 (1 : Nat) ≤ (2 : Nat) ^ (10 : Nat) ∧
 (0 : Nat) + List.length (gt (Sh.int IntKind.u8).sl x (Int.toNat (0 : Int))) =
 (List.replicate (0 : Nat) (Sh.int IntKind.u8).dflt ++
 gt (Sh.int IntKind.u8).sl x (Int.toNat (0 : Int))).length ∧
 (0 : Nat) = (0 : Nat) ∧
 (0 : Nat) + List.length (gt (Sh.int IntKind.u8).sl x (Int.toNat (0 : Int))) +
 en.length <
 (2 : Nat) ^ (30 : Nat) ∧
 (1 : Nat) ≤ (2 : Nat) ^ (10 : Nat) ∧
 (0 : Int) ≤ (1 : Int) ∧
 (1 : Int) < (↑(2 : Nat) : Int) ∧
 Int.toNat (1 : Int) < (2 : Nat) ∧
 (0 : Nat) =
 (List.replicate (0 : Nat) (Sh.int IntKind.u8).dflt).length ∧
 (0 : Nat) = (0 : Nat) ∧
 (0 : Nat) +
 List.length
 (gt (Sh.int IntKind.u8).sl x (Int.toNat (1 : Int))) <
 (2 : Nat) ^ (30 : Nat) ∧
 (1 : Nat) ≤ (2 : Nat) ^ (10 : Nat) ∧
 (0 : Nat) +
 List.length
 (gt (Sh.int IntKind.u8).sl x (Int.toNat (1 : Int))) =
 (List.replicate (0 : Nat) (Sh.int IntKind.u8).dflt ++
 gt (Sh.int IntKind.u8).sl x
 (Int.toNat (1 : Int))).length ∧
 (0 : Nat) = (0 : Nat) ∧
 (0 : Nat) +
 List.length
 (gt (Sh.int IntKind.u8).sl x
 (Int.toNat (1 : Int))) +
 en.length <
 (2 : Nat) ^ (30 : Nat) ∧
 (1 : Nat) ≤ (2 : Nat) ^ (10 : Nat) ∧
 (0 : Nat) +
 ((0 : Nat) +
 List.length
 (gt (Sh.int IntKind.u8).sl x
 (Int.toNat (0 : Int))) +
 en.length) ≤
 (List.replicate (0 : Nat)
 (Sh.int IntKind.u8).dflt ++
 gt (Sh.int IntKind.u8).sl x
 (Int.toNat (0 : Int)) ++
 en).length ∧
 ctLb.pre
 (winL (Sh.int IntKind.u8) (0 : Nat)
 ((0 : Nat) +
 List.length
 (gt (Sh.int IntKind.u8).sl x
 (Int.toNat (0 : Int))) +
 en.length)
 (List.replicate (0 : Nat)
 (Sh.int IntKind.u8).dflt ++
 gt (Sh.int IntKind.u8).sl x
 (Int.toNat (0 : Int)) ++
 en),
 madeL w, ()) ∧
 (0 : Nat) +
 ((0 : Nat) +
 List.length
 (gt (Sh.int IntKind.u8).sl x
 (Int.toNat (1 : Int))) +
 en.length) ≤
 (List.replicate (0 : Nat)
 (Sh.int IntKind.u8).dflt ++
 gt (Sh.int IntKind.u8).sl x
 (Int.toNat (1 : Int)) ++
 en).length ∧
 ctLb.pre
 (winL (Sh.int IntKind.u8) (0 : Nat)
 ((0 : Nat) +
 List.length
 (gt (Sh.int IntKind.u8).sl x
 (Int.toNat (1 : Int))) +
 en.length)
 (List.replicate (0 : Nat)
 (Sh.int IntKind.u8).dflt ++
 gt (Sh.int IntKind.u8).sl x
 (Int.toNat (1 : Int)) ++
 en),
 madeL w, ()) ∧
 bc
 (decide
 (errO (pr2 (madeL w)).fst
 (pr2 (madeL w)).snd ≠
 (0 : Int)))
 (true = true ∧
 Q [SV.bool false]
 [((3 : Nat),
 LB.var
 [SV.arr (2 : Nat)
 (Sh.int IntKind.u8).sl x]),
 ((5 : Nat),
 LB.var
 [SV.arr (2 : Nat)
 (Sh.int IntKind.u8) w]),
 ((8 : Nat),
 LB.var
 [SV.arr (2 : Nat)
 (Sh.int IntKind.i64)
 (madeL w)]),
 ((42 : Nat),
 LB.row (5 : Nat) (Sh.int IntKind.u8)
 (List.replicate (0 : Nat)
 (Sh.int IntKind.u8).dflt ++
 gt (Sh.int IntKind.u8).sl x
 (Int.toNat (0 : Int)) ++
 en)),
 ((48 : Nat),
 LB.row (5 : Nat) (Sh.int IntKind.u8)
 (List.replicate (0 : Nat)
 (Sh.int IntKind.u8).dflt ++
 gt (Sh.int IntKind.u8).sl x
 (Int.toNat (1 : Int)) ++
 en)),
 ((1212992 : Nat),
 LB.row (48 : Nat)
 ((Sh.int IntKind.i64).pair
 (Sh.int IntKind.i64))
 (blkO
 (winL (Sh.int IntKind.u8)
 (0 : Nat)
 ((0 : Nat) +
 List.length
 (gt
 (Sh.int IntKind.u8).sl
 x
 (Int.toNat
 (0 : Int))) +
 en.length)
 (List.replicate (0 : Nat)
 (Sh.int
 IntKind.u8).dflt ++
 gt (Sh.int IntKind.u8).sl
 x
 (Int.toNat (0 : Int)) ++
 en))
 (pr2 (madeL w)).fst
 (pr2 (madeL w)).snd)),
 ((1237568 : Nat),
 LB.row (48 : Nat)
 ((Sh.int IntKind.i64).pair
 (Sh.int IntKind.i64))
 (blkO
 (winL (Sh.int IntKind.u8)
 (0 : Nat)
 ((0 : Nat) +
 List.length
 (gt
 (Sh.int IntKind.u8).sl
 x
 (Int.toNat
 (1 : Int))) +
 en.length)
 (List.replicate (0 : Nat)
 (Sh.int
 IntKind.u8).dflt ++
 gt (Sh.int IntKind.u8).sl
 x
 (Int.toNat (1 : Int)) ++
 en))
 (pr2 (madeL w)).fst
 (pr2 (madeL w)).snd))])
 (bc
 (bif false then true
 else
 decide
 (errO (pr2 (madeL w)).fst
 (pr2 (madeL w)).snd ≠
 (0 : Int)))
 (Q [SV.bool false]
 [((3 : Nat),
 LB.var
 [SV.arr (2 : Nat)
 (Sh.int IntKind.u8).sl x]),
 ((5 : Nat),
 LB.var
 [SV.arr (2 : Nat)
 (Sh.int IntKind.u8) w]),
 ((8 : Nat),
 LB.var
 [SV.arr (2 : Nat)
 (Sh.int IntKind.i64)
 (madeL w)]),
 ((42 : Nat),
 LB.row (5 : Nat) (Sh.int IntKind.u8)
 (List.replicate (0 : Nat)
 (Sh.int IntKind.u8).dflt ++
 gt (Sh.int IntKind.u8).sl x
 (Int.toNat (0 : Int)) ++
 en)),
 ((48 : Nat),
 LB.row (5 : Nat) (Sh.int IntKind.u8)
 (List.replicate (0 : Nat)
 (Sh.int IntKind.u8).dflt ++
 gt (Sh.int IntKind.u8).sl x
 (Int.toNat (1 : Int)) ++
 en)),
 ((1212992 : Nat),
 LB.row (48 : Nat)
 ((Sh.int IntKind.i64).pair
 (Sh.int IntKind.i64))
 (blkO
 (winL (Sh.int IntKind.u8)
 (0 : Nat)
 ((0 : Nat) +
 List.length
 (gt
 (Sh.int IntKind.u8).sl
 x
 (Int.toNat
 (0 : Int))) +
 en.length)
 (List.replicate (0 : Nat)
 (Sh.int
 IntKind.u8).dflt ++
 gt (Sh.int IntKind.u8).sl
 x
 (Int.toNat (0 : Int)) ++
 en))
 (pr2 (madeL w)).fst
 (pr2 (madeL w)).snd)),
 ((1237568 : Nat),
 LB.row (48 : Nat)
 ((Sh.int IntKind.i64).pair
 (Sh.int IntKind.i64))
 (blkO
 (winL (Sh.int IntKind.u8)
 (0 : Nat)
 ((0 : Nat) +
 List.length
 (gt
 (Sh.int IntKind.u8).sl
 x
 (Int.toNat
 (1 : Int))) +
 en.length)
 (List.replicate (0 : Nat)
 (Sh.int
 IntKind.u8).dflt ++
 gt (Sh.int IntKind.u8).sl
 x
 (Int.toNat (1 : Int)) ++
 en))
 (pr2 (madeL w)).fst
 (pr2 (madeL w)).snd))])
 (R (hd Try.f7 (0 : Nat))
 {
 env :=
 [((0 : Nat),
 SV.arr (2 : Nat)
 (Sh.int IntKind.u8).sl x),
 ((1 : Nat),
 SV.sl (Sh.int IntKind.u8) en),
 ((2 : Nat),
 SV.arr (2 : Nat)
 (Sh.int IntKind.u8) w),
 ((3 : Nat),
 SV.ptr (3 : Nat) (0 : Nat)),
 ((5 : Nat),
 SV.ptr (5 : Nat) (0 : Nat)),
 ((6 : Nat), SV.bool false),
 ((7 : Nat), SV.bool true),
 ((8 : Nat),
 SV.ptr (8 : Nat) (0 : Nat)),
 ((9 : Nat),
 SV.win true (Sh.int IntKind.u8)
 (42 : Nat) (0 : Nat)
 ((0 : Nat) +
 List.length
 (gt
 (Sh.int IntKind.u8).sl
 x
 (Int.toNat
 (0 : Int))) +
 en.length)),
 ((10 : Nat),
 SV.win true (Sh.int IntKind.u8)
 (48 : Nat) (0 : Nat)
 ((0 : Nat) +
 List.length
 (gt
 (Sh.int IntKind.u8).sl
 x
 (Int.toNat
 (1 : Int))) +
 en.length)),
 ((11 : Nat),
 SV.win true
 ((Sh.int IntKind.i64).pair
 (Sh.int IntKind.i64))
 (1212992 : Nat) (0 : Nat)
 (blkO
 (winL (Sh.int IntKind.u8)
 (0 : Nat)
 ((0 : Nat) +
 List.length
 (gt
 (Sh.int
 IntKind.u8).sl
 x
 (Int.toNat
 (0 : Int))) +
 en.length)
 (List.replicate
 (0 : Nat)
 (Sh.int
 IntKind.u8).dflt ++
 gt
 (Sh.int
 IntKind.u8).sl
 x
 (Int.toNat
 (0 : Int)) ++
 en))
 (pr2 (madeL w)).fst
 (pr2
 (madeL
 w)).snd).length),
 ((12 : Nat),
 SV.int IntKind.i64
 (errO (pr2 (madeL w)).fst
 (pr2 (madeL w)).snd)),
 ((13 : Nat),
 SV.win true
 ((Sh.int IntKind.i64).pair
 (Sh.int IntKind.i64))
 (1237568 : Nat) (0 : Nat)
 (blkO
 (winL (Sh.int IntKind.u8)
 (0 : Nat)
 ((0 : Nat) +
 List.length
 (gt
 (Sh.int
 IntKind.u8).sl
 x
 (Int.toNat
 (1 : Int))) +
 en.length)
 (List.replicate
 (0 : Nat)
 (Sh.int
 IntKind.u8).dflt ++
 gt
 (Sh.int
 IntKind.u8).sl
 x
 (Int.toNat
 (1 : Int)) ++
 en))
 (pr2 (madeL w)).fst
 (pr2
 (madeL
 w)).snd).length),
 ((14 : Nat),
 SV.int IntKind.i64
 (errO (pr2 (madeL w)).fst
 (pr2 (madeL w)).snd)),
 ((15 : Nat),
 SV.int IntKind.i64 (0 : Int)),
 ((18 : Nat), SV.bool true),
 ((19 : Nat),
 SV.arr (2 : Nat)
 (Sh.int IntKind.u8) w),
 ((20 : Nat),
 SV.arr (2 : Nat)
 (Sh.int IntKind.i64)
 (madeL w)),
 ((21 : Nat),
 SV.aep (Sh.int IntKind.u8).sl
 (3 : Nat) (0 : Nat) (0 : Nat)
 (0 : Nat)),
 ((22 : Nat),
 SV.sl (Sh.int IntKind.u8)
 (gt (Sh.int IntKind.u8).sl x
 (Int.toNat (0 : Int)))),
 ((23 : Nat),
 SV.int IntKind.i64
 (↑(List.length
 (gt
 (Sh.int IntKind.u8).sl
 x
 (Int.toNat
 (0 : Int)))) :
 Int)),
 ((24 : Nat),
 SV.bool
 (decide
 ((100 : Int) <
 (↑(List.length
 (gt
 (Sh.int
 IntKind.u8).sl
 x
 (Int.toNat
 (0 : Int)))) :
 Int)))),
 ((25 : Nat), SV.bool false),
 ((26 : Nat),
 SV.aep (Sh.int IntKind.u8).sl
 (3 : Nat) (0 : Nat) (1 : Nat)
 (0 : Nat)),
 ((27 : Nat),
 SV.sl (Sh.int IntKind.u8)
 (gt (Sh.int IntKind.u8).sl x
 (Int.toNat (1 : Int)))),
 ((28 : Nat),
 SV.int IntKind.i64
 (↑(List.length
 (gt
 (Sh.int IntKind.u8).sl
 x
 (Int.toNat
 (1 : Int)))) :
 Int)),
 ((29 : Nat),
 SV.bool
 (decide
 ((100 : Int) <
 (↑(List.length
 (gt
 (Sh.int
 IntKind.u8).sl
 x
 (Int.toNat
 (1 : Int)))) :
 Int)))),
 ((30 : Nat),
 SV.bool
 (bif false then true
 else
 decide
 ((100 : Int) <
 (↑(List.length
 (gt
 (Sh.int
 IntKind.u8).sl
 x
 (Int.toNat
 (1 : Int)))) :
 Int)))),
 ((31 : Nat), SV.bool false),
 ((32 : Nat),
 SV.sl (Sh.int IntKind.u8) en),
 ((33 : Nat),
 SV.int IntKind.i64
 (↑en.length : Int)),
 ((34 : Nat),
 SV.bool
 (decide
 ((200 : Int) <
 (↑en.length : Int)))),
 ((35 : Nat),
 SV.bool
 (bif false then true
 else
 decide
 ((200 : Int) <
 (↑en.length : Int)))),
 ((38 : Nat),
 SV.aep (Sh.int IntKind.u8).sl
 (3 : Nat) (0 : Nat) (0 : Nat)
 (0 : Nat)),
 ((39 : Nat),
 SV.sl (Sh.int IntKind.u8)
 (gt (Sh.int IntKind.u8).sl x
 (Int.toNat (0 : Int)))),
 ((41 : Nat),
 SV.sl (Sh.int IntKind.u8) en),
 ((42 : Nat),
 SV.win true (Sh.int IntKind.u8)
 (42 : Nat) (0 : Nat)
 ((0 : Nat) +
 List.length
 (gt
 (Sh.int IntKind.u8).sl
 x
 (Int.toNat
 (0 : Int))) +
 en.length)),
 ((44 : Nat),
 SV.aep (Sh.int IntKind.u8).sl
 (3 : Nat) (0 : Nat) (1 : Nat)
 (0 : Nat)),
 ((45 : Nat),
 SV.sl (Sh.int IntKind.u8)
 (gt (Sh.int IntKind.u8).sl x
 (Int.toNat (1 : Int)))),
 ((47 : Nat),
 SV.sl (Sh.int IntKind.u8) en),
 ((48 : Nat),
 SV.win true (Sh.int IntKind.u8)
 (48 : Nat) (0 : Nat)
 ((0 : Nat) +
 List.length
 (gt
 (Sh.int IntKind.u8).sl
 x
 (Int.toNat
 (1 : Int))) +
 en.length)),
 ((49 : Nat),
 SV.tup
 [SV.win true
 ((Sh.int IntKind.i64).pair
 (Sh.int IntKind.i64))
 (1212992 : Nat) (0 : Nat)
 (blkO
 (winL
 (Sh.int IntKind.u8)
 (0 : Nat)
 ((0 : Nat) +
 List.length
 (gt
 (Sh.int
 IntKind.u8).sl
 x
 (Int.toNat
 (0 :
 Int))) +
 en.length)
 (List.replicate
 (0 : Nat)
 (Sh.int
 IntKind.u8).dflt ++
 gt
 (Sh.int
 IntKind.u8).sl
 x
 (Int.toNat
 (0 :
 Int)) ++
 en))
 (pr2 (madeL w)).fst
 (pr2
 (madeL
 w)).snd).length,
 SV.int IntKind.i64
 (errO (pr2 (madeL w)).fst
 (pr2 (madeL w)).snd)]),
 ((50 : Nat),
 SV.win true (Sh.int IntKind.u8)
 (42 : Nat) (0 : Nat)
 ((0 : Nat) +
 List.length
 (gt
 (Sh.int IntKind.u8).sl
 x
 (Int.toNat
 (0 : Int))) +
 en.length)),
 ((51 : Nat),
 SV.arr (2 : Nat)
 (Sh.int IntKind.i64)
 (madeL w)),
 ((52 : Nat),
 SV.tup
 [SV.win true
 ((Sh.int IntKind.i64).pair
 (Sh.int IntKind.i64))
 (1212992 : Nat) (0 : Nat)
 (blkO
 (winL
 (Sh.int IntKind.u8)
 (0 : Nat)
 ((0 : Nat) +
 List.length
 (gt
 (Sh.int
 IntKind.u8).sl
 x
 (Int.toNat
 (0 :
 Int))) +
 en.length)
 (List.replicate
 (0 : Nat)
 (Sh.int
 IntKind.u8).dflt ++
 gt
 (Sh.int
 IntKind.u8).sl
 x
 (Int.toNat
 (0 :
 Int)) ++
 en))
 (pr2 (madeL w)).fst
 (pr2
 (madeL
 w)).snd).length,
 SV.int IntKind.i64
 (errO (pr2 (madeL w)).fst
 (pr2 (madeL w)).snd)]),
 ((53 : Nat),
 SV.win true
 ((Sh.int IntKind.i64).pair
 (Sh.int IntKind.i64))
 (1212992 : Nat) (0 : Nat)
 (blkO
 (winL (Sh.int IntKind.u8)
 (0 : Nat)
 ((0 : Nat) +
 List.length
 (gt
 (Sh.int
 IntKind.u8).sl
 x
 (Int.toNat
 (0 : Int))) +
 en.length)
 (List.replicate
 (0 : Nat)
 (Sh.int
 IntKind.u8).dflt ++
 gt
 (Sh.int
 IntKind.u8).sl
 x
 (Int.toNat
 (0 : Int)) ++
 en))
 (pr2 (madeL w)).fst
 (pr2
 (madeL
 w)).snd).length),
 ((54 : Nat),
 SV.int IntKind.i64
 (errO (pr2 (madeL w)).fst
 (pr2 (madeL w)).snd)),
 ((55 : Nat),
 SV.tup
 [SV.win true
 ((Sh.int IntKind.i64).pair
 (Sh.int IntKind.i64))
 (1237568 : Nat) (0 : Nat)
 (blkO
 (winL
 (Sh.int IntKind.u8)
 (0 : Nat)
 ((0 : Nat) +
 List.length
 (gt
 (Sh.int
 IntKind.u8).sl
 x
 (Int.toNat
 (1 :
 Int))) +
 en.length)
 (List.replicate
 (0 : Nat)
 (Sh.int
 IntKind.u8).dflt ++
 gt
 (Sh.int
 IntKind.u8).sl
 x
 (Int.toNat
 (1 :
 Int)) ++
 en))
 (pr2 (madeL w)).fst
 (pr2
 (madeL
 w)).snd).length,
 SV.int IntKind.i64
 (errO (pr2 (madeL w)).fst
 (pr2 (madeL w)).snd)]),
 ((56 : Nat),
 SV.win true (Sh.int IntKind.u8)
 (48 : Nat) (0 : Nat)
 ((0 : Nat) +
 List.length
 (gt
 (Sh.int IntKind.u8).sl
 x
 (Int.toNat
 (1 : Int))) +
 en.length)),
 ((57 : Nat),
 SV.arr (2 : Nat)
 (Sh.int IntKind.i64)
 (madeL w)),
 ((58 : Nat),
 SV.tup
 [SV.win true
 ((Sh.int IntKind.i64).pair
 (Sh.int IntKind.i64))
 (1237568 : Nat) (0 : Nat)
 (blkO
 (winL
 (Sh.int IntKind.u8)
 (0 : Nat)
 ((0 : Nat) +
 List.length
 (gt
 (Sh.int
 IntKind.u8).sl
 x
 (Int.toNat
 (1 :
 Int))) +
 en.length)
 (List.replicate
 (0 : Nat)
 (Sh.int
 IntKind.u8).dflt ++
 gt
 (Sh.int
 IntKind.u8).sl
 x
 (Int.toNat
 (1 :
 Int)) ++
 en))
 (pr2 (madeL w)).fst
 (pr2
 (madeL
 w)).snd).length,
 SV.int IntKind.i64
 (errO (pr2 (madeL w)).fst
 (pr2 (madeL w)).snd)]),
 ((59 : Nat),
 SV.win true
 ((Sh.int IntKind.i64).pair
 (Sh.int IntKind.i64))
 (1237568 : Nat) (0 : Nat)
 (blkO
 (winL (Sh.int IntKind.u8)
 (0 : Nat)
 ((0 : Nat) +
 List.length
 (gt
 (Sh.int
 IntKind.u8).sl
 x
 (Int.toNat
 (1 : Int))) +
 en.length)
 (List.replicate
 (0 : Nat)
 (Sh.int
 IntKind.u8).dflt ++
 gt
 (Sh.int
 IntKind.u8).sl
 x
 (Int.toNat
 (1 : Int)) ++
 en))
 (pr2 (madeL w)).fst
 (pr2
 (madeL
 w)).snd).length),
 ((60 : Nat),
 SV.int IntKind.i64
 (errO (pr2 (madeL w)).fst
 (pr2 (madeL w)).snd)),
 ((61 : Nat),
 SV.int IntKind.i64
 (errO (pr2 (madeL w)).fst
 (pr2 (madeL w)).snd)),
 ((62 : Nat),
 SV.bool
 (decide
 (errO (pr2 (madeL w)).fst
 (pr2 (madeL w)).snd ≠
 (0 : Int)))),
 ((63 : Nat), SV.bool false),
 ((64 : Nat),
 SV.int IntKind.i64
 (errO (pr2 (madeL w)).fst
 (pr2 (madeL w)).snd)),
 ((65 : Nat),
 SV.bool
 (decide
 (errO (pr2 (madeL w)).fst
 (pr2 (madeL w)).snd ≠
 (0 : Int)))),
 ((66 : Nat),
 SV.bool
 (bif false then true
 else
 decide
 (errO (pr2 (madeL w)).fst
 (pr2 (madeL w)).snd ≠
 (0 : Int))))],
 blk :=
 [((3 : Nat),
 LB.var
 [SV.arr (2 : Nat)
 (Sh.int IntKind.u8).sl
 x]),
 ((5 : Nat),
 LB.var
 [SV.arr (2 : Nat)
 (Sh.int IntKind.u8) w]),
 ((8 : Nat),
 LB.var
 [SV.arr (2 : Nat)
 (Sh.int IntKind.i64)
 (madeL w)]),
 ((42 : Nat),
 LB.row (5 : Nat)
 (Sh.int IntKind.u8)
 (List.replicate (0 : Nat)
 (Sh.int
 IntKind.u8).dflt ++
 gt (Sh.int IntKind.u8).sl
 x
 (Int.toNat (0 : Int)) ++
 en)),
 ((48 : Nat),
 LB.row (5 : Nat)
 (Sh.int IntKind.u8)
 (List.replicate (0 : Nat)
 (Sh.int
 IntKind.u8).dflt ++
 gt (Sh.int IntKind.u8).sl
 x
 (Int.toNat (1 : Int)) ++
 en)),
 ((1212992 : Nat),
 LB.row (48 : Nat)
 ((Sh.int IntKind.i64).pair
 (Sh.int IntKind.i64))
 (blkO
 (winL (Sh.int IntKind.u8)
 (0 : Nat)
 ((0 : Nat) +
 List.length
 (gt
 (Sh.int
 IntKind.u8).sl
 x
 (Int.toNat
 (0 : Int))) +
 en.length)
 (List.replicate (0 : Nat)
 (Sh.int
 IntKind.u8).dflt ++
 gt
 (Sh.int
 IntKind.u8).sl
 x
 (Int.toNat
 (0 : Int)) ++
 en))
 (pr2 (madeL w)).fst
 (pr2 (madeL w)).snd)),
 ((1237568 : Nat),
 LB.row (48 : Nat)
 ((Sh.int IntKind.i64).pair
 (Sh.int IntKind.i64))
 (blkO
 (winL (Sh.int IntKind.u8)
 (0 : Nat)
 ((0 : Nat) +
 List.length
 (gt
 (Sh.int
 IntKind.u8).sl
 x
 (Int.toNat
 (1 : Int))) +
 en.length)
 (List.replicate (0 : Nat)
 (Sh.int
 IntKind.u8).dflt ++
 gt
 (Sh.int
 IntKind.u8).sl
 x
 (Int.toNat
 (1 : Int)) ++
 en))
 (pr2 (madeL w)).fst
 (pr2
 (madeL w)).snd))] })))))) := by kernel_rfl
theorem vc_l7A (x : List (List Int)) (r s : List (Int × Int)) (i : Int) (Q : List SV → List (Nat × LB) → Prop) (R : List Item → PS → Prop) : sy tt G0 D10 Try.f7.ntmps Try.f7.results.toList Q (fun it S => R it (keepS [3, 7, 11, 13, 15, 16] [3, 1212992, 1237568] S)) 1000 (hd Try.f7 0) ⟨[(3, .ptr 3 0), (7, .bool true), (11, .win true (.pair (.int .i64) (.int .i64)) 1212992 0 r.length), (13, .win true (.pair (.int .i64) (.int .i64)) 1237568 0 s.length), (15, .int .i64 i)], [(3, .var [.arr 2 (.sl (.int .u8)) x]), (1212992, .row 48 (.pair (.int .i64) (.int .i64)) r), (1237568, .row 48 (.pair (.int .i64) (.int .i64)) s)]⟩ =
    (bc (decide (i < (↑r.length : Int)))
 (R (hd Try.f7 (1 : Nat))
 {
 env :=
 [((3 : Nat), SV.ptr (3 : Nat) (0 : Nat)), ((7 : Nat), SV.bool true),
 ((11 : Nat), SV.win true ((Sh.int IntKind.i64).pair (Sh.int IntKind.i64)) (1212992 : Nat) (0 : Nat) r.length),
 ((13 : Nat), SV.win true ((Sh.int IntKind.i64).pair (Sh.int IntKind.i64)) (1237568 : Nat) (0 : Nat) s.length),
 ((15 : Nat), SV.int IntKind.i64 i), ((16 : Nat), SV.int IntKind.i64 (0 : Int))],
 blk :=
 [((3 : Nat), LB.var [SV.arr (2 : Nat) (Sh.int IntKind.u8).sl x]),
 ((1212992 : Nat), LB.row (48 : Nat) ((Sh.int IntKind.i64).pair (Sh.int IntKind.i64)) r),
 ((1237568 : Nat), LB.row (48 : Nat) ((Sh.int IntKind.i64).pair (Sh.int IntKind.i64)) s)] })
 (Q [SV.bool true]
 [((3 : Nat), LB.var [SV.arr (2 : Nat) (Sh.int IntKind.u8).sl x]),
 ((1212992 : Nat), LB.row (48 : Nat) ((Sh.int IntKind.i64).pair (Sh.int IntKind.i64)) r),
 ((1237568 : Nat), LB.row (48 : Nat) ((Sh.int IntKind.i64).pair (Sh.int IntKind.i64)) s)])) := by kernel_rfl
theorem vc_l7B (x : List (List Int)) (r s : List (Int × Int)) (i k : Int) (Q : List SV → List (Nat × LB) → Prop) (R : List Item → PS → Prop) : sy tt G0 D10 Try.f7.ntmps Try.f7.results.toList Q (fun it S => R it (keepS [3, 7, 11, 13, 15, 16] [3, 1212992, 1237568] S)) 1000 (hd Try.f7 1) ⟨[(3, .ptr 3 0), (7, .bool true), (11, .win true (.pair (.int .i64) (.int .i64)) 1212992 0 r.length), (13, .win true (.pair (.int .i64) (.int .i64)) 1237568 0 s.length), (15, .int .i64 i), (16, .int .i64 k)], [(3, .var [.arr 2 (.sl (.int .u8)) x]), (1212992, .row 48 (.pair (.int .i64) (.int .i64)) r), (1237568, .row 48 (.pair (.int .i64) (.int .i64)) s)]⟩ =
    (bc (decide (k < (↑s.length : Int)))
 ((0 : Int) ≤ i ∧
 i < (↑r.length : Int) ∧
 (0 : Nat) + i.toNat < r.length ∧
 (0 : Int) ≤ (0 : Int) ∧
 (0 : Int) < (↑(2 : Nat) : Int) ∧
 Int.toNat (0 : Int) < (2 : Nat) ∧
 bc
 (decide
 (IntKind.i64.wrap
 ((gt ((Sh.int IntKind.i64).pair (Sh.int IntKind.i64)) r ((0 : Nat) + i.toNat)).fst -
 (↑(List.length (gt (Sh.int IntKind.u8).sl x (Int.toNat (0 : Int)))) : Int)) <
 (0 : Int)))
 (true = true ∧
 R (hd Try.f7 (1 : Nat))
 {
 env :=
 [((3 : Nat), SV.ptr (3 : Nat) (0 : Nat)), ((7 : Nat), SV.bool true),
 ((11 : Nat),
 SV.win true ((Sh.int IntKind.i64).pair (Sh.int IntKind.i64)) (1212992 : Nat) (0 : Nat)
 r.length),
 ((13 : Nat),
 SV.win true ((Sh.int IntKind.i64).pair (Sh.int IntKind.i64)) (1237568 : Nat) (0 : Nat)
 s.length),
 ((15 : Nat), SV.int IntKind.i64 i),
 ((16 : Nat), SV.int IntKind.i64 (IntKind.i64.wrap (k + (1 : Int))))],
 blk :=
 [((3 : Nat), LB.var [SV.arr (2 : Nat) (Sh.int IntKind.u8).sl x]),
 ((1212992 : Nat), LB.row (48 : Nat) ((Sh.int IntKind.i64).pair (Sh.int IntKind.i64)) r),
 ((1237568 : Nat), LB.row (48 : Nat) ((Sh.int IntKind.i64).pair (Sh.int IntKind.i64)) s)] })
 ((0 : Int) ≤ k ∧
 k < (↑s.length : Int) ∧
 (0 : Nat) + k.toNat < s.length ∧
 (0 : Int) ≤ (1 : Int) ∧
 (1 : Int) < (↑(2 : Nat) : Int) ∧
 Int.toNat (1 : Int) < (2 : Nat) ∧
 bc
 (bif false then true
 else
 decide
 (IntKind.i64.wrap
 ((gt ((Sh.int IntKind.i64).pair (Sh.int IntKind.i64)) r
 ((0 : Nat) + i.toNat)).fst -
 (↑(List.length (gt (Sh.int IntKind.u8).sl x (Int.toNat (0 : Int)))) : Int)) ≠
 IntKind.i64.wrap
 ((gt ((Sh.int IntKind.i64).pair (Sh.int IntKind.i64)) s
 ((0 : Nat) + k.toNat)).fst -
 (↑(List.length (gt (Sh.int IntKind.u8).sl x (Int.toNat (1 : Int)))) : Int))))
 (R (hd Try.f7 (1 : Nat))
 {
 env :=
 [((3 : Nat), SV.ptr (3 : Nat) (0 : Nat)), ((7 : Nat), SV.bool true),
 ((11 : Nat),
 SV.win true ((Sh.int IntKind.i64).pair (Sh.int IntKind.i64)) (1212992 : Nat)
 (0 : Nat) r.length),
 ((13 : Nat),
 SV.win true ((Sh.int IntKind.i64).pair (Sh.int IntKind.i64)) (1237568 : Nat)
 (0 : Nat) s.length),
 ((15 : Nat), SV.int IntKind.i64 i),
 ((16 : Nat), SV.int IntKind.i64 (IntKind.i64.wrap (k + (1 : Int))))],
 blk :=
 [((3 : Nat), LB.var [SV.arr (2 : Nat) (Sh.int IntKind.u8).sl x]),
 ((1212992 : Nat),
 LB.row (48 : Nat) ((Sh.int IntKind.i64).pair (Sh.int IntKind.i64)) r),
 ((1237568 : Nat),
 LB.row (48 : Nat) ((Sh.int IntKind.i64).pair (Sh.int IntKind.i64)) s)] })
 ((0 : Int) ≤ i ∧
 i ≤ (↑r.length : Int) ∧
 (0 : Nat) + r.length ≤ r.length ∧
 (0 : Int) ≤ (0 : Int) ∧
 (0 : Int) < (↑(2 : Nat) : Int) ∧
 Int.toNat (0 : Int) < (2 : Nat) ∧
 (0 : Nat) + i.toNat + (r.length - i.toNat) ≤ r.length ∧
 ctRg.pre
 (winL rgS ((0 : Nat) + i.toNat) (r.length - i.toNat) r,
 IntKind.i64.wrap
 ((0 : Int) -
 (↑(List.length
 (gt (Sh.int IntKind.u8).sl x (Int.toNat (0 : Int)))) :
 Int)),
 ()) ∧
 (0 : Int) ≤ k ∧
 k ≤ (↑s.length : Int) ∧
 (0 : Nat) + s.length ≤ s.length ∧
 (0 : Int) ≤ (1 : Int) ∧
 (1 : Int) < (↑(2 : Nat) : Int) ∧
 Int.toNat (1 : Int) < (2 : Nat) ∧
 (0 : Nat) + k.toNat + (s.length - k.toNat) ≤ s.length ∧
 ctRg.pre
 (winL rgS ((0 : Nat) + k.toNat) (s.length - k.toNat) s,
 IntKind.i64.wrap
 ((0 : Int) -
 (↑(List.length
 (gt (Sh.int IntKind.u8).sl x
 (Int.toNat (1 : Int)))) :
 Int)),
 ()) ∧
 (0 : Nat) +
 (mvR
 (winL rgS ((0 : Nat) + i.toNat)
 (r.length - i.toNat) r)
 (IntKind.i64.wrap
 ((0 : Int) -
 (↑(List.length
 (gt (Sh.int IntKind.u8).sl x
 (Int.toNat (0 : Int)))) :
 Int)))).length ≤
 (mvR
 (winL rgS ((0 : Nat) + i.toNat)
 (r.length - i.toNat) r)
 (IntKind.i64.wrap
 ((0 : Int) -
 (↑(List.length
 (gt (Sh.int IntKind.u8).sl x
 (Int.toNat (0 : Int)))) :
 Int)))).length ∧
 (0 : Nat) +
 (mvR
 (winL rgS ((0 : Nat) + k.toNat)
 (s.length - k.toNat) s)
 (IntKind.i64.wrap
 ((0 : Int) -
 (↑(List.length
 (gt (Sh.int IntKind.u8).sl x
 (Int.toNat (1 : Int)))) :
 Int)))).length ≤
 (mvR
 (winL rgS ((0 : Nat) + k.toNat)
 (s.length - k.toNat) s)
 (IntKind.i64.wrap
 ((0 : Int) -
 (↑(List.length
 (gt (Sh.int IntKind.u8).sl x
 (Int.toNat (1 : Int)))) :
 Int)))).length ∧
 ctRngs.pre
 (winL rgS (0 : Nat)
 (mvR
 (winL rgS ((0 : Nat) + i.toNat)
 (r.length - i.toNat) r)
 (IntKind.i64.wrap
 ((0 : Int) -
 (↑(List.length
 (gt (Sh.int IntKind.u8).sl x
 (Int.toNat (0 : Int)))) :
 Int)))).length
 (mvR
 (winL rgS ((0 : Nat) + i.toNat)
 (r.length - i.toNat) r)
 (IntKind.i64.wrap
 ((0 : Int) -
 (↑(List.length
 (gt (Sh.int IntKind.u8).sl x
 (Int.toNat (0 : Int)))) :
 Int)))),
 winL rgS (0 : Nat)
 (mvR
 (winL rgS ((0 : Nat) + k.toNat)
 (s.length - k.toNat) s)
 (IntKind.i64.wrap
 ((0 : Int) -
 (↑(List.length
 (gt (Sh.int IntKind.u8).sl x
 (Int.toNat (1 : Int)))) :
 Int)))).length
 (mvR
 (winL rgS ((0 : Nat) + k.toNat)
 (s.length - k.toNat) s)
 (IntKind.i64.wrap
 ((0 : Int) -
 (↑(List.length
 (gt (Sh.int IntKind.u8).sl x
 (Int.toNat (1 : Int)))) :
 Int)))),
 ()) ∧
 bc
 (eqR
 (winL rgS (0 : Nat)
 (mvR
 (winL rgS ((0 : Nat) + i.toNat)
 (r.length - i.toNat) r)
 (IntKind.i64.wrap
 ((0 : Int) -
 (↑(List.length
 (gt (Sh.int IntKind.u8).sl x
 (Int.toNat (0 : Int)))) :
 Int)))).length
 (mvR
 (winL rgS ((0 : Nat) + i.toNat)
 (r.length - i.toNat) r)
 (IntKind.i64.wrap
 ((0 : Int) -
 (↑(List.length
 (gt (Sh.int IntKind.u8).sl x
 (Int.toNat (0 : Int)))) :
 Int)))))
 (winL rgS (0 : Nat)
 (mvR
 (winL rgS ((0 : Nat) + k.toNat)
 (s.length - k.toNat) s)
 (IntKind.i64.wrap
 ((0 : Int) -
 (↑(List.length
 (gt (Sh.int IntKind.u8).sl x
 (Int.toNat (1 : Int)))) :
 Int)))).length
 (mvR
 (winL rgS ((0 : Nat) + k.toNat)
 (s.length - k.toNat) s)
 (IntKind.i64.wrap
 ((0 : Int) -
 (↑(List.length
 (gt (Sh.int IntKind.u8).sl x
 (Int.toNat (1 : Int)))) :
 Int))))))
 (Q [SV.bool (bif true then true else false)]
 [((3 : Nat),
 LB.var
 [SV.arr (2 : Nat) (Sh.int IntKind.u8).sl
 x]),
 ((1212992 : Nat),
 LB.row (48 : Nat)
 ((Sh.int IntKind.i64).pair
 (Sh.int IntKind.i64))
 r),
 ((1237568 : Nat),
 LB.row (48 : Nat)
 ((Sh.int IntKind.i64).pair
 (Sh.int IntKind.i64))
 s),
 ((1450560 : Nat),
 LB.row (48 : Nat)
 ((Sh.int IntKind.i64).pair
 (Sh.int IntKind.i64))
 (mvR
 (winL rgS ((0 : Nat) + i.toNat)
 (r.length - i.toNat) r)
 (IntKind.i64.wrap
 ((0 : Int) -
 (↑(List.length
 (gt (Sh.int IntKind.u8).sl x
 (Int.toNat (0 : Int)))) :
 Int))))),
 ((1483328 : Nat),
 LB.row (48 : Nat)
 ((Sh.int IntKind.i64).pair
 (Sh.int IntKind.i64))
 (mvR
 (winL rgS ((0 : Nat) + k.toNat)
 (s.length - k.toNat) s)
 (IntKind.i64.wrap
 ((0 : Int) -
 (↑(List.length
 (gt (Sh.int IntKind.u8).sl x
 (Int.toNat (1 : Int)))) :
 Int)))))])
 (false = false ∧
 Q [SV.bool false]
 [((3 : Nat),
 LB.var
 [SV.arr (2 : Nat) (Sh.int IntKind.u8).sl
 x]),
 ((1212992 : Nat),
 LB.row (48 : Nat)
 ((Sh.int IntKind.i64).pair
 (Sh.int IntKind.i64))
 r),
 ((1237568 : Nat),
 LB.row (48 : Nat)
 ((Sh.int IntKind.i64).pair
 (Sh.int IntKind.i64))
 s),
 ((1450560 : Nat),
 LB.row (48 : Nat)
 ((Sh.int IntKind.i64).pair
 (Sh.int IntKind.i64))
 (mvR
 (winL rgS ((0 : Nat) + i.toNat)
 (r.length - i.toNat) r)
 (IntKind.i64.wrap
 ((0 : Int) -
 (↑(List.length
 (gt (Sh.int IntKind.u8).sl x
 (Int.toNat (0 : Int)))) :
 Int))))),
 ((1483328 : Nat),
 LB.row (48 : Nat)
 ((Sh.int IntKind.i64).pair
 (Sh.int IntKind.i64))
 (mvR
 (winL rgS ((0 : Nat) + k.toNat)
 (s.length - k.toNat) s)
 (IntKind.i64.wrap
 ((0 : Int) -
 (↑(List.length
 (gt (Sh.int IntKind.u8).sl x
 (Int.toNat (1 : Int)))) :
 Int)))))]))))
 (R (hd Try.f7 (0 : Nat))
 {
 env :=
 [((3 : Nat), SV.ptr (3 : Nat) (0 : Nat)), ((7 : Nat), SV.bool true),
 ((11 : Nat), SV.win true ((Sh.int IntKind.i64).pair (Sh.int IntKind.i64)) (1212992 : Nat) (0 : Nat) r.length),
 ((13 : Nat), SV.win true ((Sh.int IntKind.i64).pair (Sh.int IntKind.i64)) (1237568 : Nat) (0 : Nat) s.length),
 ((15 : Nat), SV.int IntKind.i64 (IntKind.i64.wrap (i + (1 : Int)))), ((16 : Nat), SV.int IntKind.i64 k)],
 blk :=
 [((3 : Nat), LB.var [SV.arr (2 : Nat) (Sh.int IntKind.u8).sl x]),
 ((1212992 : Nat), LB.row (48 : Nat) ((Sh.int IntKind.i64).pair (Sh.int IntKind.i64)) r),
 ((1237568 : Nat), LB.row (48 : Nat) ((Sh.int IntKind.i64).pair (Sh.int IntKind.i64)) s)] })) := by kernel_rfl
end Go.Proofs.Ytgffokpiklnpmaa
namespace Go.Proofs.Ytgffokpiklnpmaa
open Go.Px Go.Ax
set_option maxRecDepth 100000
theorem vc_l5 (b w : List Int) (Q : List SV → List (Nat × LB) → Prop) (R : List Item → PS → Prop) : sy tt G0 D10 Try.f5.ntmps Try.f5.results.toList Q R 1000 [.code (bodyOf Try.f5)] (entry [.sl (.int .u8), .arr 2 (.int .u8)] (b, w, ())) =
    (ctSan.pre () ∧
 ctMade.pre (w, ()) ∧
 bc (decide ((200 : Int) < (↑b.length : Int)))
 (Q [SV.bool true]
 [((3 : Nat), LB.var [SV.arr (2 : Nat) (Sh.int IntKind.u8) w]),
 ((6 : Nat), LB.var [SV.arr (2 : Nat) (Sh.int IntKind.i64) (madeL w)])])
 (ctLb.pre (b, madeL w, ()) ∧
 bc (decide (errO (pr2 (madeL w)).fst (pr2 (madeL w)).snd ≠ (0 : Int)))
 (Q [SV.bool false]
 [((3 : Nat), LB.var [SV.arr (2 : Nat) (Sh.int IntKind.u8) w]),
 ((6 : Nat), LB.var [SV.arr (2 : Nat) (Sh.int IntKind.i64) (madeL w)]),
 ((1090112 : Nat),
 LB.row (48 : Nat) ((Sh.int IntKind.i64).pair (Sh.int IntKind.i64))
 (blkO b (pr2 (madeL w)).fst (pr2 (madeL w)).snd))])
 (R (hd Try.f5 (0 : Nat))
 {
 env :=
 [((0 : Nat), SV.sl (Sh.int IntKind.u8) b), ((1 : Nat), SV.arr (2 : Nat) (Sh.int IntKind.u8) w),
 ((3 : Nat), SV.ptr (3 : Nat) (0 : Nat)), ((4 : Nat), SV.bool false), ((5 : Nat), SV.bool true),
 ((6 : Nat), SV.ptr (6 : Nat) (0 : Nat)),
 ((7 : Nat),
 SV.win true ((Sh.int IntKind.i64).pair (Sh.int IntKind.i64)) (1090112 : Nat) (0 : Nat)
 (blkO b (pr2 (madeL w)).fst (pr2 (madeL w)).snd).length),
 ((8 : Nat), SV.int IntKind.i64 (errO (pr2 (madeL w)).fst (pr2 (madeL w)).snd)),
 ((9 : Nat), SV.int IntKind.i64 (0 : Int)), ((12 : Nat), SV.bool true),
 ((13 : Nat), SV.arr (2 : Nat) (Sh.int IntKind.u8) w),
 ((14 : Nat), SV.arr (2 : Nat) (Sh.int IntKind.i64) (madeL w)),
 ((15 : Nat), SV.sl (Sh.int IntKind.u8) b), ((16 : Nat), SV.int IntKind.i64 (↑b.length : Int)),
 ((17 : Nat), SV.bool (decide ((200 : Int) < (↑b.length : Int)))),
 ((19 : Nat),
 SV.tup
 [SV.win true ((Sh.int IntKind.i64).pair (Sh.int IntKind.i64)) (1090112 : Nat) (0 : Nat)
 (blkO b (pr2 (madeL w)).fst (pr2 (madeL w)).snd).length,
 SV.int IntKind.i64 (errO (pr2 (madeL w)).fst (pr2 (madeL w)).snd)]),
 ((20 : Nat), SV.sl (Sh.int IntKind.u8) b),
 ((21 : Nat), SV.arr (2 : Nat) (Sh.int IntKind.i64) (madeL w)),
 ((22 : Nat),
 SV.tup
 [SV.win true ((Sh.int IntKind.i64).pair (Sh.int IntKind.i64)) (1090112 : Nat) (0 : Nat)
 (blkO b (pr2 (madeL w)).fst (pr2 (madeL w)).snd).length,
 SV.int IntKind.i64 (errO (pr2 (madeL w)).fst (pr2 (madeL w)).snd)]),
 ((23 : Nat),
 SV.win true ((Sh.int IntKind.i64).pair (Sh.int IntKind.i64)) (1090112 : Nat) (0 : Nat)
 (blkO b (pr2 (madeL w)).fst (pr2 (madeL w)).snd).length),
 ((24 : Nat), SV.int IntKind.i64 (errO (pr2 (madeL w)).fst (pr2 (madeL w)).snd)),
 ((25 : Nat), SV.int IntKind.i64 (errO (pr2 (madeL w)).fst (pr2 (madeL w)).snd)),
 ((26 : Nat), SV.bool (decide (errO (pr2 (madeL w)).fst (pr2 (madeL w)).snd ≠ (0 : Int))))],
 blk :=
 [((3 : Nat), LB.var [SV.arr (2 : Nat) (Sh.int IntKind.u8) w]),
 ((6 : Nat), LB.var [SV.arr (2 : Nat) (Sh.int IntKind.i64) (madeL w)]),
 ((1090112 : Nat),
 LB.row (48 : Nat) ((Sh.int IntKind.i64).pair (Sh.int IntKind.i64))
 (blkO b (pr2 (madeL w)).fst (pr2 (madeL w)).snd))] }))) := by kernel_rfl
theorem vc_l5L (b w : List Int) (r : List (Int × Int)) (i : Int) (Q : List SV → List (Nat × LB) → Prop) (R : List Item → PS → Prop) : sy tt G0 D10 Try.f5.ntmps Try.f5.results.toList Q (fun it S => R it (keepS [0, 5, 6, 7, 9] [6, 1090112] S)) 1000 (hd Try.f5 0) ⟨[(0, .sl (.int .u8) b), (5, .bool true), (6, .ptr 6 0), (7, .win true (.pair (.int .i64) (.int .i64)) 1090112 0 r.length), (9, .int .i64 i)], [(6, .var [.arr 2 (.int .i64) w]), (1090112, .row 48 (.pair (.int .i64) (.int .i64)) r)]⟩ =
    (bc (decide (i < (↑r.length : Int)))
 ((0 : Int) ≤ i ∧
 i < (↑r.length : Int) ∧
 (0 : Nat) + i.toNat < r.length ∧
 bc (decide ((gt ((Sh.int IntKind.i64).pair (Sh.int IntKind.i64)) r ((0 : Nat) + i.toNat)).fst < (0 : Int)))
 (true = true ∧
 Q [SV.bool false]
 [((6 : Nat), LB.var [SV.arr (2 : Nat) (Sh.int IntKind.i64) w]),
 ((1090112 : Nat), LB.row (48 : Nat) ((Sh.int IntKind.i64).pair (Sh.int IntKind.i64)) r)])
 ((0 : Int) ≤ i ∧
 i < (↑r.length : Int) ∧
 (0 : Nat) + i.toNat < r.length ∧
 bc
 (bif false then true
 else
 decide
 ((↑b.length : Int) <
 (gt ((Sh.int IntKind.i64).pair (Sh.int IntKind.i64)) r ((0 : Nat) + i.toNat)).fst))
 (Q [SV.bool false]
 [((6 : Nat), LB.var [SV.arr (2 : Nat) (Sh.int IntKind.i64) w]),
 ((1090112 : Nat), LB.row (48 : Nat) ((Sh.int IntKind.i64).pair (Sh.int IntKind.i64)) r)])
 ((0 : Int) ≤ i ∧
 i < (↑r.length : Int) ∧
 (0 : Nat) + i.toNat < r.length ∧
 (0 : Int) ≤ (gt ((Sh.int IntKind.i64).pair (Sh.int IntKind.i64)) r ((0 : Nat) + i.toNat)).fst ∧
 (gt ((Sh.int IntKind.i64).pair (Sh.int IntKind.i64)) r ((0 : Nat) + i.toNat)).fst ≤
 (↑b.length : Int) ∧
 ctLb.pre
 (List.drop
 (Int.toNat
 (gt ((Sh.int IntKind.i64).pair (Sh.int IntKind.i64)) r ((0 : Nat) + i.toNat)).fst)
 b,
 w, ()) ∧
 bc (decide (errO (pr2 w).fst (pr2 w).snd ≠ (0 : Int)))
 (true = true ∧
 Q [SV.bool false]
 [((6 : Nat), LB.var [SV.arr (2 : Nat) (Sh.int IntKind.i64) w]),
 ((1090112 : Nat),
 LB.row (48 : Nat) ((Sh.int IntKind.i64).pair (Sh.int IntKind.i64)) r),
 ((1237568 : Nat),
 LB.row (48 : Nat) ((Sh.int IntKind.i64).pair (Sh.int IntKind.i64))
 (blkO
 (List.drop
 (Int.toNat
 (gt ((Sh.int IntKind.i64).pair (Sh.int IntKind.i64)) r
 ((0 : Nat) + i.toNat)).fst)
 b)
 (pr2 w).fst (pr2 w).snd))])
 ((0 : Int) ≤ i ∧
 i < (↑r.length : Int) ∧
 (0 : Nat) + i.toNat < r.length ∧
 (0 : Nat) +
 (blkO
 (List.drop
 (Int.toNat
 (gt ((Sh.int IntKind.i64).pair (Sh.int IntKind.i64)) r
 ((0 : Nat) + i.toNat)).fst)
 b)
 (pr2 w).fst (pr2 w).snd).length ≤
 (blkO
 (List.drop
 (Int.toNat
 (gt ((Sh.int IntKind.i64).pair (Sh.int IntKind.i64)) r
 ((0 : Nat) + i.toNat)).fst)
 b)
 (pr2 w).fst (pr2 w).snd).length ∧
 ctRg.pre
 (winL rgS (0 : Nat)
 (blkO
 (List.drop
 (Int.toNat
 (gt ((Sh.int IntKind.i64).pair (Sh.int IntKind.i64)) r
 ((0 : Nat) + i.toNat)).fst)
 b)
 (pr2 w).fst (pr2 w).snd).length
 (blkO
 (List.drop
 (Int.toNat
 (gt ((Sh.int IntKind.i64).pair (Sh.int IntKind.i64)) r
 ((0 : Nat) + i.toNat)).fst)
 b)
 (pr2 w).fst (pr2 w).snd),
 (gt ((Sh.int IntKind.i64).pair (Sh.int IntKind.i64)) r
 ((0 : Nat) + i.toNat)).fst,
 ()) ∧
 (0 : Int) ≤ i ∧
 i ≤ (↑r.length : Int) ∧
 (0 : Nat) + r.length ≤ r.length ∧
 (0 : Nat) +
 (mvR
 (winL rgS (0 : Nat)
 (blkO
 (List.drop
 (Int.toNat
 (gt ((Sh.int IntKind.i64).pair (Sh.int IntKind.i64))
 r ((0 : Nat) + i.toNat)).fst)
 b)
 (pr2 w).fst (pr2 w).snd).length
 (blkO
 (List.drop
 (Int.toNat
 (gt ((Sh.int IntKind.i64).pair (Sh.int IntKind.i64)) r
 ((0 : Nat) + i.toNat)).fst)
 b)
 (pr2 w).fst (pr2 w).snd))
 (gt ((Sh.int IntKind.i64).pair (Sh.int IntKind.i64)) r
 ((0 : Nat) + i.toNat)).fst).length ≤
 (mvR
 (winL rgS (0 : Nat)
 (blkO
 (List.drop
 (Int.toNat
 (gt ((Sh.int IntKind.i64).pair (Sh.int IntKind.i64)) r
 ((0 : Nat) + i.toNat)).fst)
 b)
 (pr2 w).fst (pr2 w).snd).length
 (blkO
 (List.drop
 (Int.toNat
 (gt ((Sh.int IntKind.i64).pair (Sh.int IntKind.i64)) r
 ((0 : Nat) + i.toNat)).fst)
 b)
 (pr2 w).fst (pr2 w).snd))
 (gt ((Sh.int IntKind.i64).pair (Sh.int IntKind.i64)) r
 ((0 : Nat) + i.toNat)).fst).length ∧
 (0 : Nat) + i.toNat + (r.length - i.toNat) ≤ r.length ∧
 ctRngs.pre
 (winL rgS (0 : Nat)
 (mvR
 (winL rgS (0 : Nat)
 (blkO
 (List.drop
 (Int.toNat
 (gt
 ((Sh.int IntKind.i64).pair
 (Sh.int IntKind.i64))
 r ((0 : Nat) + i.toNat)).fst)
 b)
 (pr2 w).fst (pr2 w).snd).length
 (blkO
 (List.drop
 (Int.toNat
 (gt
 ((Sh.int IntKind.i64).pair
 (Sh.int IntKind.i64))
 r ((0 : Nat) + i.toNat)).fst)
 b)
 (pr2 w).fst (pr2 w).snd))
 (gt ((Sh.int IntKind.i64).pair (Sh.int IntKind.i64)) r
 ((0 : Nat) + i.toNat)).fst).length
 (mvR
 (winL rgS (0 : Nat)
 (blkO
 (List.drop
 (Int.toNat
 (gt
 ((Sh.int IntKind.i64).pair
 (Sh.int IntKind.i64))
 r ((0 : Nat) + i.toNat)).fst)
 b)
 (pr2 w).fst (pr2 w).snd).length
 (blkO
 (List.drop
 (Int.toNat
 (gt
 ((Sh.int IntKind.i64).pair
 (Sh.int IntKind.i64))
 r ((0 : Nat) + i.toNat)).fst)
 b)
 (pr2 w).fst (pr2 w).snd))
 (gt ((Sh.int IntKind.i64).pair (Sh.int IntKind.i64)) r
 ((0 : Nat) + i.toNat)).fst),
 winL rgS ((0 : Nat) + i.toNat) (r.length - i.toNat) r, ()) ∧
 bc
 (bif false then true
 else
 !eqR
 (winL rgS (0 : Nat)
 (mvR
 (winL rgS (0 : Nat)
 (blkO
 (List.drop
 (Int.toNat
 (gt
 ((Sh.int IntKind.i64).pair
 (Sh.int IntKind.i64))
 r ((0 : Nat) + i.toNat)).fst)
 b)
 (pr2 w).fst (pr2 w).snd).length
 (blkO
 (List.drop
 (Int.toNat
 (gt
 ((Sh.int IntKind.i64).pair
 (Sh.int IntKind.i64))
 r ((0 : Nat) + i.toNat)).fst)
 b)
 (pr2 w).fst (pr2 w).snd))
 (gt ((Sh.int IntKind.i64).pair (Sh.int IntKind.i64))
 r ((0 : Nat) + i.toNat)).fst).length
 (mvR
 (winL rgS (0 : Nat)
 (blkO
 (List.drop
 (Int.toNat
 (gt
 ((Sh.int IntKind.i64).pair
 (Sh.int IntKind.i64))
 r ((0 : Nat) + i.toNat)).fst)
 b)
 (pr2 w).fst (pr2 w).snd).length
 (blkO
 (List.drop
 (Int.toNat
 (gt
 ((Sh.int IntKind.i64).pair
 (Sh.int IntKind.i64))
 r ((0 : Nat) + i.toNat)).fst)
 b)
 (pr2 w).fst (pr2 w).snd))
 (gt ((Sh.int IntKind.i64).pair (Sh.int IntKind.i64)) r
 ((0 : Nat) + i.toNat)).fst))
 (winL rgS ((0 : Nat) + i.toNat) (r.length - i.toNat) r))
 (Q [SV.bool false]
 [((6 : Nat),
 LB.var [SV.arr (2 : Nat) (Sh.int IntKind.i64) w]),
 ((1090112 : Nat),
 LB.row (48 : Nat)
 ((Sh.int IntKind.i64).pair (Sh.int IntKind.i64)) r),
 ((1237568 : Nat),
 LB.row (48 : Nat)
 ((Sh.int IntKind.i64).pair (Sh.int IntKind.i64))
 (blkO
 (List.drop
 (Int.toNat
 (gt
 ((Sh.int IntKind.i64).pair
 (Sh.int IntKind.i64))
 r ((0 : Nat) + i.toNat)).fst)
 b)
 (pr2 w).fst (pr2 w).snd)),
 ((1286720 : Nat),
 LB.row (48 : Nat)
 ((Sh.int IntKind.i64).pair (Sh.int IntKind.i64))
 (mvR
 (winL rgS (0 : Nat)
 (blkO
 (List.drop
 (Int.toNat
 (gt
 ((Sh.int IntKind.i64).pair
 (Sh.int IntKind.i64))
 r ((0 : Nat) + i.toNat)).fst)
 b)
 (pr2 w).fst (pr2 w).snd).length
 (blkO
 (List.drop
 (Int.toNat
 (gt
 ((Sh.int IntKind.i64).pair
 (Sh.int IntKind.i64))
 r ((0 : Nat) + i.toNat)).fst)
 b)
 (pr2 w).fst (pr2 w).snd))
 (gt ((Sh.int IntKind.i64).pair (Sh.int IntKind.i64)) r
 ((0 : Nat) + i.toNat)).fst))])
 (R (hd Try.f5 (0 : Nat))
 {
 env :=
 [((0 : Nat), SV.sl (Sh.int IntKind.u8) b),
 ((5 : Nat), SV.bool true),
 ((6 : Nat), SV.ptr (6 : Nat) (0 : Nat)),
 ((7 : Nat),
 SV.win true
 ((Sh.int IntKind.i64).pair (Sh.int IntKind.i64))
 (1090112 : Nat) (0 : Nat) r.length),
 ((9 : Nat),
 SV.int IntKind.i64
 (IntKind.i64.wrap (i + (1 : Int))))],
 blk :=
 [((6 : Nat),
 LB.var [SV.arr (2 : Nat) (Sh.int IntKind.i64) w]),
 ((1090112 : Nat),
 LB.row (48 : Nat)
 ((Sh.int IntKind.i64).pair (Sh.int IntKind.i64))
 r)] })))))
 (Q [SV.bool true]
 [((6 : Nat), LB.var [SV.arr (2 : Nat) (Sh.int IntKind.i64) w]),
 ((1090112 : Nat), LB.row (48 : Nat) ((Sh.int IntKind.i64).pair (Sh.int IntKind.i64)) r)])) := by kernel_rfl
end Go.Proofs.Ytgffokpiklnpmaa
namespace Go.Proofs.Ytgffokpiklnpmaa
open Go.Px Go.Ax
attribute [local irreducible] Go.Px.sy Go.Px.syE
theorem winA {e : Sh} (l : List e.D) : winL e 0 l.length l = l := by
  unfold winL
  rw [List.drop_zero, List.take_length]
theorem winD {e : Sh} (l : List e.D) (i : Nat) : winL e (0 + i) (l.length - i) l = l.drop i := by
  unfold winL
  rw [Nat.zero_add, List.take_of_length_le (by rw [List.length_drop]; omega)]
theorem blksF_shift (b : List Int) (l m p : Nat) (hp : p ≤ b.length) : ∀ k q, mvR (blksF (b.drop p) l m k q) (p : Int) = blksF b l m k (p + q)
  | 0, _ => rfl
  | k + 1, q => by
    simp only [blksF, List.length_drop]
    by_cases h : q < b.length - p
    · rw [if_pos h, if_pos (by omega), mvR, List.map_cons, List.drop_drop]
      have ih := blksF_shift b l m p hp k (q + firstLen (b.drop (p + q)) l m)
      unfold mvR at ih
      rw [ih, show p + (q + firstLen (b.drop (p + q)) l m) = p + q + firstLen (b.drop (p + q)) l m by omega]
      congr 1
      simp only [Prod.mk.injEq]
      omega
    · rw [if_neg h, if_neg (by omega)]; rfl
theorem blksF_fuel (b : List Int) {l m : Nat} (h : 4 ≤ l ∧ l ≤ m) : ∀ k k' p, b.length - p ≤ k → b.length - p ≤ k' → blksF b l m k p = blksF b l m k' p
  | 0, 0, _, _, _ => rfl
  | 0, k' + 1, p, h1, _ => by rw [blksF, blksF, if_neg (by omega)]
  | k + 1, 0, p, _, h2 => by rw [blksF, blksF, if_neg (by omega)]
  | k + 1, k' + 1, p, h1, h2 => by
    rw [blksF, blksF]
    by_cases hp : p < b.length
    · have hf := firstLen_bd (b := b.drop p) h (by rw [List.length_drop]; omega)
      rw [if_pos hp, if_pos hp, blksF_fuel b h k k' _ (by omega) (by omega)]
    · rw [if_neg hp, if_neg hp]
theorem blksF_at (b : List Int) {l m : Nat} (h : 4 ≤ l ∧ l ≤ m) : ∀ k p i, b.length - p ≤ k → (hi : i < (blksF b l m k p).length) → ∃ k' q : Nat, q < b.length ∧ b.length - q ≤ k' ∧ (blksF b l m k p)[i].1 = (q : Int) ∧ (blksF b l m k p).drop i = blksF b l m k' q
  | 0, p, i, _, hi => by simp [blksF] at hi
  | k + 1, p, i, hk, hi => by
    by_cases hp : p < b.length
    · have hf := firstLen_bd (b := b.drop p) h (by rw [List.length_drop]; omega)
      have e : blksF b l m (k + 1) p = ((p : Int), ((p + firstLen (b.drop p) l m : Nat) : Int)) :: blksF b l m k (p + firstLen (b.drop p) l m) := by rw [blksF, if_pos hp]
      cases i with
      | zero => exact ⟨k + 1, p, hp, hk, by simp only [e]; rfl, rfl⟩
      | succ i =>
        have hi' : i < (blksF b l m k (p + firstLen (b.drop p) l m)).length := by rw [e, List.length_cons] at hi; omega
        obtain ⟨k', q, h1, h2, h3, h4⟩ := blksF_at b h k _ i (by omega) hi'
        exact ⟨k', q, h1, h2, by simp only [e, List.getElem_cons_succ]; exact h3, by rw [e, List.drop_succ_cons]; exact h4⟩
    · have : blksF b l m (k + 1) p = [] := by rw [blksF, if_neg hp]
      rw [this] at hi; simp at hi
theorem made_lim {w : List Int} (h : preMade w) : limR (pr2 (madeL w)).1 (pr2 (madeL w)).2 = true := by
  obtain ⟨⟨h1, h2⟩, h3, h4⟩ := h
  have e1 : (pr2 (madeL w)).1 = 4 + (gt (Sh.int .u8) w 0) % 8 := rfl
  have e2 : (pr2 (madeL w)).2 = 4 + (gt (Sh.int .u8) w 0) % 8 + (gt (Sh.int .u8) w 1) % 16 := rfl
  rw [e1, e2]
  exact decide_eq_true (by omega)
theorem mk_made {l : List Int} (hl : l.length = 2) (h : ∀ n ∈ l, (Lit.int .u8 n).wf = true) : preMade l := by
  have e0 : gt (Sh.int .u8) l 0 = l[0] := gtE (by omega)
  have e1 : gt (Sh.int .u8) l 1 = l[1] := gtE (by omega)
  have b0 := bytes_of h l[0] (List.getElem_mem _)
  have b1 := bytes_of h l[1] (List.getElem_mem _)
  unfold preMade
  rw [e0, e1]
  exact ⟨b0, b1⟩
abbrev QT : List SV → List (Nat × LB) → Prop := fun rs _ => rs = [.bool true]
theorem l5_loop {b w : List Int} (hb : preT b) (hl : limR (pr2 w).1 (pr2 w).2 = true) : ∀ (k i : Nat), (blkO b (pr2 w).1 (pr2 w).2).length - i ≤ k → i ≤ (blkO b (pr2 w).1 (pr2 w).2).length →
    GD 5 Try.f5 QT (hd Try.f5 0) ⟨[(0, .sl (.int .u8) b), (5, .bool true), (6, .ptr 6 0), (7, .win true rgS 1090112 0 (blkO b (pr2 w).1 (pr2 w).2).length), (9, .int .i64 (i : Nat))], [(6, .var [.arr 2 (.int .i64) w]), (1090112, .row 48 rgS (blkO b (pr2 w).1 (pr2 w).2))]⟩ := by
  have he : errO (pr2 w).1 (pr2 w).2 = 0 := by rw [errO, hl]; rfl
  have hlim : 4 ≤ (pr2 w).1 ∧ (pr2 w).1 ≤ (pr2 w).2 ∧ (pr2 w).2 ≤ 4096 := of_decide_eq_true hl
  generalize hlv : (pr2 w).1.toNat = l at *
  generalize hmv : (pr2 w).2.toNat = m at *
  have hlm : 4 ≤ l ∧ l ≤ m := by omega
  have hO : ∀ c, blkO c (pr2 w).1 (pr2 w).2 = blks c l m := fun c => by rw [blkO, hl, hlv, hmv]; rfl
  rw [hO]
  have hlen : (blks b l m).length ≤ b.length := blksF_len b _ _ hlm _ _
  have hb1 := hb.1
  intro k
  induction k with
  | zero =>
    intro i hk hi
    refine sy_goK dx10 (vc_l5L b w _ i _ _) ?_
    rw [decide_eq_false (by omega), bc_f]
  | succ k ih =>
    intro i hk hi
    refine sy_goK dx10 (vc_l5L b w _ i _ _) ?_
    by_cases h : i < (blks b l m).length
    · obtain ⟨k', q, q1, q2, q3, q4⟩ := blksF_at b hlm b.length 0 i (by omega) h
      have e1 : gt rgS (blks b l m) (0 + (i : Int).toNat) = (blks b l m)[i] := by rw [Nat.zero_add]; exact gtE h
      have e2 : ((blks b l m)[i]).1 = (q : Int) := q3
      have hdl : (b.drop q).length = b.length - q := List.length_drop
      have e3 : mvR (blks (b.drop q) l m) (q : Int) = (blks b l m).drop i := by
        rw [blks, blksF_shift b l m q (by omega), show (blks b l m).drop i = _ from q4]
        exact blksF_fuel b hlm _ _ _ (by omega) (by omega)
      have hsm : ∀ r ∈ blks (b.drop q) l m, small r.1 ∧ small r.2 := fun r hr => by
        have := blksF_in hlm _ _ r hr
        unfold small
        omega
      have hl2 : (blks (b.drop q) l m).length ≤ (b.drop q).length := blksF_len _ _ _ hlm _ _
      rw [decide_eq_true (show (i : Int) < ((blks b l m).length : Int) by omega), bc_t, e1, e2, Int.toNat_natCast, Int.toNat_natCast, hO, he, winA, e3, winA, winD, IntWalk.i64_in ((i : Int) + 1) (by omega)]
      rw [decide_eq_false (show ¬ (q : Int) < 0 by omega), bc_f, cond_false, decide_eq_false (show ¬ (b.length : Int) < q by omega), bc_f, decide_eq_false (show ¬ (0 : Int) ≠ 0 by simp), bc_f, cond_false]
      rw [show eqR ((blks b l m).drop i) ((blks b l m).drop i) = true from decide_eq_true rfl, Bool.not_true, bc_f]
      have t1 : preT (b.drop q) := ⟨by omega, bytes_drop hb.2 q⟩
      have t2 : preRg (blks (b.drop q) l m) (q : Int) := ⟨by omega, hsm, by unfold small; omega⟩
      have t3 : preLn ((blks b l m).drop i).length := by unfold preLn; rw [List.length_drop]; omega
      have t4 := ih (i + 1) (by omega) (by omega)
      repeat' first
        | exact t1
        | exact t2
        | exact t3
        | exact t4
        | exact trivial
        | omega
        | exact Int.ofNat_le.2 (Nat.le_of_lt q1)
        | (refine And.intro ?_ ?_)
    · rw [decide_eq_false (by omega), bc_f]
def ctL5 : Ctr := ⟨[slB, .arr 2 (.int .u8)], fun x => bytesOK x.1 ∧ preMade x.2.1, fun _ => [.bool true], fun _ => []⟩
theorem l5_run (b w : List Int) (hp : bytesOK b) (hw : preMade w) : sy tt G0 D10 Try.f5.ntmps Try.f5.results.toList (QC ctL5 (b, w, ())) (Px.Good Try.prog tt G0 5 Try.f5.ntmps Try.f5.results.toList (QC ctL5 (b, w, ()))) 1000 [.code (bodyOf Try.f5)] (entry [slB, .arr 2 (.int .u8)] (b, w, ())) := by
  rw [vc_l5]
  have hl := made_lim hw
  have he : errO (pr2 (madeL w)).1 (pr2 (madeL w)).2 = 0 := by rw [errO, hl]; rfl
  refine ⟨trivial, hw, bc_of (fun h => QC.flat rfl rfl rfl) (fun h => ?_)⟩
  have h : ¬ (200 : Int) < b.length := of_decide_eq_false h
  have hb : preT b := ⟨by omega, hp⟩
  rw [he, decide_eq_false (show ¬ (0 : Int) ≠ 0 by simp), bc_f]
  exact ⟨hb, ((l5_loop hb hl _ 0 (Nat.le_refl _) (Nat.zero_le _)).post fun rs blk hq => QC.flat (by rw [hq]; rfl) rfl (by rw [hq]; rfl)).only ⟨rfl, rfl, rfl, rfl, rfl, trivial⟩ ⟨rfl, rfl, trivial⟩⟩
theorem l5_held : Held Try.prog G0 5 ctL5 := Held.run dx10 (fn := Try.f5) rfl rfl ⟨by decide, by decide⟩ fun x hp => l5_run x.1 x.2.1 hp.1 hp.2
end Go.Proofs.Ytgffokpiklnpmaa
namespace Go.Proofs.Ytgffokpiklnpmaa
open Go.Px Go.Ax
theorem mvR_mvR (l : List (Int × Int)) (y z : Int) : mvR (mvR l y) z = mvR l (y + z) := by
  unfold mvR
  rw [List.map_map]
  refine List.map_congr_left fun r _ => ?_
  show (r.1 + y + z, r.2 + y + z) = (r.1 + (y + z), r.2 + (y + z))
  rw [Int.add_assoc, Int.add_assoc]
theorem meets_eq {x y en : List Int} {l m : Nat} (h : 4 ≤ l ∧ l ≤ m) {i k : Nat} (hi : i < (blks (x ++ en) l m).length) (hk : k < (blks (y ++ en) l m).length)
    (h0 : 0 ≤ (blks (x ++ en) l m)[i].1 - (x.length : Int)) (he : (blks (x ++ en) l m)[i].1 - (x.length : Int) = (blks (y ++ en) l m)[k].1 - (y.length : Int)) :
    mvR ((blks (x ++ en) l m).drop i) (-(x.length : Int)) = mvR ((blks (y ++ en) l m).drop k) (-(y.length : Int)) := by
  obtain ⟨k1, p, p1, p2, p3, p4⟩ := blksF_at (x ++ en) h (x ++ en).length 0 i (by omega) hi
  obtain ⟨k2, q, q1, q2, q3, q4⟩ := blksF_at (y ++ en) h (y ++ en).length 0 k (by omega) hk
  have p3 : (blks (x ++ en) l m)[i].1 = (p : Int) := p3
  have q3 : (blks (y ++ en) l m)[k].1 = (q : Int) := q3
  rw [p3] at h0 he
  rw [q3] at he
  obtain ⟨t, ht⟩ : ∃ t : Nat, p = x.length + t := ⟨p - x.length, by omega⟩
  have hq : q = y.length + t := by omega
  have e1 : (x ++ en).drop p = en.drop t := by rw [ht, List.drop_append]; simp
  have e2 : (y ++ en).drop q = en.drop t := by rw [hq, List.drop_append]; simp
  have s1 := blksF_shift (x ++ en) l m p (by omega) k1 0
  have s2 := blksF_shift (y ++ en) l m q (by omega) k2 0
  rw [Nat.add_zero, e1] at s1
  rw [Nat.add_zero, e2] at s2
  show mvR (List.drop i (blksF (x ++ en) l m _ 0)) _ = mvR (List.drop k (blksF (y ++ en) l m _ 0)) _
  rw [p4, q4, ← s1, ← s2, mvR_mvR, mvR_mvR, show (p : Int) + -(x.length : Int) = t by omega, show (q : Int) + -(y.length : Int) = t by omega]
  rw [List.length_append] at p1 p2 q1 q2
  rw [blksF_fuel (en.drop t) h k1 k2 0 (by rw [List.length_drop]; omega) (by rw [List.length_drop]; omega)]
end Go.Proofs.Ytgffokpiklnpmaa
namespace Go.Proofs.Ytgffokpiklnpmaa
open Go.Px Go.Ax
attribute [local irreducible] Go.Px.sy Go.Px.syE
/-- What is known of two lists of blocks. -/
structure MeetOK (lx ly : Nat) (r s : List (Int × Int)) : Prop where
  hx : lx < 1048576
  hy : ly < 1048576
  lr : r.length < 1048576
  ls : s.length < 1048576
  br : ∀ q ∈ r, (0 ≤ q.1 ∧ q.1 ≤ 1048576) ∧ 0 ≤ q.2 ∧ q.2 ≤ 1048576
  bs : ∀ q ∈ s, (0 ≤ q.1 ∧ q.1 ≤ 1048576) ∧ 0 ≤ q.2 ∧ q.2 ≤ 1048576
  eq : ∀ i k (hi : i < r.length) (hk : k < s.length), 0 ≤ r[i].1 - (lx : Int) → r[i].1 - (lx : Int) = s[k].1 - (ly : Int) → mvR (r.drop i) (-(lx : Int)) = mvR (s.drop k) (-(ly : Int))
theorem preRg_of {l : List (Int × Int)} {n : Nat} (hl : l.length < 1048576) (h : ∀ q ∈ l, (0 ≤ q.1 ∧ q.1 ≤ 1048576) ∧ 0 ≤ q.2 ∧ q.2 ≤ 1048576) (hn : n < 1048576) (i : Nat) : preRg (l.drop i) (-(n : Int)) := by
  refine ⟨by rw [List.length_drop]; omega, fun q hq => ?_, by unfold small; omega⟩
  have := h q (List.mem_of_mem_drop hq)
  unfold small
  omega
theorem l7_in {x : List (List Int)} {lx ly : Nat} {r s : List (Int × Int)} (h0 : (gt (Sh.sl (.int .u8)) x (Int.toNat 0)).length = lx) (h1 : (gt (Sh.sl (.int .u8)) x (Int.toNat 1)).length = ly) (m : MeetOK lx ly r s) {i : Nat} (hi : i < r.length)
    (next : GD 7 Try.f7 QT (hd Try.f7 0) ⟨[(3, .ptr 3 0), (7, .bool true), (11, .win true rgS 1212992 0 r.length), (13, .win true rgS 1237568 0 s.length), (15, .int .i64 ((i + 1 : Nat) : Int))], [(3, .var [.arr 2 (.sl (.int .u8)) x]), (1212992, .row 48 rgS r), (1237568, .row 48 rgS s)]⟩) : ∀ (k j : Nat), s.length - j ≤ k → j ≤ s.length →
    GD 7 Try.f7 QT (hd Try.f7 1) ⟨[(3, .ptr 3 0), (7, .bool true), (11, .win true rgS 1212992 0 r.length), (13, .win true rgS 1237568 0 s.length), (15, .int .i64 (i : Nat)), (16, .int .i64 (j : Nat))], [(3, .var [.arr 2 (.sl (.int .u8)) x]), (1212992, .row 48 rgS r), (1237568, .row 48 rgS s)]⟩ := by
  obtain ⟨q1, q2, q3, q4, q5, q6, q7⟩ := m
  have hend : ∀ j : Nat, ¬ j < s.length → GD 7 Try.f7 QT (hd Try.f7 1) ⟨[(3, .ptr 3 0), (7, .bool true), (11, .win true rgS 1212992 0 r.length), (13, .win true rgS 1237568 0 s.length), (15, .int .i64 (i : Nat)), (16, .int .i64 (j : Nat))], [(3, .var [.arr 2 (.sl (.int .u8)) x]), (1212992, .row 48 rgS r), (1237568, .row 48 rgS s)]⟩ := by
    intro j hj
    refine sy_goK dx10 (vc_l7B x r s i j _ _) ?_
    rw [decide_eq_false (by omega), bc_f, IntWalk.i64_in ((i : Int) + 1) (by omega)]
    exact next.only ⟨rfl, rfl, rfl, rfl, rfl, trivial⟩ ⟨rfl, rfl, rfl, trivial⟩
  intro k
  induction k with
  | zero => intro j hk hj; exact hend j (by omega)
  | succ k ih =>
    intro j hk hj
    by_cases hs : j < s.length
    · refine sy_goK dx10 (vc_l7B x r s i j _ _) ?_
      have e1 : gt rgS r (0 + (i : Int).toNat) = r[i] := by rw [Nat.zero_add]; exact gtE hi
      have e2 : gt rgS s (0 + (j : Int).toNat) = s[j] := by rw [Nat.zero_add]; exact gtE hs
      have b1 := q5 r[i] (List.getElem_mem hi)
      have b2 := q6 s[j] (List.getElem_mem hs)
      have k2 := ih (j + 1) (by omega) (by omega)
      rw [decide_eq_true (show (j : Int) < (s.length : Int) by omega), bc_t]
      simp only [h0, h1]
      rw [e1, e2, Int.toNat_natCast, Int.toNat_natCast, IntWalk.i64_in ((j : Int) + 1) (by omega), IntWalk.i64_in (r[i].1 - (lx : Int)) (by omega), IntWalk.i64_in (s[j].1 - (ly : Int)) (by omega), IntWalk.i64_in (0 - (lx : Int)) (by omega), IntWalk.i64_in (0 - (ly : Int)) (by omega), cond_false]
      rw [show (0 : Int) - (lx : Int) = -(lx : Int) by omega, show (0 : Int) - (ly : Int) = -(ly : Int) by omega, winD, winD, winA, winA]
      refine ⟨by omega, by omega, by omega, by omega, by omega, by omega, bc_of (fun ha => ⟨trivial, k2⟩) (fun ha => ?_)⟩
      have ha := of_decide_eq_false ha
      refine ⟨by omega, by omega, by omega, by omega, by omega, by omega, bc_of (fun hb => k2) (fun hb => ?_)⟩
      have hb : ¬ (r[i].1 - (lx : Int) ≠ s[j].1 - (ly : Int)) := of_decide_eq_false hb
      have he := q7 i j hi hs (by omega) (Classical.not_not.1 hb)
      have p1 := preRg_of q3 q5 q1 i
      have p2 := preRg_of q4 q6 q2 j
      have p3 : preLn (mvR (s.drop j) (-(ly : Int))).length := by unfold preLn mvR; rw [List.length_map, List.length_drop]; omega
      rw [he, show eqR (mvR (s.drop j) (-(ly : Int))) (mvR (s.drop j) (-(ly : Int))) = true from decide_eq_true rfl, bc_t]
      repeat' first
        | exact p1
        | exact p2
        | exact p3
        | exact trivial
        | exact rfl
        | omega
        | (refine And.intro ?_ ?_)
    · exact hend j hs
theorem l7_out {x : List (List Int)} {lx ly : Nat} {r s : List (Int × Int)} (h0 : (gt (Sh.sl (.int .u8)) x (Int.toNat 0)).length = lx) (h1 : (gt (Sh.sl (.int .u8)) x (Int.toNat 1)).length = ly) (m : MeetOK lx ly r s) : ∀ (k i : Nat), r.length - i ≤ k → i ≤ r.length →
    GD 7 Try.f7 QT (hd Try.f7 0) ⟨[(3, .ptr 3 0), (7, .bool true), (11, .win true rgS 1212992 0 r.length), (13, .win true rgS 1237568 0 s.length), (15, .int .i64 (i : Nat))], [(3, .var [.arr 2 (.sl (.int .u8)) x]), (1212992, .row 48 rgS r), (1237568, .row 48 rgS s)]⟩ := by
  intro k
  induction k with
  | zero =>
    intro i hk hi
    refine sy_goK dx10 (vc_l7A x r s i _ _) ?_
    rw [decide_eq_false (by omega), bc_f]
  | succ k ih =>
    intro i hk hi
    by_cases h : i < r.length
    · refine sy_goK dx10 (vc_l7A x r s i _ _) ?_
      rw [decide_eq_true (show (i : Int) < (r.length : Int) by omega), bc_t]
      exact l7_in h0 h1 m h (ih (i + 1) (by omega) (by omega)) _ 0 (Nat.le_refl _) (Nat.zero_le _)
    · exact ih i (by omega) hi
def preL7 (x : List (List Int)) (en w : List Int) : Prop := (x.length = 2 ∧ ∀ l ∈ x, bytesOK l) ∧ bytesOK en ∧ preMade w
def ctL7 : Ctr := ⟨[.arr 2 (.sl (.int .u8)), slB, .arr 2 (.int .u8)], fun x => preL7 x.1 x.2.1 x.2.2.1, fun _ => [.bool true], fun _ => []⟩
theorem l7_run (x : List (List Int)) (en w : List Int) (hp : preL7 x en w) : sy tt G0 D10 Try.f7.ntmps Try.f7.results.toList (QC ctL7 (x, en, w, ())) (Px.Good Try.prog tt G0 7 Try.f7.ntmps Try.f7.results.toList (QC ctL7 (x, en, w, ()))) 1000 [.code (bodyOf Try.f7)] (entry [.arr 2 (.sl (.int .u8)), slB, .arr 2 (.int .u8)] (x, en, w, ())) := by
  obtain ⟨⟨hx, hxb⟩, he, hw⟩ := hp
  rw [vc_l7]
  have hl := made_lim hw
  have herr : errO (pr2 (madeL w)).1 (pr2 (madeL w)).2 = 0 := by rw [errO, hl]; rfl
  have hlim : 4 ≤ (pr2 (madeL w)).1 ∧ (pr2 (madeL w)).1 ≤ (pr2 (madeL w)).2 ∧ (pr2 (madeL w)).2 ≤ 4096 := of_decide_eq_true hl
  have b0 : bytesOK (gt (Sh.sl (.int .u8)) x (Int.toNat 0)) := by
    have : gt (Sh.sl (.int .u8)) x (Int.toNat 0) = x[0] := gtE (by omega)
    rw [this]; exact hxb _ (List.getElem_mem _)
  have b1 : bytesOK (gt (Sh.sl (.int .u8)) x (Int.toNat 1)) := by
    have : gt (Sh.sl (.int .u8)) x (Int.toNat 1) = x[1] := gtE (by omega)
    rw [this]; exact hxb _ (List.getElem_mem _)
  generalize h0 : gt (Sh.sl (.int .u8)) x (Int.toNat 0) = x0 at *
  generalize h1 : gt (Sh.sl (.int .u8)) x (Int.toNat 1) = x1 at *
  refine ⟨trivial, hw, by decide, by decide, by decide, bc_of (fun h => ⟨rfl, rfl, QC.flat rfl rfl rfl⟩) (fun ha => ?_)⟩
  have ha : ¬ (100 : Int) < x0.length := of_decide_eq_false ha
  refine ⟨by decide, by decide, by decide, bc_of (fun h => ⟨rfl, QC.flat rfl rfl rfl⟩) (fun hb => bc_of (fun h => QC.flat rfl rfl rfl) (fun hc => ?_))⟩
  have hb : ¬ (100 : Int) < x1.length := of_decide_eq_false hb
  have hc : ¬ (200 : Int) < en.length := of_decide_eq_false hc
  have w0 : ∀ y : List Int, winL (Sh.int .u8) 0 (0 + List.length y + en.length) (List.replicate 0 (Sh.int .u8).dflt ++ y ++ en) = y ++ en := by
    intro y
    show ((List.drop 0 (y ++ en)).take (0 + y.length + en.length)) = y ++ en
    rw [List.drop_zero, List.take_of_length_le (by rw [List.length_append]; omega)]
  have bO : ∀ y : List Int, bytesOK y → preT y ∨ True := fun y _ => .inr trivial
  have pT : ∀ y : List Int, bytesOK y → y.length ≤ 100 → preT (y ++ en) := by
    intro y h1 h2
    refine ⟨by rw [List.length_append]; omega, fun c hc => ?_⟩
    rcases List.mem_append.1 hc with h | h
    · exact h1 c h
    · exact he c h
  have p0 := pT x0 b0 (by omega)
  have p1 := pT x1 b1 (by omega)
  have hO : ∀ c, blkO c (pr2 (madeL w)).1 (pr2 (madeL w)).2 = blks c (pr2 (madeL w)).1.toNat (pr2 (madeL w)).2.toNat := fun c => by rw [blkO, hl]; rfl
  have hlm : 4 ≤ (pr2 (madeL w)).1.toNat ∧ (pr2 (madeL w)).1.toNat ≤ (pr2 (madeL w)).2.toNat := by omega
  simp only [w0, herr]
  have mo : MeetOK x0.length x1.length (blkO (x0 ++ en) (pr2 (madeL w)).1 (pr2 (madeL w)).2) (blkO (x1 ++ en) (pr2 (madeL w)).1 (pr2 (madeL w)).2) := by
    have t0 := blksF_len (x0 ++ en) (pr2 (madeL w)).1.toNat (pr2 (madeL w)).2.toNat hlm (x0 ++ en).length 0
    have t1 := blksF_len (x1 ++ en) (pr2 (madeL w)).1.toNat (pr2 (madeL w)).2.toNat hlm (x1 ++ en).length 0
    have l0 : (x0 ++ en).length = x0.length + en.length := List.length_append
    have l1 : (x1 ++ en).length = x1.length + en.length := List.length_append
    rw [hO, hO]
    refine ⟨by omega, by omega, ?_, ?_, fun q hq => ?_, fun q hq => ?_, fun i k hi hk h1 h2 => meets_eq hlm hi hk h1 h2⟩
    · show (blksF _ _ _ _ 0).length < _
      omega
    · show (blksF _ _ _ _ 0).length < _
      omega
    · have := blksF_in hlm _ _ q hq; omega
    · have := blksF_in hlm _ _ q hq; omega
  have go := ((l7_out (x := x) (by rw [h0]) (by rw [h1]) mo _ 0 (Nat.le_refl _) (Nat.zero_le _)).post (Q' := QC ctL7 (x, en, w, ())) fun rs blk hq => QC.flat (by rw [hq]; rfl) rfl (by rw [hq]; rfl))
  have hll : ∀ y : List Int, (List.replicate 0 (Sh.int .u8).dflt ++ y).length = y.length := fun y => rfl
  rw [decide_eq_false (show ¬ (0 : Int) ≠ 0 by simp), bc_f]
  repeat' first
    | exact p0
    | exact p1
    | exact go.only ⟨rfl, rfl, rfl, rfl, rfl, trivial⟩ ⟨rfl, rfl, rfl, trivial⟩
    | exact trivial
    | exact rfl
    | (rw [hll]; omega)
    | omega
    | (show _ ≤ (x0 ++ en).length; rw [List.length_append]; omega)
    | (show _ ≤ (x1 ++ en).length; rw [List.length_append]; omega)
    | (refine And.intro ?_ ?_)
theorem l7_held : Held Try.prog G0 7 ctL7 := Held.run dx10 (fn := Try.f7) rfl rfl ⟨by decide, by decide⟩ fun x hp => l7_run x.1 x.2.1 x.2.2.1 hp
end Go.Proofs.Ytgffokpiklnpmaa
namespace Go.Proofs.Ytgffokpiklnpmaa
open Go.Px Go.Ax
theorem l7_of {x : List (List Int)} {en w : List Int} (h0 : wfD (.arr 2 (.sl (.int .u8))) x) (h1 : wfD (.sl (.int .u8)) en) (h2 : wfD (.arr 2 (.int .u8)) w) : preL7 x en w :=
  ⟨⟨h0.1, fun l hl => bytes_of (h0.2 l hl).2⟩, bytes_of h1.2, mk_made h2.1 h2.2⟩
end Go.Proofs.Ytgffokpiklnpmaa
