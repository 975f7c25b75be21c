/-
  A part of the proof: what pieces of the program give; conditions: those of each theorem.
-/
import Derived.Test.YtgffokpiklnpmaaQ0
import Derived.Test.YtgffokpiklnpmaaHD
import Derived.KernelRfl
set_option linter.unusedVariables false
namespace Go.Proofs.Ytgffokpiklnpmaa
open Go.Px Go.Ax
set_option maxRecDepth 100000
theorem vc_lb (b w : List Int) (Q : List SV → List (Nat × LB) → Prop) (R : List Item → PS → Prop) : sy tt G0 D8 Try.f14.ntmps Try.f14.results.toList Q R 1000 [.code (bodyOf Try.f14)] (entry [.sl (.int .u8), .arr 2 (.int .i64)] (b, w, ())) =
    ((0 : Int) ≤ (0 : Int) ∧
 (0 : Int) < (↑(2 : Nat) : Int) ∧
 Int.toNat (0 : Int) < (2 : Nat) ∧
 (0 : Int) ≤ (1 : Int) ∧
 (1 : Int) < (↑(2 : Nat) : Int) ∧
 Int.toNat (1 : Int) < (2 : Nat) ∧
 ctBlk.pre
 (b, gt (Sh.int IntKind.i64) w (Int.toNat (0 : Int)), gt (Sh.int IntKind.i64) w (Int.toNat (1 : Int)),
 ()) ∧
 Q
 [SV.win true ((Sh.int IntKind.i64).pair (Sh.int IntKind.i64)) (1045056 : Nat) (0 : Nat)
 (blkO b (gt (Sh.int IntKind.i64) w (Int.toNat (0 : Int)))
 (gt (Sh.int IntKind.i64) w (Int.toNat (1 : Int)))).length,
 SV.int IntKind.i64
 (errO (gt (Sh.int IntKind.i64) w (Int.toNat (0 : Int)))
 (gt (Sh.int IntKind.i64) w (Int.toNat (1 : Int))))]
 [((3 : Nat), LB.var [SV.arr (2 : Nat) (Sh.int IntKind.i64) w]),
 ((1045056 : Nat),
 LB.row (48 : Nat) ((Sh.int IntKind.i64).pair (Sh.int IntKind.i64))
 (blkO b (gt (Sh.int IntKind.i64) w (Int.toNat (0 : Int)))
 (gt (Sh.int IntKind.i64) w (Int.toNat (1 : Int)))))]) := by kernel_rfl
theorem vc_san  (Q : List SV → List (Nat × LB) → Prop) (R : List Item → PS → Prop) : sy tt G0 D8 Try.f11.ntmps Try.f11.results.toList Q R 1000 [.code (bodyOf Try.f11)] (entry [] ()) =
    ((0 : Int) ≤ (10 : Int) ∧
 (10 : Int) ≤ (10 : Int) ∧
 (10 : Int) < (2 : Int) ^ (24 : Nat) ∧
 (↑(1 : Nat) : Int) * (10 : Int) ≤ (2 : Int) ^ (48 : Nat) ∧
 (0 : Nat) + Int.toNat (10 : Int) ≤ (List.replicate (Int.toNat (10 : Int)) (Sh.int IntKind.u8).dflt).length ∧
 ctCut.pre
 (winL (Sh.int IntKind.u8) (0 : Nat) (Int.toNat (10 : Int))
 (List.replicate (Int.toNat (10 : Int)) (Sh.int IntKind.u8).dflt),
 (4 : Int), (8 : Int), ()) ∧
 (0 : Nat) + (10 : Nat) ≤
 (((((((((((List.replicate (10 : Nat) (Sh.int IntKind.u8).dflt).set (0 : Nat) (1 : Int)).set (1 : Nat)
 (1 : Int)).set
 (2 : Nat) (1 : Int)).set
 (3 : Nat) (1 : Int)).set
 (4 : Nat) (1 : Int)).set
 (5 : Nat) (1 : Int)).set
 (6 : Nat) (1 : Int)).set
 (7 : Nat) (1 : Int)).set
 (8 : Nat) (1 : Int)).set
 (9 : Nat) (1 : Int)).length ∧
 ctCut.pre
 (winL (Sh.int IntKind.u8) (0 : Nat) (10 : Nat)
 (((((((((((List.replicate (10 : Nat) (Sh.int IntKind.u8).dflt).set (0 : Nat) (1 : Int)).set
 (1 : Nat) (1 : Int)).set
 (2 : Nat) (1 : Int)).set
 (3 : Nat) (1 : Int)).set
 (4 : Nat) (1 : Int)).set
 (5 : Nat) (1 : Int)).set
 (6 : Nat) (1 : Int)).set
 (7 : Nat) (1 : Int)).set
 (8 : Nat) (1 : Int)).set
 (9 : Nat) (1 : Int)),
 (4 : Int), (8 : Int), ()) ∧
 (0 : Nat) + (5 : Nat) ≤
 ((((((List.replicate (5 : Nat) (Sh.int IntKind.u8).dflt).set (0 : Nat) (1 : Int)).set (1 : Nat)
 (2 : Int)).set
 (2 : Nat) (3 : Int)).set
 (3 : Nat) (10 : Int)).set
 (4 : Nat) (9 : Int)).length ∧
 ctBlk.pre
 (winL (Sh.int IntKind.u8) (0 : Nat) (5 : Nat)
 ((((((List.replicate (5 : Nat) (Sh.int IntKind.u8).dflt).set (0 : Nat) (1 : Int)).set
 (1 : Nat) (2 : Int)).set
 (2 : Nat) (3 : Int)).set
 (3 : Nat) (10 : Int)).set
 (4 : Nat) (9 : Int)),
 (4 : Int), (8 : Int), ()) ∧
 (0 : Int) ≤ (4 : Int) ∧
 (4 : Int) ≤ (4 : Int) ∧
 (4 : Int) < (2 : Int) ^ (24 : Nat) ∧
 (↑(1 : Nat) : Int) * (4 : Int) ≤ (2 : Int) ^ (48 : Nat) ∧
 (0 : Int) ≤ (8 : Int) ∧
 (8 : Int) ≤ (8 : Int) ∧
 (8 : Int) < (2 : Int) ^ (24 : Nat) ∧
 (↑(1 : Nat) : Int) * (8 : Int) ≤ (2 : Int) ^ (48 : Nat) ∧
 (0 : Nat) + Int.toNat (4 : Int) ≤
 (List.replicate (Int.toNat (4 : Int)) (Sh.int IntKind.u8).dflt).length ∧
 (0 : Nat) + Int.toNat (8 : Int) ≤
 (List.replicate (Int.toNat (8 : Int)) (Sh.int IntKind.u8).dflt).length ∧
 ctMa.pre
 (winL (Sh.int IntKind.u8) (0 : Nat) (Int.toNat (4 : Int))
 (List.replicate (Int.toNat (4 : Int)) (Sh.int IntKind.u8).dflt),
 winL (Sh.int IntKind.u8) (0 : Nat) (Int.toNat (8 : Int))
 (List.replicate (Int.toNat (8 : Int)) (Sh.int IntKind.u8).dflt),
 (4 : Int), (8 : Int), ()) ∧
 (0 : Nat) + (10 : Nat) ≤
 (((((((((((List.replicate (10 : Nat) (Sh.int IntKind.u8).dflt).set
 (0 : Nat) (1 : Int)).set
 (1 : Nat) (1 : Int)).set
 (2 : Nat) (1 : Int)).set
 (3 : Nat) (1 : Int)).set
 (4 : Nat) (1 : Int)).set
 (5 : Nat) (1 : Int)).set
 (6 : Nat) (1 : Int)).set
 (7 : Nat) (1 : Int)).set
 (8 : Nat) (1 : Int)).set
 (9 : Nat) (1 : Int)).length ∧
 ctCut.pre
 (winL (Sh.int IntKind.u8) (0 : Nat) (10 : Nat)
 (((((((((((List.replicate (10 : Nat) (Sh.int IntKind.u8).dflt).set
 (0 : Nat) (1 : Int)).set
 (1 : Nat) (1 : Int)).set
 (2 : Nat) (1 : Int)).set
 (3 : Nat) (1 : Int)).set
 (4 : Nat) (1 : Int)).set
 (5 : Nat) (1 : Int)).set
 (6 : Nat) (1 : Int)).set
 (7 : Nat) (1 : Int)).set
 (8 : Nat) (1 : Int)).set
 (9 : Nat) (1 : Int)),
 (3 : Int), (8 : Int), ()) ∧
 (0 : Nat) + (10 : Nat) ≤
 (((((((((((List.replicate (10 : Nat) (Sh.int IntKind.u8).dflt).set
 (0 : Nat) (1 : Int)).set
 (1 : Nat) (1 : Int)).set
 (2 : Nat) (1 : Int)).set
 (3 : Nat) (1 : Int)).set
 (4 : Nat) (1 : Int)).set
 (5 : Nat) (1 : Int)).set
 (6 : Nat) (1 : Int)).set
 (7 : Nat) (1 : Int)).set
 (8 : Nat) (1 : Int)).set
 (9 : Nat) (1 : Int)).length ∧
 ctCut.pre
 (winL (Sh.int IntKind.u8) (0 : Nat) (10 : Nat)
 (((((((((((List.replicate (10 : Nat)
 (Sh.int
 IntKind.u8).dflt).set
 (0 : Nat) (1 : Int)).set
 (1 : Nat) (1 : Int)).set
 (2 : Nat) (1 : Int)).set
 (3 : Nat) (1 : Int)).set
 (4 : Nat) (1 : Int)).set
 (5 : Nat) (1 : Int)).set
 (6 : Nat) (1 : Int)).set
 (7 : Nat) (1 : Int)).set
 (8 : Nat) (1 : Int)).set
 (9 : Nat) (1 : Int)),
 (8 : Int), (4 : Int), ()) ∧
 ctBlk.pre ([], (4 : Int), (4 : Int), ()) ∧
 (0 : Nat) +
 (cutO
 (winL (Sh.int IntKind.u8) (0 : Nat) (Int.toNat (10 : Int))
 (List.replicate (Int.toNat (10 : Int))
 (Sh.int IntKind.u8).dflt))
 (4 : Int) (8 : Int)).length ≤
 (cutO
 (winL (Sh.int IntKind.u8) (0 : Nat) (Int.toNat (10 : Int))
 (List.replicate (Int.toNat (10 : Int))
 (Sh.int IntKind.u8).dflt))
 (4 : Int) (8 : Int)).length ∧
 (0 : Nat) + (2 : Nat) ≤
 (((List.replicate (2 : Nat) (Sh.int IntKind.i64).dflt).set
 (0 : Nat) (4 : Int)).set
 (1 : Nat) (8 : Int)).length ∧
 ctInts.pre
 (winL (Sh.int IntKind.i64) (0 : Nat)
 (cutO
 (winL (Sh.int IntKind.u8) (0 : Nat)
 (Int.toNat (10 : Int))
 (List.replicate (Int.toNat (10 : Int))
 (Sh.int IntKind.u8).dflt))
 (4 : Int) (8 : Int)).length
 (cutO
 (winL (Sh.int IntKind.u8) (0 : Nat)
 (Int.toNat (10 : Int))
 (List.replicate (Int.toNat (10 : Int))
 (Sh.int IntKind.u8).dflt))
 (4 : Int) (8 : Int)),
 winL (Sh.int IntKind.i64) (0 : Nat) (2 : Nat)
 (((List.replicate (2 : Nat)
 (Sh.int IntKind.i64).dflt).set
 (0 : Nat) (4 : Int)).set
 (1 : Nat) (8 : Int)),
 ()) ∧
 (0 : Nat) +
 (cutO
 (winL (Sh.int IntKind.u8) (0 : Nat) (10 : Nat)
 (((((((((((List.replicate (10 : Nat)
 (Sh.int
 IntKind.u8).dflt).set
 (0 : Nat)
 (1 :
 Int)).set
 (1 : Nat)
 (1 : Int)).set
 (2 : Nat)
 (1 : Int)).set
 (3 : Nat) (1 : Int)).set
 (4 : Nat) (1 : Int)).set
 (5 : Nat) (1 : Int)).set
 (6 : Nat) (1 : Int)).set
 (7 : Nat) (1 : Int)).set
 (8 : Nat) (1 : Int)).set
 (9 : Nat) (1 : Int)))
 (4 : Int) (8 : Int)).length ≤
 (cutO
 (winL (Sh.int IntKind.u8) (0 : Nat) (10 : Nat)
 (((((((((((List.replicate (10 : Nat)
 (Sh.int
 IntKind.u8).dflt).set
 (0 : Nat)
 (1 : Int)).set
 (1 : Nat)
 (1 : Int)).set
 (2 : Nat)
 (1 : Int)).set
 (3 : Nat) (1 : Int)).set
 (4 : Nat) (1 : Int)).set
 (5 : Nat) (1 : Int)).set
 (6 : Nat) (1 : Int)).set
 (7 : Nat) (1 : Int)).set
 (8 : Nat) (1 : Int)).set
 (9 : Nat) (1 : Int)))
 (4 : Int) (8 : Int)).length ∧
 (0 : Nat) + (1 : Nat) ≤
 ((List.replicate (1 : Nat)
 (Sh.int IntKind.i64).dflt).set
 (0 : Nat) (8 : Int)).length ∧
 ctInts.pre
 (winL (Sh.int IntKind.i64) (0 : Nat)
 (cutO
 (winL (Sh.int IntKind.u8) (0 : Nat) (10 : Nat)
 (((((((((((List.replicate (10 : Nat)
 (Sh.int
 IntKind.u8).dflt).set
 (0 :
 Nat)
 (1 :
 Int)).set
 (1 : Nat)
 (1 :
 Int)).set
 (2 : Nat)
 (1 : Int)).set
 (3 : Nat)
 (1 : Int)).set
 (4 : Nat)
 (1 : Int)).set
 (5 : Nat) (1 : Int)).set
 (6 : Nat) (1 : Int)).set
 (7 : Nat) (1 : Int)).set
 (8 : Nat) (1 : Int)).set
 (9 : Nat) (1 : Int)))
 (4 : Int) (8 : Int)).length
 (cutO
 (winL (Sh.int IntKind.u8) (0 : Nat) (10 : Nat)
 (((((((((((List.replicate (10 : Nat)
 (Sh.int
 IntKind.u8).dflt).set
 (0 :
 Nat)
 (1 :
 Int)).set
 (1 : Nat)
 (1 :
 Int)).set
 (2 : Nat)
 (1 : Int)).set
 (3 : Nat)
 (1 : Int)).set
 (4 : Nat) (1 : Int)).set
 (5 : Nat) (1 : Int)).set
 (6 : Nat) (1 : Int)).set
 (7 : Nat) (1 : Int)).set
 (8 : Nat) (1 : Int)).set
 (9 : Nat) (1 : Int)))
 (4 : Int) (8 : Int)),
 winL (Sh.int IntKind.i64) (0 : Nat) (1 : Nat)
 ((List.replicate (1 : Nat)
 (Sh.int IntKind.i64).dflt).set
 (0 : Nat) (8 : Int)),
 ()) ∧
 (0 : Nat) +
 (blkO
 (winL (Sh.int IntKind.u8) (0 : Nat) (5 : Nat)
 ((((((List.replicate (5 : Nat)
 (Sh.int
 IntKind.u8).dflt).set
 (0 : Nat) (1 : Int)).set
 (1 : Nat) (2 : Int)).set
 (2 : Nat) (3 : Int)).set
 (3 : Nat) (10 : Int)).set
 (4 : Nat) (9 : Int)))
 (4 : Int) (8 : Int)).length ≤
 (blkO
 (winL (Sh.int IntKind.u8) (0 : Nat) (5 : Nat)
 ((((((List.replicate (5 : Nat)
 (Sh.int
 IntKind.u8).dflt).set
 (0 : Nat) (1 : Int)).set
 (1 : Nat) (2 : Int)).set
 (2 : Nat) (3 : Int)).set
 (3 : Nat) (10 : Int)).set
 (4 : Nat) (9 : Int)))
 (4 : Int) (8 : Int)).length ∧
 (0 : Nat) + (2 : Nat) ≤
 (((List.replicate (2 : Nat)
 ((Sh.int IntKind.i64).pair
 (Sh.int IntKind.i64)).dflt).set
 (0 : Nat) ((0 : Int), (4 : Int))).set
 (1 : Nat) ((4 : Int), (5 : Int))).length ∧
 ctRngs.pre
 (winL rgS (0 : Nat)
 (blkO
 (winL (Sh.int IntKind.u8) (0 : Nat)
 (5 : Nat)
 ((((((List.replicate (5 : Nat)
 (Sh.int
 IntKind.u8).dflt).set
 (0 : Nat)
 (1 : Int)).set
 (1 : Nat) (2 : Int)).set
 (2 : Nat) (3 : Int)).set
 (3 : Nat) (10 : Int)).set
 (4 : Nat) (9 : Int)))
 (4 : Int) (8 : Int)).length
 (blkO
 (winL (Sh.int IntKind.u8) (0 : Nat)
 (5 : Nat)
 ((((((List.replicate (5 : Nat)
 (Sh.int
 IntKind.u8).dflt).set
 (0 : Nat)
 (1 : Int)).set
 (1 : Nat) (2 : Int)).set
 (2 : Nat) (3 : Int)).set
 (3 : Nat) (10 : Int)).set
 (4 : Nat) (9 : Int)))
 (4 : Int) (8 : Int)),
 winL rgS (0 : Nat) (2 : Nat)
 (((List.replicate (2 : Nat)
 ((Sh.int IntKind.i64).pair
 (Sh.int
 IntKind.i64)).dflt).set
 (0 : Nat) ((0 : Int), (4 : Int))).set
 (1 : Nat) ((4 : Int), (5 : Int))),
 ()) ∧
 (0 : Nat) +
 (matO
 (winL (Sh.int IntKind.u8) (0 : Nat)
 (Int.toNat (4 : Int))
 (List.replicate (Int.toNat (4 : Int))
 (Sh.int IntKind.u8).dflt))
 (winL (Sh.int IntKind.u8) (0 : Nat)
 (Int.toNat (8 : Int))
 (List.replicate (Int.toNat (8 : Int))
 (Sh.int IntKind.u8).dflt))
 (4 : Int) (8 : Int)).length ≤
 (matO
 (winL (Sh.int IntKind.u8) (0 : Nat)
 (Int.toNat (4 : Int))
 (List.replicate (Int.toNat (4 : Int))
 (Sh.int IntKind.u8).dflt))
 (winL (Sh.int IntKind.u8) (0 : Nat)
 (Int.toNat (8 : Int))
 (List.replicate (Int.toNat (8 : Int))
 (Sh.int IntKind.u8).dflt))
 (4 : Int) (8 : Int)).length ∧
 (0 : Nat) + (2 : Nat) ≤
 (((List.replicate (2 : Nat)
 (Sh.arr (2 : Nat)
 (Sh.int
 IntKind.i64)).dflt).set
 (0 : Nat)
 ((List.set
 (Sh.arr (2 : Nat)
 (Sh.int IntKind.i64)).dflt
 (0 : Nat) (0 : Int)).set
 (1 : Nat) (0 : Int))).set
 (1 : Nat)
 ((List.set
 (Sh.arr (2 : Nat)
 (Sh.int IntKind.i64)).dflt
 (0 : Nat) (0 : Int)).set
 (1 : Nat) (1 : Int))).length ∧
 ctPrs.pre
 (winL paS (0 : Nat)
 (matO
 (winL (Sh.int IntKind.u8)
 (0 : Nat) (Int.toNat (4 : Int))
 (List.replicate
 (Int.toNat (4 : Int))
 (Sh.int IntKind.u8).dflt))
 (winL (Sh.int IntKind.u8)
 (0 : Nat) (Int.toNat (8 : Int))
 (List.replicate
 (Int.toNat (8 : Int))
 (Sh.int IntKind.u8).dflt))
 (4 : Int) (8 : Int)).length
 (matO
 (winL (Sh.int IntKind.u8) (0 : Nat)
 (Int.toNat (4 : Int))
 (List.replicate
 (Int.toNat (4 : Int))
 (Sh.int IntKind.u8).dflt))
 (winL (Sh.int IntKind.u8) (0 : Nat)
 (Int.toNat (8 : Int))
 (List.replicate
 (Int.toNat (8 : Int))
 (Sh.int IntKind.u8).dflt))
 (4 : Int) (8 : Int)),
 winL paS (0 : Nat) (2 : Nat)
 (((List.replicate (2 : Nat)
 (Sh.arr (2 : Nat)
 (Sh.int
 IntKind.i64)).dflt).set
 (0 : Nat)
 ((List.set
 (Sh.arr (2 : Nat)
 (Sh.int
 IntKind.i64)).dflt
 (0 : Nat) (0 : Int)).set
 (1 : Nat) (0 : Int))).set
 (1 : Nat)
 ((List.set
 (Sh.arr (2 : Nat)
 (Sh.int IntKind.i64)).dflt
 (0 : Nat) (0 : Int)).set
 (1 : Nat) (1 : Int))),
 ()) ∧
 Q
 [SV.bool
 (bif true then
 decide
 ((↑(blkO [] (4 : Int)
 (4 : Int)).length :
 Int) =
 (0 : Int))
 else false)]
 [((17 : Nat),
 LB.row (5 : Nat) (Sh.int IntKind.u8)
 (((((((((((List.replicate (10 : Nat)
 (Sh.int
 IntKind.u8).dflt).set
 (0 :
 Nat)
 (1 :
 Int)).set
 (1 :
 Nat)
 (1 :
 Int)).set
 (2 :
 Nat)
 (1 :
 Int)).set
 (3 : Nat)
 (1 :
 Int)).set
 (4 : Nat)
 (1 : Int)).set
 (5 : Nat)
 (1 : Int)).set
 (6 : Nat)
 (1 : Int)).set
 (7 : Nat) (1 : Int)).set
 (8 : Nat) (1 : Int)).set
 (9 : Nat) (1 : Int))),
 ((19 : Nat),
 LB.row (5 : Nat) (Sh.int IntKind.u8)
 (List.replicate
 (Int.toNat (10 : Int))
 (Sh.int IntKind.u8).dflt)),
 ((29 : Nat),
 LB.row (5 : Nat) (Sh.int IntKind.u8)
 ((((((List.replicate (5 : Nat)
 (Sh.int
 IntKind.u8).dflt).set
 (0 : Nat)
 (1 : Int)).set
 (1 : Nat)
 (2 : Int)).set
 (2 : Nat) (3 : Int)).set
 (3 : Nat) (10 : Int)).set
 (4 : Nat) (9 : Int))),
 ((34 : Nat),
 LB.row (5 : Nat) (Sh.int IntKind.u8)
 (List.replicate
 (Int.toNat (4 : Int))
 (Sh.int IntKind.u8).dflt)),
 ((35 : Nat),
 LB.row (5 : Nat) (Sh.int IntKind.u8)
 (List.replicate
 (Int.toNat (8 : Int))
 (Sh.int IntKind.u8).dflt)),
 ((57 : Nat),
 LB.row (3 : Nat) (Sh.int IntKind.i64)
 (((List.replicate (2 : Nat)
 (Sh.int
 IntKind.i64).dflt).set
 (0 : Nat) (4 : Int)).set
 (1 : Nat) (8 : Int))),
 ((66 : Nat),
 LB.row (3 : Nat) (Sh.int IntKind.i64)
 ((List.replicate (1 : Nat)
 (Sh.int IntKind.i64).dflt).set
 (0 : Nat) (8 : Int))),
 ((78 : Nat),
 LB.row (48 : Nat)
 ((Sh.int IntKind.i64).pair
 (Sh.int IntKind.i64))
 (((List.replicate (2 : Nat)
 ((Sh.int IntKind.i64).pair
 (Sh.int
 IntKind.i64)).dflt).set
 (0 : Nat)
 ((0 : Int), (4 : Int))).set
 (1 : Nat)
 ((4 : Int), (5 : Int)))),
 ((89 : Nat),
 LB.row (26 : Nat)
 (Sh.arr (2 : Nat)
 (Sh.int IntKind.i64))
 (((List.replicate (2 : Nat)
 (Sh.arr (2 : Nat)
 (Sh.int
 IntKind.i64)).dflt).set
 (0 : Nat)
 ((List.set
 (Sh.arr (2 : Nat)
 (Sh.int
 IntKind.i64)).dflt
 (0 : Nat) (0 : Int)).set
 (1 : Nat) (0 : Int))).set
 (1 : Nat)
 ((List.set
 (Sh.arr (2 : Nat)
 (Sh.int
 IntKind.i64)).dflt
 (0 : Nat) (0 : Int)).set
 (1 : Nat) (1 : Int)))),
 ((1081920 : Nat),
 LB.row (3 : Nat) (Sh.int IntKind.i64)
 (cutO
 (winL (Sh.int IntKind.u8)
 (0 : Nat) (Int.toNat (10 : Int))
 (List.replicate
 (Int.toNat (10 : Int))
 (Sh.int IntKind.u8).dflt))
 (4 : Int) (8 : Int))),
 ((1102400 : Nat),
 LB.row (3 : Nat) (Sh.int IntKind.i64)
 (cutO
 (winL (Sh.int IntKind.u8)
 (0 : Nat) (10 : Nat)
 (((((((((((List.replicate
 (10 :
 Nat)
 (Sh.int
 IntKind.u8).dflt).set
 (0 :
 Nat)
 (1 :
 Int)).set
 (1 :
 Nat)
 (1 :
 Int)).set
 (2 :
 Nat)
 (1 :
 Int)).set
 (3 :
 Nat)
 (1 :
 Int)).set
 (4 : Nat)
 (1 :
 Int)).set
 (5 : Nat)
 (1 : Int)).set
 (6 : Nat)
 (1 : Int)).set
 (7 : Nat)
 (1 : Int)).set
 (8 : Nat) (1 : Int)).set
 (9 : Nat) (1 : Int)))
 (4 : Int) (8 : Int))),
 ((1122880 : Nat),
 LB.row (48 : Nat)
 ((Sh.int IntKind.i64).pair
 (Sh.int IntKind.i64))
 (blkO
 (winL (Sh.int IntKind.u8)
 (0 : Nat) (5 : Nat)
 ((((((List.replicate (5 : Nat)
 (Sh.int
 IntKind.u8).dflt).set
 (0 : Nat)
 (1 : Int)).set
 (1 : Nat)
 (2 : Int)).set
 (2 : Nat)
 (3 : Int)).set
 (3 : Nat) (10 : Int)).set
 (4 : Nat) (9 : Int)))
 (4 : Int) (8 : Int))),
 ((1147456 : Nat),
 LB.row (26 : Nat)
 (Sh.arr (2 : Nat)
 (Sh.int IntKind.i64))
 (matO
 (winL (Sh.int IntKind.u8)
 (0 : Nat) (Int.toNat (4 : Int))
 (List.replicate
 (Int.toNat (4 : Int))
 (Sh.int IntKind.u8).dflt))
 (winL (Sh.int IntKind.u8)
 (0 : Nat) (Int.toNat (8 : Int))
 (List.replicate
 (Int.toNat (8 : Int))
 (Sh.int IntKind.u8).dflt))
 (4 : Int) (8 : Int))),
 ((1167936 : Nat),
 LB.row (3 : Nat) (Sh.int IntKind.i64)
 (cutO
 (winL (Sh.int IntKind.u8)
 (0 : Nat) (10 : Nat)
 (((((((((((List.replicate
 (10 :
 Nat)
 (Sh.int
 IntKind.u8).dflt).set
 (0 :
 Nat)
 (1 :
 Int)).set
 (1 :
 Nat)
 (1 :
 Int)).set
 (2 :
 Nat)
 (1 :
 Int)).set
 (3 :
 Nat)
 (1 :
 Int)).set
 (4 : Nat)
 (1 :
 Int)).set
 (5 : Nat)
 (1 : Int)).set
 (6 : Nat)
 (1 : Int)).set
 (7 : Nat)
 (1 : Int)).set
 (8 : Nat) (1 : Int)).set
 (9 : Nat) (1 : Int)))
 (3 : Int) (8 : Int))),
 ((1188416 : Nat),
 LB.row (3 : Nat) (Sh.int IntKind.i64)
 (cutO
 (winL (Sh.int IntKind.u8)
 (0 : Nat) (10 : Nat)
 (((((((((((List.replicate
 (10 :
 Nat)
 (Sh.int
 IntKind.u8).dflt).set
 (0 :
 Nat)
 (1 :
 Int)).set
 (1 :
 Nat)
 (1 :
 Int)).set
 (2 :
 Nat)
 (1 :
 Int)).set
 (3 :
 Nat)
 (1 :
 Int)).set
 (4 : Nat)
 (1 :
 Int)).set
 (5 : Nat)
 (1 : Int)).set
 (6 : Nat)
 (1 : Int)).set
 (7 : Nat)
 (1 : Int)).set
 (8 : Nat) (1 : Int)).set
 (9 : Nat) (1 : Int)))
 (8 : Int) (4 : Int))),
 ((1204800 : Nat),
 LB.row (48 : Nat)
 ((Sh.int IntKind.i64).pair
 (Sh.int IntKind.i64))
 (blkO [] (4 : Int) (4 : Int)))]) := by kernel_rfl
end Go.Proofs.Ytgffokpiklnpmaa
namespace Go.Proofs.Ytgffokpiklnpmaa
open Go.Px Go.Ax
attribute [local irreducible] Go.Px.sy Go.Px.syE
def ctSan : Ctr := ⟨[], fun _ => True, fun _ => [.bool true], fun _ => []⟩
instance (b : List Int) : Decidable (bytesOK b) := inferInstanceAs (Decidable (∀ c ∈ b, 0 ≤ c ∧ c < 256))
instance (n : Nat) : Decidable (preLn n) := inferInstanceAs (Decidable (n < 2 ^ 62))
theorem san_run : sy tt G0 D8 Try.f11.ntmps Try.f11.results.toList (QC ctSan ()) (Px.Good Try.prog tt G0 11 Try.f11.ntmps Try.f11.results.toList (QC ctSan ())) 1000 [.code (bodyOf Try.f11)] (entry [] ()) := by
  rw [vc_san]
  repeat' first
    | exact trivial
    | decide +kernel
    | (refine And.intro ?_ ?_)
    | (show preLn _; decide +kernel)
    | (refine QC.flat ?_ rfl rfl)
  show [SV.bool true] = [SV.bool (bif true then decide (((blkO [] 4 4).length : Int) = 0) else false)]
  rfl
theorem san_held : Held Try.prog G0 11 ctSan := Held.run dx8 (fn := Try.f11) rfl rfl ⟨by decide, by decide⟩ fun x _ => san_run
def ctLb : Ctr := ⟨[slB, paS], fun x => preT x.1, fun x => [.win true rgS 0 0 (List.length (blkO x.1 (pr2 x.2.1).1 (pr2 x.2.1).2)), .int .i64 (errO (pr2 x.2.1).1 (pr2 x.2.1).2)], fun x => [.row 48 rgS (blkO x.1 (pr2 x.2.1).1 (pr2 x.2.1).2)]⟩
theorem lb_run (b w : List Int) (hp : preT b) (R : List Item → PS → Prop) : sy tt G0 D8 Try.f14.ntmps Try.f14.results.toList (QC ctLb (b, w, ())) R 1000 [.code (bodyOf Try.f14)] (entry [slB, paS] (b, w, ())) := by
  rw [vc_lb]
  exact ⟨by decide, by decide, by decide, by decide, by decide, by decide, hp, QC.row1 (e := rgS) (et := 48) (xs := blkO b (pr2 w).1 (pr2 w).2) (n := errO (pr2 w).1 (pr2 w).2) rfl rfl rfl rfl rfl⟩
theorem lb_held : Held Try.prog G0 14 ctLb := Held.run dx8 (fn := Try.f14) rfl rfl ⟨by decide, by decide⟩ fun x hp => lb_run x.1 x.2.1 hp _
abbrev D9 : CV := (11, .inl ctSan) :: (14, .inl ctLb) :: D8
theorem dx9 : CxOK Try.prog tt G0 D9 := (dx8.cons lb_held (fn := Try.f14) rfl rfl rfl).cons san_held (fn := Try.f11) rfl rfl rfl
theorem bytes_of {l : List Int} (h : ∀ n ∈ l, (Lit.int .u8 n).wf = true) : bytesOK l := fun n hn => by
  have := Go.bounds_u8 (h n hn)
  exact ⟨this.1, by omega⟩
theorem hG : Glob G0.raw := ⟨fun g x h => by simp [G0, T.get] at h, fun g x h => by simp [G0, T.get] at h⟩
abbrev H0 : AHeap := ⟨nglob, G0.raw⟩
end Go.Proofs.Ytgffokpiklnpmaa
namespace Go.Proofs.Ytgffokpiklnpmaa
open Go.Px Go.Ax
set_option maxRecDepth 100000
theorem vc_rg (l : List (Int × Int)) (y : Int) (Q : List SV → List (Nat × LB) → Prop) (R : List Item → PS → Prop) : sy tt G0 D9 Try.f22.ntmps Try.f22.results.toList Q R 1000 [.code (bodyOf Try.f22)] (entry [.sl (.pair (.int .i64) (.int .i64)), .int .i64] (l, y, ())) =
    (R (hd Try.f22 (0 : Nat))
 {
 env :=
 [((0 : Nat), SV.sl ((Sh.int IntKind.i64).pair (Sh.int IntKind.i64)) l), ((1 : Nat), SV.int IntKind.i64 y),
 ((4 : Nat), SV.nils),
 ((5 : Nat), SV.win true ((Sh.int IntKind.i64).pair (Sh.int IntKind.i64)) (7 : Nat) (0 : Nat) (0 : Nat)),
 ((6 : Nat), SV.int IntKind.i64 (0 : Int)),
 ((7 : Nat), SV.win true ((Sh.int IntKind.i64).pair (Sh.int IntKind.i64)) (7 : Nat) (0 : Nat) (0 : Nat))],
 blk :=
 [((7 : Nat),
 LB.row (48 : Nat) ((Sh.int IntKind.i64).pair (Sh.int IntKind.i64))
 (List.replicate (0 : Nat) ((Sh.int IntKind.i64).pair (Sh.int IntKind.i64)).dflt))] }) := by kernel_rfl
theorem vc_rgL (l o : List (Int × Int)) (y i : Int) (Q : List SV → List (Nat × LB) → Prop) (R : List Item → PS → Prop) : sy tt G0 D9 Try.f22.ntmps Try.f22.results.toList Q R 1000 (hd Try.f22 0) ⟨[(0, .sl (.pair (.int .i64) (.int .i64)) l), (1, .int .i64 y), (5, .win true (.pair (.int .i64) (.int .i64)) 7 0 o.length), (6, .int .i64 i)], [(7, .row 48 (.pair (.int .i64) (.int .i64)) o)]⟩ =
    (bc (decide (i < (↑l.length : Int)))
 ((0 : Int) ≤ i ∧
 i < (↑l.length : Int) ∧
 (0 : Int) ≤ i ∧
 i < (↑l.length : Int) ∧
 (0 : Nat) + (1 : Nat) ≤
 ((List.replicate (1 : Nat) ((Sh.int IntKind.i64).pair (Sh.int IntKind.i64)).dflt).set (0 : Nat)
 (IntKind.i64.wrap ((gt ((Sh.int IntKind.i64).pair (Sh.int IntKind.i64)) l i.toNat).fst + y),
 IntKind.i64.wrap
 ((gt ((Sh.int IntKind.i64).pair (Sh.int IntKind.i64)) l i.toNat).snd + y))).length ∧
 o.length = o.length ∧
 (0 : Nat) = (0 : Nat) ∧
 o.length +
 (winL
 ((fun self => self.6)
 (mkT (2 : Nat) (16 : Nat) true
 (TK.struct [((0 : Nat), (3 : TypeId)), ((1 : Nat), (3 : TypeId))])
 ((Sh.int IntKind.i64).pair (Sh.int IntKind.i64)) (some IntKind.i64)))
 (0 : Nat) (1 : Nat)
 ((List.replicate (1 : Nat) ((Sh.int IntKind.i64).pair (Sh.int IntKind.i64)).dflt).set
 (0 : Nat)
 (IntKind.i64.wrap ((gt ((Sh.int IntKind.i64).pair (Sh.int IntKind.i64)) l i.toNat).fst + y),
 IntKind.i64.wrap
 ((gt ((Sh.int IntKind.i64).pair (Sh.int IntKind.i64)) l i.toNat).snd + y)))).length <
 (2 : Nat) ^ (30 : Nat) ∧
 (16 : Nat) ≤ (2 : Nat) ^ (10 : Nat) ∧
 R (hd Try.f22 (0 : Nat))
 {
 env :=
 [((0 : Nat), SV.sl ((Sh.int IntKind.i64).pair (Sh.int IntKind.i64)) l),
 ((1 : Nat), SV.int IntKind.i64 y),
 ((5 : Nat),
 SV.win true ((Sh.int IntKind.i64).pair (Sh.int IntKind.i64)) (31 : Nat) (0 : Nat)
 (o.length +
 (winL
 ((fun self => self.6)
 (mkT (2 : Nat) (16 : Nat) true
 (TK.struct [((0 : Nat), (3 : TypeId)), ((1 : Nat), (3 : TypeId))])
 ((Sh.int IntKind.i64).pair (Sh.int IntKind.i64)) (some IntKind.i64)))
 (0 : Nat) (1 : Nat)
 ((List.replicate (1 : Nat)
 ((Sh.int IntKind.i64).pair (Sh.int IntKind.i64)).dflt).set
 (0 : Nat)
 (IntKind.i64.wrap
 ((gt ((Sh.int IntKind.i64).pair (Sh.int IntKind.i64)) l i.toNat).fst + y),
 IntKind.i64.wrap
 ((gt ((Sh.int IntKind.i64).pair (Sh.int IntKind.i64)) l i.toNat).snd +
 y)))).length)),
 ((6 : Nat), SV.int IntKind.i64 (IntKind.i64.wrap (i + (1 : Int)))),
 ((8 : Nat), SV.int IntKind.i64 i),
 ((9 : Nat), SV.sl ((Sh.int IntKind.i64).pair (Sh.int IntKind.i64)) l),
 ((10 : Nat), SV.int IntKind.i64 (↑l.length : Int)),
 ((11 : Nat), SV.bool (decide (i < (↑l.length : Int)))), ((12 : Nat), SV.int IntKind.i64 i),
 ((13 : Nat), SV.int IntKind.i64 (IntKind.i64.wrap (i + (1 : Int)))), ((14 : Nat), SV.dead),
 ((15 : Nat), SV.sl ((Sh.int IntKind.i64).pair (Sh.int IntKind.i64)) l),
 ((16 : Nat), SV.int IntKind.i64 i),
 ((17 : Nat),
 SV.elv ((Sh.int IntKind.i64).pair (Sh.int IntKind.i64))
 (gt ((Sh.int IntKind.i64).pair (Sh.int IntKind.i64)) l i.toNat)),
 ((18 : Nat),
 SV.elv (Sh.int IntKind.i64)
 (gt ((Sh.int IntKind.i64).pair (Sh.int IntKind.i64)) l i.toNat).fst),
 ((19 : Nat),
 SV.int IntKind.i64 (gt ((Sh.int IntKind.i64).pair (Sh.int IntKind.i64)) l i.toNat).fst),
 ((20 : Nat), SV.int IntKind.i64 y),
 ((21 : Nat),
 SV.int IntKind.i64
 (IntKind.i64.wrap
 ((gt ((Sh.int IntKind.i64).pair (Sh.int IntKind.i64)) l i.toNat).fst + y))),
 ((22 : Nat), SV.sl ((Sh.int IntKind.i64).pair (Sh.int IntKind.i64)) l),
 ((23 : Nat), SV.int IntKind.i64 i),
 ((24 : Nat),
 SV.elv ((Sh.int IntKind.i64).pair (Sh.int IntKind.i64))
 (gt ((Sh.int IntKind.i64).pair (Sh.int IntKind.i64)) l i.toNat)),
 ((25 : Nat),
 SV.elv (Sh.int IntKind.i64)
 (gt ((Sh.int IntKind.i64).pair (Sh.int IntKind.i64)) l i.toNat).snd),
 ((26 : Nat),
 SV.int IntKind.i64 (gt ((Sh.int IntKind.i64).pair (Sh.int IntKind.i64)) l i.toNat).snd),
 ((27 : Nat), SV.int IntKind.i64 y),
 ((28 : Nat),
 SV.int IntKind.i64
 (IntKind.i64.wrap
 ((gt ((Sh.int IntKind.i64).pair (Sh.int IntKind.i64)) l i.toNat).snd + y))),
 ((29 : Nat),
 SV.agg
 [SV.int IntKind.i64
 (IntKind.i64.wrap
 ((gt ((Sh.int IntKind.i64).pair (Sh.int IntKind.i64)) l i.toNat).fst + y)),
 SV.int IntKind.i64
 (IntKind.i64.wrap
 ((gt ((Sh.int IntKind.i64).pair (Sh.int IntKind.i64)) l i.toNat).snd + y))]),
 ((30 : Nat),
 SV.win true ((Sh.int IntKind.i64).pair (Sh.int IntKind.i64)) (30 : Nat) (0 : Nat)
 (1 : Nat)),
 ((31 : Nat),
 SV.win true ((Sh.int IntKind.i64).pair (Sh.int IntKind.i64)) (31 : Nat) (0 : Nat)
 (o.length +
 (winL
 ((fun self => self.6)
 (mkT (2 : Nat) (16 : Nat) true
 (TK.struct [((0 : Nat), (3 : TypeId)), ((1 : Nat), (3 : TypeId))])
 ((Sh.int IntKind.i64).pair (Sh.int IntKind.i64)) (some IntKind.i64)))
 (0 : Nat) (1 : Nat)
 ((List.replicate (1 : Nat)
 ((Sh.int IntKind.i64).pair (Sh.int IntKind.i64)).dflt).set
 (0 : Nat)
 (IntKind.i64.wrap
 ((gt ((Sh.int IntKind.i64).pair (Sh.int IntKind.i64)) l i.toNat).fst + y),
 IntKind.i64.wrap
 ((gt ((Sh.int IntKind.i64).pair (Sh.int IntKind.i64)) l i.toNat).snd +
 y)))).length))],
 blk :=
 [((30 : Nat),
 LB.row (48 : Nat) ((Sh.int IntKind.i64).pair (Sh.int IntKind.i64))
 ((List.replicate (1 : Nat) ((Sh.int IntKind.i64).pair (Sh.int IntKind.i64)).dflt).set
 (0 : Nat)
 (IntKind.i64.wrap
 ((gt ((Sh.int IntKind.i64).pair (Sh.int IntKind.i64)) l i.toNat).fst + y),
 IntKind.i64.wrap
 ((gt ((Sh.int IntKind.i64).pair (Sh.int IntKind.i64)) l i.toNat).snd + y)))),
 ((31 : Nat),
 LB.row (48 : Nat) ((Sh.int IntKind.i64).pair (Sh.int IntKind.i64))
 (o ++
 winL ((Sh.int IntKind.i64).pair (Sh.int IntKind.i64)) (0 : Nat) (1 : Nat)
 ((List.replicate (1 : Nat)
 ((Sh.int IntKind.i64).pair (Sh.int IntKind.i64)).dflt).set
 (0 : Nat)
 (IntKind.i64.wrap
 ((gt ((Sh.int IntKind.i64).pair (Sh.int IntKind.i64)) l i.toNat).fst + y),
 IntKind.i64.wrap
 ((gt ((Sh.int IntKind.i64).pair (Sh.int IntKind.i64)) l i.toNat).snd +
 y)))))] })
 (Q [SV.win true ((Sh.int IntKind.i64).pair (Sh.int IntKind.i64)) (7 : Nat) (0 : Nat) o.length]
 [((7 : Nat), LB.row (48 : Nat) ((Sh.int IntKind.i64).pair (Sh.int IntKind.i64)) o)])) := by kernel_rfl
end Go.Proofs.Ytgffokpiklnpmaa
namespace Go.Proofs.Ytgffokpiklnpmaa
open Go.Px Go.Ax
attribute [local irreducible] Go.Px.sy Go.Px.syE
theorem qc_row {ct : Ctr} {x : DL ct.args} {rs : List SV} {blk : List (Nat × LB)} {e : Sh} {et : TypeId} {a k : Nat} {xs : List e.D} (h : ct.out x = [.win true e 0 0 xs.length]) (hr : ct.rows x = [.row et e xs]) (hs : rs = [.win true e a 0 k]) (hk : k = xs.length) (hb : lk blk a = some (.row et e xs)) : QC ct x rs blk := by
  subst hs; subst hk
  refine ⟨fun i => if i = 0 then some a else none, ?_, ?_, fun i j b h1 h2 => ?_, by rw [hr]; rfl⟩
  · rw [h]
    exact ⟨_, _, rfl, .inl ⟨true, a, rfl, rfl, fun h => h⟩, rfl⟩
  · rw [hr]
    exact ⟨.inl ⟨a, rfl, hb⟩, trivial⟩
  · simp only at h1 h2
    split at h1
    · split at h2
      · omega
      · cases h2
    · cases h1
/-- Ranges, moved. -/
def mvR (l : List (Int × Int)) (y : Int) : List (Int × Int) := l.map fun r => (r.1 + y, r.2 + y)
def small (n : Int) : Prop := -1073741824 ≤ n ∧ n ≤ 1073741824
def preRg (l : List (Int × Int)) (y : Int) : Prop := l.length < 1048576 ∧ (∀ r ∈ l, small r.1 ∧ small r.2) ∧ small y
def ctRg : Ctr := ⟨[.sl rgS, iI], fun x => preRg x.1 x.2.1, fun x => [.win true rgS 0 0 (List.length (mvR x.1 x.2.1))], fun x => [.row 48 rgS (mvR x.1 x.2.1)]⟩
theorem rg_loop {l : List (Int × Int)} {y : Int} (hp : preRg l y) : ∀ (k i : Nat) (o : List (Int × Int)), l.length - i ≤ k → i ≤ l.length → o = mvR (l.take i) y →
    GD 22 Try.f22 (QC ctRg (l, y, ())) (hd Try.f22 0) ⟨[(0, .sl rgS l), (1, .int .i64 y), (5, .win true rgS 7 0 o.length), (6, .int .i64 (i : Nat))], [(7, .row 48 rgS o)]⟩ := by
  obtain ⟨h1, h2, h3⟩ := hp
  have fin : ∀ (i : Nat) (o : List (Int × Int)), ¬ i < l.length → i ≤ l.length → o = mvR (l.take i) y → QC ctRg (l, y, ()) [.win true rgS 7 0 o.length] [(7, .row 48 rgS o)] := by
    intro i o hn hi ho
    have e : o = mvR l y := by rw [ho, List.take_of_length_le (by omega)]
    subst e
    exact qc_row rfl rfl rfl rfl rfl
  intro k
  induction k with
  | zero =>
    intro i o hk hi ho
    refine sy_go dx9 (vc_rgL l o y i _ _) ?_
    rw [decide_eq_false (by omega), bc_f]
    exact fin i o (by omega) hi ho
  | succ k ih =>
    intro i o hk hi ho
    refine sy_go dx9 (vc_rgL l o y i _ _) ?_
    by_cases h : i < l.length
    · have hs := h2 l[i] (List.getElem_mem h)
      unfold small at hs h3
      have e1 : gt rgS l (i : Int).toNat = l[i] := gtE h
      rw [decide_eq_true (show (i : Int) < (l.length : Int) by omega), bc_t, e1, IntWalk.i64_in ((i : Int) + 1) (by omega), IntWalk.i64_in (l[i].1 + y) (by omega), IntWalk.i64_in (l[i].2 + y) (by omega)]
      have hol : o.length = i := by rw [ho, mvR, List.length_map, List.length_take]; omega
      refine ⟨by omega, by omega, by omega, by omega, Nat.le_refl _, rfl, rfl, ?_, by decide, ?_⟩
      · show o.length + 1 < 2 ^ 30
        omega
      · have ho2 : o ++ [(l[i].1 + y, l[i].2 + y)] = mvR (l.take (i + 1)) y := by
          rw [ho, mvR, mvR, List.take_succ_eq_append_getElem h, List.map_append]; rfl
        refine Good.onlyR (ih (i + 1) _ (by omega) (by omega) ho2) [(7, 31)] rfl ⟨rfl, rfl, ?_, rfl, trivial⟩ ⟨rfl, trivial⟩
        show some (SV.win true rgS 31 0 (o.length + 1)) = some (SV.win true rgS 31 0 (o ++ [(l[i].1 + y, l[i].2 + y)]).length)
        rw [List.length_append, List.length_singleton]
    · rw [decide_eq_false (by omega), bc_f]
      exact fin i o h hi ho
theorem rg_run (l : List (Int × Int)) (y : Int) (hp : preRg l y) : sy tt G0 D9 Try.f22.ntmps Try.f22.results.toList (QC ctRg (l, y, ())) (Px.Good Try.prog tt G0 22 Try.f22.ntmps Try.f22.results.toList (QC ctRg (l, y, ()))) 1000 [.code (bodyOf Try.f22)] (entry [.sl rgS, iI] (l, y, ())) := by
  rw [vc_rg]
  exact (rg_loop hp _ 0 [] (Nat.le_refl _) (Nat.zero_le _) rfl).only ⟨rfl, rfl, rfl, rfl, trivial⟩ ⟨rfl, trivial⟩
theorem rg_held : Held Try.prog G0 22 ctRg := Held.run dx9 (fn := Try.f22) rfl rfl ⟨by decide, by decide⟩ fun x hp => rg_run x.1 x.2.1 hp
abbrev D10 : CV := (22, .inl ctRg) :: D9
theorem dx10 : CxOK Try.prog tt G0 D10 := dx9.cons rg_held (fn := Try.f22) rfl rfl rfl
end Go.Proofs.Ytgffokpiklnpmaa
namespace Go.Proofs.Ytgffokpiklnpmaa
open Go.Px Go.Ax
set_option maxRecDepth 100000
theorem vc_l9 (x n : Int) (w : List Int) (Q : List SV → List (Nat × LB) → Prop) (R : List Item → PS → Prop) : sy tt G0 D9 Try.f9.ntmps Try.f9.results.toList Q R 1000 [.code (bodyOf Try.f9)] (entry [.int .u8, .int .u16, .arr 2 (.int .u8)] (x, n, w, ())) =
    (ctSan.pre () ∧
 ctMade.pre (w, ()) ∧
 (601 : Int) ≠ (0 : Int) ∧
 (0 : Int) ≤ (IntKind.i64.wrap n).tmod (601 : Int) ∧
 (IntKind.i64.wrap n).tmod (601 : Int) ≤ (IntKind.i64.wrap n).tmod (601 : Int) ∧
 (IntKind.i64.wrap n).tmod (601 : Int) < (2 : Int) ^ (24 : Nat) ∧
 (↑(1 : Nat) : Int) * (IntKind.i64.wrap n).tmod (601 : Int) ≤ (2 : Int) ^ (48 : Nat) ∧
 R (hd Try.f9 (0 : Nat))
 {
 env :=
 [((0 : Nat), SV.int IntKind.u8 x), ((1 : Nat), SV.int IntKind.u16 n),
 ((2 : Nat), SV.arr (2 : Nat) (Sh.int IntKind.u8) w), ((5 : Nat), SV.ptr (5 : Nat) (0 : Nat)),
 ((6 : Nat), SV.bool false), ((7 : Nat), SV.bool true), ((8 : Nat), SV.ptr (8 : Nat) (0 : Nat)),
 ((9 : Nat),
 SV.win true (Sh.int IntKind.u8) (21 : Nat) (0 : Nat)
 ((IntKind.i64.wrap n).tmod (601 : Int)).toNat),
 ((10 : Nat), SV.int IntKind.i64 (0 : Int)), ((15 : Nat), SV.bool true),
 ((16 : Nat), SV.arr (2 : Nat) (Sh.int IntKind.u8) w),
 ((17 : Nat), SV.arr (2 : Nat) (Sh.int IntKind.i64) (madeL w)), ((18 : Nat), SV.int IntKind.u16 n),
 ((19 : Nat), SV.int IntKind.i64 (IntKind.i64.wrap n)),
 ((20 : Nat), SV.int IntKind.i64 ((IntKind.i64.wrap n).tmod (601 : Int))),
 ((21 : Nat),
 SV.win true (Sh.int IntKind.u8) (21 : Nat) (0 : Nat)
 ((IntKind.i64.wrap n).tmod (601 : Int)).toNat)],
 blk :=
 [((5 : Nat), LB.var [SV.arr (2 : Nat) (Sh.int IntKind.u8) w]),
 ((8 : Nat), LB.var [SV.arr (2 : Nat) (Sh.int IntKind.i64) (madeL w)]),
 ((21 : Nat),
 LB.row (5 : Nat) (Sh.int IntKind.u8)
 (List.replicate ((IntKind.i64.wrap n).tmod (601 : Int)).toNat (Sh.int IntKind.u8).dflt))] }) := by kernel_rfl
theorem vc_l9A (x i : Int) (b w : List Int) (Q : List SV → List (Nat × LB) → Prop) (R : List Item → PS → Prop) : sy tt G0 D9 Try.f9.ntmps Try.f9.results.toList Q (fun it S => R it (keepS [0, 7, 8, 9, 10, 11, 12, 14] [8, 21, 1172032] S)) 1000 (hd Try.f9 0) ⟨[(0, .int .u8 x), (7, .bool true), (8, .ptr 8 0), (9, .win true (.int .u8) 21 0 b.length), (10, .int .i64 i)], [(8, .var [.arr 2 (.int .i64) w]), (21, .row 5 (.int .u8) b)]⟩ =
    (bc (decide (i < (↑b.length : Int)))
 ((0 : Int) ≤ i ∧
 i < (↑b.length : Int) ∧
 (0 : Nat) + i.toNat < b.length ∧
 R (hd Try.f9 (0 : Nat))
 {
 env :=
 [((0 : Nat), SV.int IntKind.u8 x), ((7 : Nat), SV.bool true), ((8 : Nat), SV.ptr (8 : Nat) (0 : Nat)),
 ((9 : Nat), SV.win true (Sh.int IntKind.u8) (21 : Nat) (0 : Nat) b.length),
 ((10 : Nat), SV.int IntKind.i64 (IntKind.i64.wrap (i + (1 : Int))))],
 blk :=
 [((8 : Nat), LB.var [SV.arr (2 : Nat) (Sh.int IntKind.i64) w]),
 ((21 : Nat), LB.row (5 : Nat) (Sh.int IntKind.u8) (b.set ((0 : Nat) + i.toNat) x))] })
 ((0 : Int) ≤ (1 : Int) ∧
 (1 : Int) < (↑(2 : Nat) : Int) ∧
 Int.toNat (1 : Int) < (2 : Nat) ∧
 (4 : Int) ≠ (0 : Int) ∧
 bc (decide (x.tmod (4 : Int) = (0 : Int)))
 ((0 : Int) ≤ (0 : Int) ∧
 (0 : Int) < (↑(2 : Nat) : Int) ∧
 Int.toNat (0 : Int) < (2 : Nat) ∧
 (0 : Nat) + b.length ≤ b.length ∧
 ctLb.pre (winL (Sh.int IntKind.u8) (0 : Nat) b.length b, w, ()) ∧
 bc (decide (errO (pr2 w).fst (pr2 w).snd ≠ (0 : Int)))
 (true = true ∧
 Q [SV.bool false]
 [((8 : Nat), LB.var [SV.arr (2 : Nat) (Sh.int IntKind.i64) w]),
 ((21 : Nat), LB.row (5 : Nat) (Sh.int IntKind.u8) b),
 ((1172032 : Nat),
 LB.row (48 : Nat) ((Sh.int IntKind.i64).pair (Sh.int IntKind.i64))
 (blkO (winL (Sh.int IntKind.u8) (0 : Nat) b.length b) (pr2 w).fst (pr2 w).snd))])
 (gt (Sh.int IntKind.i64) w (Int.toNat (0 : Int)) ≠ (0 : Int) ∧
 bc
 (bif false then true
 else
 decide
 ((↑(blkO (winL (Sh.int IntKind.u8) (0 : Nat) b.length b) (pr2 w).fst
 (pr2 w).snd).length :
 Int) ≠
 IntKind.i64.wrap
 ((IntKind.i64.wrap
 (IntKind.i64.wrap
 ((↑b.length : Int) + gt (Sh.int IntKind.i64) w (Int.toNat (0 : Int))) -
 (1 : Int))).tdiv
 (gt (Sh.int IntKind.i64) w (Int.toNat (0 : Int))))))
 (Q [SV.bool false]
 [((8 : Nat), LB.var [SV.arr (2 : Nat) (Sh.int IntKind.i64) w]),
 ((21 : Nat), LB.row (5 : Nat) (Sh.int IntKind.u8) b),
 ((1172032 : Nat),
 LB.row (48 : Nat) ((Sh.int IntKind.i64).pair (Sh.int IntKind.i64))
 (blkO (winL (Sh.int IntKind.u8) (0 : Nat) b.length b) (pr2 w).fst (pr2 w).snd))])
 (R (hd Try.f9 (1 : Nat))
 {
 env :=
 [((0 : Nat), SV.int IntKind.u8 x), ((7 : Nat), SV.bool true),
 ((8 : Nat), SV.ptr (8 : Nat) (0 : Nat)),
 ((9 : Nat), SV.win true (Sh.int IntKind.u8) (21 : Nat) (0 : Nat) b.length),
 ((10 : Nat), SV.int IntKind.i64 i),
 ((11 : Nat), SV.int IntKind.i64 (gt (Sh.int IntKind.i64) w (Int.toNat (0 : Int)))),
 ((12 : Nat),
 SV.win true ((Sh.int IntKind.i64).pair (Sh.int IntKind.i64)) (1172032 : Nat)
 (0 : Nat)
 (blkO (winL (Sh.int IntKind.u8) (0 : Nat) b.length b) (pr2 w).fst
 (pr2 w).snd).length),
 ((14 : Nat), SV.int IntKind.i64 (0 : Int))],
 blk :=
 [((8 : Nat), LB.var [SV.arr (2 : Nat) (Sh.int IntKind.i64) w]),
 ((21 : Nat), LB.row (5 : Nat) (Sh.int IntKind.u8) b),
 ((1172032 : Nat),
 LB.row (48 : Nat) ((Sh.int IntKind.i64).pair (Sh.int IntKind.i64))
 (blkO (winL (Sh.int IntKind.u8) (0 : Nat) b.length b) (pr2 w).fst
 (pr2 w).snd))] })))
 ((0 : Nat) + b.length ≤ b.length ∧
 ctLb.pre (winL (Sh.int IntKind.u8) (0 : Nat) b.length b, w, ()) ∧
 bc (decide (errO (pr2 w).fst (pr2 w).snd ≠ (0 : Int)))
 (true = true ∧
 Q [SV.bool false]
 [((8 : Nat), LB.var [SV.arr (2 : Nat) (Sh.int IntKind.i64) w]),
 ((21 : Nat), LB.row (5 : Nat) (Sh.int IntKind.u8) b),
 ((1172032 : Nat),
 LB.row (48 : Nat) ((Sh.int IntKind.i64).pair (Sh.int IntKind.i64))
 (blkO (winL (Sh.int IntKind.u8) (0 : Nat) b.length b) (pr2 w).fst (pr2 w).snd))])
 (gt (Sh.int IntKind.i64) w (Int.toNat (1 : Int)) ≠ (0 : Int) ∧
 bc
 (bif false then true
 else
 decide
 ((↑(blkO (winL (Sh.int IntKind.u8) (0 : Nat) b.length b) (pr2 w).fst (pr2 w).snd).length :
 Int) ≠
 IntKind.i64.wrap
 ((IntKind.i64.wrap
 (IntKind.i64.wrap
 ((↑b.length : Int) + gt (Sh.int IntKind.i64) w (Int.toNat (1 : Int))) -
 (1 : Int))).tdiv
 (gt (Sh.int IntKind.i64) w (Int.toNat (1 : Int))))))
 (Q [SV.bool false]
 [((8 : Nat), LB.var [SV.arr (2 : Nat) (Sh.int IntKind.i64) w]),
 ((21 : Nat), LB.row (5 : Nat) (Sh.int IntKind.u8) b),
 ((1172032 : Nat),
 LB.row (48 : Nat) ((Sh.int IntKind.i64).pair (Sh.int IntKind.i64))
 (blkO (winL (Sh.int IntKind.u8) (0 : Nat) b.length b) (pr2 w).fst (pr2 w).snd))])
 (R (hd Try.f9 (1 : Nat))
 {
 env :=
 [((0 : Nat), SV.int IntKind.u8 x), ((7 : Nat), SV.bool true),
 ((8 : Nat), SV.ptr (8 : Nat) (0 : Nat)),
 ((9 : Nat), SV.win true (Sh.int IntKind.u8) (21 : Nat) (0 : Nat) b.length),
 ((10 : Nat), SV.int IntKind.i64 i),
 ((11 : Nat), SV.int IntKind.i64 (gt (Sh.int IntKind.i64) w (Int.toNat (1 : Int)))),
 ((12 : Nat),
 SV.win true ((Sh.int IntKind.i64).pair (Sh.int IntKind.i64)) (1172032 : Nat) (0 : Nat)
 (blkO (winL (Sh.int IntKind.u8) (0 : Nat) b.length b) (pr2 w).fst
 (pr2 w).snd).length),
 ((14 : Nat), SV.int IntKind.i64 (0 : Int))],
 blk :=
 [((8 : Nat), LB.var [SV.arr (2 : Nat) (Sh.int IntKind.i64) w]),
 ((21 : Nat), LB.row (5 : Nat) (Sh.int IntKind.u8) b),
 ((1172032 : Nat),
 LB.row (48 : Nat) ((Sh.int IntKind.i64).pair (Sh.int IntKind.i64))
 (blkO (winL (Sh.int IntKind.u8) (0 : Nat) b.length b) (pr2 w).fst (pr2 w).snd))] }))))) := by kernel_rfl
theorem vc_l9B (i z : Int) (b : List Int) (r : List (Int × Int)) (Q : List SV → List (Nat × LB) → Prop) (R : List Item → PS → Prop) : sy tt G0 D9 Try.f9.ntmps Try.f9.results.toList Q (fun it S => R it (keepS [7, 9, 11, 12, 14] [21, 1172032] S)) 1000 (hd Try.f9 1) ⟨[(7, .bool true), (9, .win true (.int .u8) 21 0 b.length), (11, .int .i64 z), (12, .win true (.pair (.int .i64) (.int .i64)) 1172032 0 r.length), (14, .int .i64 i)], [(21, .row 5 (.int .u8) b), (1172032, .row 48 (.pair (.int .i64) (.int .i64)) r)]⟩ =
    (bc (decide (i < (↑r.length : Int)))
 ((0 : Int) ≤ i ∧
 i < (↑r.length : Int) ∧
 (0 : Nat) + i.toNat < r.length ∧
 bc
 (decide
 ((gt ((Sh.int IntKind.i64).pair (Sh.int IntKind.i64)) r ((0 : Nat) + i.toNat)).fst ≠
 IntKind.i64.wrap (i * z)))
 (true = true ∧
 Q [SV.bool false]
 [((21 : Nat), LB.row (5 : Nat) (Sh.int IntKind.u8) b),
 ((1172032 : Nat), LB.row (48 : Nat) ((Sh.int IntKind.i64).pair (Sh.int IntKind.i64)) r)])
 ((0 : Int) ≤ i ∧
 i < (↑r.length : Int) ∧
 (0 : Nat) + i.toNat < r.length ∧
 bc
 (bif false then true
 else
 decide
 ((gt ((Sh.int IntKind.i64).pair (Sh.int IntKind.i64)) r ((0 : Nat) + i.toNat)).snd ≠
 min (IntKind.i64.wrap (IntKind.i64.wrap (i * z) + z)) (↑b.length : Int)))
 (Q [SV.bool false]
 [((21 : Nat), LB.row (5 : Nat) (Sh.int IntKind.u8) b),
 ((1172032 : Nat), LB.row (48 : Nat) ((Sh.int IntKind.i64).pair (Sh.int IntKind.i64)) r)])
 (R (hd Try.f9 (1 : Nat))
 {
 env :=
 [((7 : Nat), SV.bool true),
 ((9 : Nat), SV.win true (Sh.int IntKind.u8) (21 : Nat) (0 : Nat) b.length),
 ((11 : Nat), SV.int IntKind.i64 z),
 ((12 : Nat),
 SV.win true ((Sh.int IntKind.i64).pair (Sh.int IntKind.i64)) (1172032 : Nat) (0 : Nat)
 r.length),
 ((14 : Nat), SV.int IntKind.i64 (IntKind.i64.wrap (i + (1 : Int))))],
 blk :=
 [((21 : Nat), LB.row (5 : Nat) (Sh.int IntKind.u8) b),
 ((1172032 : Nat), LB.row (48 : Nat) ((Sh.int IntKind.i64).pair (Sh.int IntKind.i64)) r)] })))
 (Q [SV.bool true]
 [((21 : Nat), LB.row (5 : Nat) (Sh.int IntKind.u8) b),
 ((1172032 : Nat), LB.row (48 : Nat) ((Sh.int IntKind.i64).pair (Sh.int IntKind.i64)) r)])) := by kernel_rfl
end Go.Proofs.Ytgffokpiklnpmaa
namespace Go.Proofs.Ytgffokpiklnpmaa
open Go.Px Go.Ax
set_option maxRecDepth 100000
theorem vc_l5 (b w : List Int) (Q : List SV → List (Nat × LB) → Prop) (R : List Item → PS → Prop) : sy tt G0 D10 Try.f5.ntmps Try.f5.results.toList Q R 1000 [.code (bodyOf Try.f5)] (entry [.sl (.int .u8), .arr 2 (.int .u8)] (b, w, ())) =
    (ctSan.pre () ∧
 ctMade.pre (w, ()) ∧
 bc (decide ((200 : Int) < (↑b.length : Int)))
 (Q [SV.bool true]
 [((3 : Nat), LB.var [SV.arr (2 : Nat) (Sh.int IntKind.u8) w]),
 ((6 : Nat), LB.var [SV.arr (2 : Nat) (Sh.int IntKind.i64) (madeL w)])])
 (ctLb.pre (b, madeL w, ()) ∧
 bc (decide (errO (pr2 (madeL w)).fst (pr2 (madeL w)).snd ≠ (0 : Int)))
 (Q [SV.bool false]
 [((3 : Nat), LB.var [SV.arr (2 : Nat) (Sh.int IntKind.u8) w]),
 ((6 : Nat), LB.var [SV.arr (2 : Nat) (Sh.int IntKind.i64) (madeL w)]),
 ((1090112 : Nat),
 LB.row (48 : Nat) ((Sh.int IntKind.i64).pair (Sh.int IntKind.i64))
 (blkO b (pr2 (madeL w)).fst (pr2 (madeL w)).snd))])
 (R (hd Try.f5 (0 : Nat))
 {
 env :=
 [((0 : Nat), SV.sl (Sh.int IntKind.u8) b), ((1 : Nat), SV.arr (2 : Nat) (Sh.int IntKind.u8) w),
 ((3 : Nat), SV.ptr (3 : Nat) (0 : Nat)), ((4 : Nat), SV.bool false), ((5 : Nat), SV.bool true),
 ((6 : Nat), SV.ptr (6 : Nat) (0 : Nat)),
 ((7 : Nat),
 SV.win true ((Sh.int IntKind.i64).pair (Sh.int IntKind.i64)) (1090112 : Nat) (0 : Nat)
 (blkO b (pr2 (madeL w)).fst (pr2 (madeL w)).snd).length),
 ((8 : Nat), SV.int IntKind.i64 (errO (pr2 (madeL w)).fst (pr2 (madeL w)).snd)),
 ((9 : Nat), SV.int IntKind.i64 (0 : Int)), ((12 : Nat), SV.bool true),
 ((13 : Nat), SV.arr (2 : Nat) (Sh.int IntKind.u8) w),
 ((14 : Nat), SV.arr (2 : Nat) (Sh.int IntKind.i64) (madeL w)),
 ((15 : Nat), SV.sl (Sh.int IntKind.u8) b), ((16 : Nat), SV.int IntKind.i64 (↑b.length : Int)),
 ((17 : Nat), SV.bool (decide ((200 : Int) < (↑b.length : Int)))),
 ((19 : Nat),
 SV.tup
 [SV.win true ((Sh.int IntKind.i64).pair (Sh.int IntKind.i64)) (1090112 : Nat) (0 : Nat)
 (blkO b (pr2 (madeL w)).fst (pr2 (madeL w)).snd).length,
 SV.int IntKind.i64 (errO (pr2 (madeL w)).fst (pr2 (madeL w)).snd)]),
 ((20 : Nat), SV.sl (Sh.int IntKind.u8) b),
 ((21 : Nat), SV.arr (2 : Nat) (Sh.int IntKind.i64) (madeL w)),
 ((22 : Nat),
 SV.tup
 [SV.win true ((Sh.int IntKind.i64).pair (Sh.int IntKind.i64)) (1090112 : Nat) (0 : Nat)
 (blkO b (pr2 (madeL w)).fst (pr2 (madeL w)).snd).length,
 SV.int IntKind.i64 (errO (pr2 (madeL w)).fst (pr2 (madeL w)).snd)]),
 ((23 : Nat),
 SV.win true ((Sh.int IntKind.i64).pair (Sh.int IntKind.i64)) (1090112 : Nat) (0 : Nat)
 (blkO b (pr2 (madeL w)).fst (pr2 (madeL w)).snd).length),
 ((24 : Nat), SV.int IntKind.i64 (errO (pr2 (madeL w)).fst (pr2 (madeL w)).snd)),
 ((25 : Nat), SV.int IntKind.i64 (errO (pr2 (madeL w)).fst (pr2 (madeL w)).snd)),
 ((26 : Nat), SV.bool (decide (errO (pr2 (madeL w)).fst (pr2 (madeL w)).snd ≠ (0 : Int))))],
 blk :=
 [((3 : Nat), LB.var [SV.arr (2 : Nat) (Sh.int IntKind.u8) w]),
 ((6 : Nat), LB.var [SV.arr (2 : Nat) (Sh.int IntKind.i64) (madeL w)]),
 ((1090112 : Nat),
 LB.row (48 : Nat) ((Sh.int IntKind.i64).pair (Sh.int IntKind.i64))
 (blkO b (pr2 (madeL w)).fst (pr2 (madeL w)).snd))] }))) := by kernel_rfl
theorem vc_l5L (b w : List Int) (r : List (Int × Int)) (i : Int) (Q : List SV → List (Nat × LB) → Prop) (R : List Item → PS → Prop) : sy tt G0 D10 Try.f5.ntmps Try.f5.results.toList Q (fun it S => R it (keepS [0, 5, 6, 7, 9] [6, 1090112] S)) 1000 (hd Try.f5 0) ⟨[(0, .sl (.int .u8) b), (5, .bool true), (6, .ptr 6 0), (7, .win true (.pair (.int .i64) (.int .i64)) 1090112 0 r.length), (9, .int .i64 i)], [(6, .var [.arr 2 (.int .i64) w]), (1090112, .row 48 (.pair (.int .i64) (.int .i64)) r)]⟩ =
    (bc (decide (i < (↑r.length : Int)))
 ((0 : Int) ≤ i ∧
 i < (↑r.length : Int) ∧
 (0 : Nat) + i.toNat < r.length ∧
 bc (decide ((gt ((Sh.int IntKind.i64).pair (Sh.int IntKind.i64)) r ((0 : Nat) + i.toNat)).fst < (0 : Int)))
 (true = true ∧
 Q [SV.bool false]
 [((6 : Nat), LB.var [SV.arr (2 : Nat) (Sh.int IntKind.i64) w]),
 ((1090112 : Nat), LB.row (48 : Nat) ((Sh.int IntKind.i64).pair (Sh.int IntKind.i64)) r)])
 ((0 : Int) ≤ i ∧
 i < (↑r.length : Int) ∧
 (0 : Nat) + i.toNat < r.length ∧
 bc
 (bif false then true
 else
 decide
 ((↑b.length : Int) <
 (gt ((Sh.int IntKind.i64).pair (Sh.int IntKind.i64)) r ((0 : Nat) + i.toNat)).fst))
 (Q [SV.bool false]
 [((6 : Nat), LB.var [SV.arr (2 : Nat) (Sh.int IntKind.i64) w]),
 ((1090112 : Nat), LB.row (48 : Nat) ((Sh.int IntKind.i64).pair (Sh.int IntKind.i64)) r)])
 ((0 : Int) ≤ i ∧
 i < (↑r.length : Int) ∧
 (0 : Nat) + i.toNat < r.length ∧
 (0 : Int) ≤ (gt ((Sh.int IntKind.i64).pair (Sh.int IntKind.i64)) r ((0 : Nat) + i.toNat)).fst ∧
 (gt ((Sh.int IntKind.i64).pair (Sh.int IntKind.i64)) r ((0 : Nat) + i.toNat)).fst ≤
 (↑b.length : Int) ∧
 ctLb.pre
 (List.drop
 (Int.toNat
 (gt ((Sh.int IntKind.i64).pair (Sh.int IntKind.i64)) r ((0 : Nat) + i.toNat)).fst)
 b,
 w, ()) ∧
 bc (decide (errO (pr2 w).fst (pr2 w).snd ≠ (0 : Int)))
 (true = true ∧
 Q [SV.bool false]
 [((6 : Nat), LB.var [SV.arr (2 : Nat) (Sh.int IntKind.i64) w]),
 ((1090112 : Nat),
 LB.row (48 : Nat) ((Sh.int IntKind.i64).pair (Sh.int IntKind.i64)) r),
 ((1237568 : Nat),
 LB.row (48 : Nat) ((Sh.int IntKind.i64).pair (Sh.int IntKind.i64))
 (blkO
 (List.drop
 (Int.toNat
 (gt ((Sh.int IntKind.i64).pair (Sh.int IntKind.i64)) r
 ((0 : Nat) + i.toNat)).fst)
 b)
 (pr2 w).fst (pr2 w).snd))])
 ((0 : Int) ≤ i ∧
 i < (↑r.length : Int) ∧
 (0 : Nat) + i.toNat < r.length ∧
 (0 : Nat) +
 (blkO
 (List.drop
 (Int.toNat
 (gt ((Sh.int IntKind.i64).pair (Sh.int IntKind.i64)) r
 ((0 : Nat) + i.toNat)).fst)
 b)
 (pr2 w).fst (pr2 w).snd).length ≤
 (blkO
 (List.drop
 (Int.toNat
 (gt ((Sh.int IntKind.i64).pair (Sh.int IntKind.i64)) r
 ((0 : Nat) + i.toNat)).fst)
 b)
 (pr2 w).fst (pr2 w).snd).length ∧
 ctRg.pre
 (winL rgS (0 : Nat)
 (blkO
 (List.drop
 (Int.toNat
 (gt ((Sh.int IntKind.i64).pair (Sh.int IntKind.i64)) r
 ((0 : Nat) + i.toNat)).fst)
 b)
 (pr2 w).fst (pr2 w).snd).length
 (blkO
 (List.drop
 (Int.toNat
 (gt ((Sh.int IntKind.i64).pair (Sh.int IntKind.i64)) r
 ((0 : Nat) + i.toNat)).fst)
 b)
 (pr2 w).fst (pr2 w).snd),
 (gt ((Sh.int IntKind.i64).pair (Sh.int IntKind.i64)) r
 ((0 : Nat) + i.toNat)).fst,
 ()) ∧
 (0 : Int) ≤ i ∧
 i ≤ (↑r.length : Int) ∧
 (0 : Nat) + r.length ≤ r.length ∧
 (0 : Nat) +
 (mvR
 (winL rgS (0 : Nat)
 (blkO
 (List.drop
 (Int.toNat
 (gt ((Sh.int IntKind.i64).pair (Sh.int IntKind.i64))
 r ((0 : Nat) + i.toNat)).fst)
 b)
 (pr2 w).fst (pr2 w).snd).length
 (blkO
 (List.drop
 (Int.toNat
 (gt ((Sh.int IntKind.i64).pair (Sh.int IntKind.i64)) r
 ((0 : Nat) + i.toNat)).fst)
 b)
 (pr2 w).fst (pr2 w).snd))
 (gt ((Sh.int IntKind.i64).pair (Sh.int IntKind.i64)) r
 ((0 : Nat) + i.toNat)).fst).length ≤
 (mvR
 (winL rgS (0 : Nat)
 (blkO
 (List.drop
 (Int.toNat
 (gt ((Sh.int IntKind.i64).pair (Sh.int IntKind.i64)) r
 ((0 : Nat) + i.toNat)).fst)
 b)
 (pr2 w).fst (pr2 w).snd).length
 (blkO
 (List.drop
 (Int.toNat
 (gt ((Sh.int IntKind.i64).pair (Sh.int IntKind.i64)) r
 ((0 : Nat) + i.toNat)).fst)
 b)
 (pr2 w).fst (pr2 w).snd))
 (gt ((Sh.int IntKind.i64).pair (Sh.int IntKind.i64)) r
 ((0 : Nat) + i.toNat)).fst).length ∧
 (0 : Nat) + i.toNat + (r.length - i.toNat) ≤ r.length ∧
 ctRngs.pre
 (winL rgS (0 : Nat)
 (mvR
 (winL rgS (0 : Nat)
 (blkO
 (List.drop
 (Int.toNat
 (gt
 ((Sh.int IntKind.i64).pair
 (Sh.int IntKind.i64))
 r ((0 : Nat) + i.toNat)).fst)
 b)
 (pr2 w).fst (pr2 w).snd).length
 (blkO
 (List.drop
 (Int.toNat
 (gt
 ((Sh.int IntKind.i64).pair
 (Sh.int IntKind.i64))
 r ((0 : Nat) + i.toNat)).fst)
 b)
 (pr2 w).fst (pr2 w).snd))
 (gt ((Sh.int IntKind.i64).pair (Sh.int IntKind.i64)) r
 ((0 : Nat) + i.toNat)).fst).length
 (mvR
 (winL rgS (0 : Nat)
 (blkO
 (List.drop
 (Int.toNat
 (gt
 ((Sh.int IntKind.i64).pair
 (Sh.int IntKind.i64))
 r ((0 : Nat) + i.toNat)).fst)
 b)
 (pr2 w).fst (pr2 w).snd).length
 (blkO
 (List.drop
 (Int.toNat
 (gt
 ((Sh.int IntKind.i64).pair
 (Sh.int IntKind.i64))
 r ((0 : Nat) + i.toNat)).fst)
 b)
 (pr2 w).fst (pr2 w).snd))
 (gt ((Sh.int IntKind.i64).pair (Sh.int IntKind.i64)) r
 ((0 : Nat) + i.toNat)).fst),
 winL rgS ((0 : Nat) + i.toNat) (r.length - i.toNat) r, ()) ∧
 bc
 (bif false then true
 else
 !eqR
 (winL rgS (0 : Nat)
 (mvR
 (winL rgS (0 : Nat)
 (blkO
 (List.drop
 (Int.toNat
 (gt
 ((Sh.int IntKind.i64).pair
 (Sh.int IntKind.i64))
 r ((0 : Nat) + i.toNat)).fst)
 b)
 (pr2 w).fst (pr2 w).snd).length
 (blkO
 (List.drop
 (Int.toNat
 (gt
 ((Sh.int IntKind.i64).pair
 (Sh.int IntKind.i64))
 r ((0 : Nat) + i.toNat)).fst)
 b)
 (pr2 w).fst (pr2 w).snd))
 (gt ((Sh.int IntKind.i64).pair (Sh.int IntKind.i64))
 r ((0 : Nat) + i.toNat)).fst).length
 (mvR
 (winL rgS (0 : Nat)
 (blkO
 (List.drop
 (Int.toNat
 (gt
 ((Sh.int IntKind.i64).pair
 (Sh.int IntKind.i64))
 r ((0 : Nat) + i.toNat)).fst)
 b)
 (pr2 w).fst (pr2 w).snd).length
 (blkO
 (List.drop
 (Int.toNat
 (gt
 ((Sh.int IntKind.i64).pair
 (Sh.int IntKind.i64))
 r ((0 : Nat) + i.toNat)).fst)
 b)
 (pr2 w).fst (pr2 w).snd))
 (gt ((Sh.int IntKind.i64).pair (Sh.int IntKind.i64)) r
 ((0 : Nat) + i.toNat)).fst))
 (winL rgS ((0 : Nat) + i.toNat) (r.length - i.toNat) r))
 (Q [SV.bool false]
 [((6 : Nat),
 LB.var [SV.arr (2 : Nat) (Sh.int IntKind.i64) w]),
 ((1090112 : Nat),
 LB.row (48 : Nat)
 ((Sh.int IntKind.i64).pair (Sh.int IntKind.i64)) r),
 ((1237568 : Nat),
 LB.row (48 : Nat)
 ((Sh.int IntKind.i64).pair (Sh.int IntKind.i64))
 (blkO
 (List.drop
 (Int.toNat
 (gt
 ((Sh.int IntKind.i64).pair
 (Sh.int IntKind.i64))
 r ((0 : Nat) + i.toNat)).fst)
 b)
 (pr2 w).fst (pr2 w).snd)),
 ((1286720 : Nat),
 LB.row (48 : Nat)
 ((Sh.int IntKind.i64).pair (Sh.int IntKind.i64))
 (mvR
 (winL rgS (0 : Nat)
 (blkO
 (List.drop
 (Int.toNat
 (gt
 ((Sh.int IntKind.i64).pair
 (Sh.int IntKind.i64))
 r ((0 : Nat) + i.toNat)).fst)
 b)
 (pr2 w).fst (pr2 w).snd).length
 (blkO
 (List.drop
 (Int.toNat
 (gt
 ((Sh.int IntKind.i64).pair
 (Sh.int IntKind.i64))
 r ((0 : Nat) + i.toNat)).fst)
 b)
 (pr2 w).fst (pr2 w).snd))
 (gt ((Sh.int IntKind.i64).pair (Sh.int IntKind.i64)) r
 ((0 : Nat) + i.toNat)).fst))])
 (R (hd Try.f5 (0 : Nat))
 {
 env :=
 [((0 : Nat), SV.sl (Sh.int IntKind.u8) b),
 ((5 : Nat), SV.bool true),
 ((6 : Nat), SV.ptr (6 : Nat) (0 : Nat)),
 ((7 : Nat),
 SV.win true
 ((Sh.int IntKind.i64).pair (Sh.int IntKind.i64))
 (1090112 : Nat) (0 : Nat) r.length),
 ((9 : Nat),
 SV.int IntKind.i64
 (IntKind.i64.wrap (i + (1 : Int))))],
 blk :=
 [((6 : Nat),
 LB.var [SV.arr (2 : Nat) (Sh.int IntKind.i64) w]),
 ((1090112 : Nat),
 LB.row (48 : Nat)
 ((Sh.int IntKind.i64).pair (Sh.int IntKind.i64))
 r)] })))))
 (Q [SV.bool true]
 [((6 : Nat), LB.var [SV.arr (2 : Nat) (Sh.int IntKind.i64) w]),
 ((1090112 : Nat), LB.row (48 : Nat) ((Sh.int IntKind.i64).pair (Sh.int IntKind.i64)) r)])) := by kernel_rfl
end Go.Proofs.Ytgffokpiklnpmaa
namespace Go.Proofs.Ytgffokpiklnpmaa
open Go.Px Go.Ax
attribute [local irreducible] Go.Px.sy Go.Px.syE
theorem winA {e : Sh} (l : List e.D) : winL e 0 l.length l = l := by
  unfold winL
  rw [List.drop_zero, List.take_length]
theorem winD {e : Sh} (l : List e.D) (i : Nat) : winL e (0 + i) (l.length - i) l = l.drop i := by
  unfold winL
  rw [Nat.zero_add, List.take_of_length_le (by rw [List.length_drop]; omega)]
theorem blksF_shift (b : List Int) (l m p : Nat) (hp : p ≤ b.length) : ∀ k q, mvR (blksF (b.drop p) l m k q) (p : Int) = blksF b l m k (p + q)
  | 0, _ => rfl
  | k + 1, q => by
    simp only [blksF, List.length_drop]
    by_cases h : q < b.length - p
    · rw [if_pos h, if_pos (by omega), mvR, List.map_cons, List.drop_drop]
      have ih := blksF_shift b l m p hp k (q + firstLen (b.drop (p + q)) l m)
      unfold mvR at ih
      rw [ih, show p + (q + firstLen (b.drop (p + q)) l m) = p + q + firstLen (b.drop (p + q)) l m by omega]
      congr 1
      simp only [Prod.mk.injEq]
      omega
    · rw [if_neg h, if_neg (by omega)]; rfl
theorem blksF_fuel (b : List Int) {l m : Nat} (h : 4 ≤ l ∧ l ≤ m) : ∀ k k' p, b.length - p ≤ k → b.length - p ≤ k' → blksF b l m k p = blksF b l m k' p
  | 0, 0, _, _, _ => rfl
  | 0, k' + 1, p, h1, _ => by rw [blksF, blksF, if_neg (by omega)]
  | k + 1, 0, p, _, h2 => by rw [blksF, blksF, if_neg (by omega)]
  | k + 1, k' + 1, p, h1, h2 => by
    rw [blksF, blksF]
    by_cases hp : p < b.length
    · have hf := firstLen_bd (b := b.drop p) h (by rw [List.length_drop]; omega)
      rw [if_pos hp, if_pos hp, blksF_fuel b h k k' _ (by omega) (by omega)]
    · rw [if_neg hp, if_neg hp]
theorem blksF_at (b : List Int) {l m : Nat} (h : 4 ≤ l ∧ l ≤ m) : ∀ k p i, b.length - p ≤ k → (hi : i < (blksF b l m k p).length) → ∃ k' q : Nat, q < b.length ∧ b.length - q ≤ k' ∧ (blksF b l m k p)[i].1 = (q : Int) ∧ (blksF b l m k p).drop i = blksF b l m k' q
  | 0, p, i, _, hi => by simp [blksF] at hi
  | k + 1, p, i, hk, hi => by
    by_cases hp : p < b.length
    · have hf := firstLen_bd (b := b.drop p) h (by rw [List.length_drop]; omega)
      have e : blksF b l m (k + 1) p = ((p : Int), ((p + firstLen (b.drop p) l m : Nat) : Int)) :: blksF b l m k (p + firstLen (b.drop p) l m) := by rw [blksF, if_pos hp]
      cases i with
      | zero => exact ⟨k + 1, p, hp, hk, by simp only [e]; rfl, rfl⟩
      | succ i =>
        have hi' : i < (blksF b l m k (p + firstLen (b.drop p) l m)).length := by rw [e, List.length_cons] at hi; omega
        obtain ⟨k', q, h1, h2, h3, h4⟩ := blksF_at b h k _ i (by omega) hi'
        exact ⟨k', q, h1, h2, by simp only [e, List.getElem_cons_succ]; exact h3, by rw [e, List.drop_succ_cons]; exact h4⟩
    · have : blksF b l m (k + 1) p = [] := by rw [blksF, if_neg hp]
      rw [this] at hi; simp at hi
theorem made_lim {w : List Int} (h : preMade w) : limR (pr2 (madeL w)).1 (pr2 (madeL w)).2 = true := by
  obtain ⟨⟨h1, h2⟩, h3, h4⟩ := h
  have e1 : (pr2 (madeL w)).1 = 4 + (gt (Sh.int .u8) w 0) % 8 := rfl
  have e2 : (pr2 (madeL w)).2 = 4 + (gt (Sh.int .u8) w 0) % 8 + (gt (Sh.int .u8) w 1) % 16 := rfl
  rw [e1, e2]
  exact decide_eq_true (by omega)
theorem mk_made {l : List Int} (hl : l.length = 2) (h : ∀ n ∈ l, (Lit.int .u8 n).wf = true) : preMade l := by
  have e0 : gt (Sh.int .u8) l 0 = l[0] := gtE (by omega)
  have e1 : gt (Sh.int .u8) l 1 = l[1] := gtE (by omega)
  have b0 := bytes_of h l[0] (List.getElem_mem _)
  have b1 := bytes_of h l[1] (List.getElem_mem _)
  unfold preMade
  rw [e0, e1]
  exact ⟨b0, b1⟩
abbrev QT : List SV → List (Nat × LB) → Prop := fun rs _ => rs = [.bool true]
theorem l5_loop {b w : List Int} (hb : preT b) (hl : limR (pr2 w).1 (pr2 w).2 = true) : ∀ (k i : Nat), (blkO b (pr2 w).1 (pr2 w).2).length - i ≤ k → i ≤ (blkO b (pr2 w).1 (pr2 w).2).length →
    GD 5 Try.f5 QT (hd Try.f5 0) ⟨[(0, .sl (.int .u8) b), (5, .bool true), (6, .ptr 6 0), (7, .win true rgS 1090112 0 (blkO b (pr2 w).1 (pr2 w).2).length), (9, .int .i64 (i : Nat))], [(6, .var [.arr 2 (.int .i64) w]), (1090112, .row 48 rgS (blkO b (pr2 w).1 (pr2 w).2))]⟩ := by
  have he : errO (pr2 w).1 (pr2 w).2 = 0 := by rw [errO, hl]; rfl
  have hlim : 4 ≤ (pr2 w).1 ∧ (pr2 w).1 ≤ (pr2 w).2 ∧ (pr2 w).2 ≤ 4096 := of_decide_eq_true hl
  generalize hlv : (pr2 w).1.toNat = l at *
  generalize hmv : (pr2 w).2.toNat = m at *
  have hlm : 4 ≤ l ∧ l ≤ m := by omega
  have hO : ∀ c, blkO c (pr2 w).1 (pr2 w).2 = blks c l m := fun c => by rw [blkO, hl, hlv, hmv]; rfl
  rw [hO]
  have hlen : (blks b l m).length ≤ b.length := blksF_len b _ _ hlm _ _
  have hb1 := hb.1
  intro k
  induction k with
  | zero =>
    intro i hk hi
    refine sy_goK dx10 (vc_l5L b w _ i _ _) ?_
    rw [decide_eq_false (by omega), bc_f]
  | succ k ih =>
    intro i hk hi
    refine sy_goK dx10 (vc_l5L b w _ i _ _) ?_
    by_cases h : i < (blks b l m).length
    · obtain ⟨k', q, q1, q2, q3, q4⟩ := blksF_at b hlm b.length 0 i (by omega) h
      have e1 : gt rgS (blks b l m) (0 + (i : Int).toNat) = (blks b l m)[i] := by rw [Nat.zero_add]; exact gtE h
      have e2 : ((blks b l m)[i]).1 = (q : Int) := q3
      have hdl : (b.drop q).length = b.length - q := List.length_drop
      have e3 : mvR (blks (b.drop q) l m) (q : Int) = (blks b l m).drop i := by
        rw [blks, blksF_shift b l m q (by omega), show (blks b l m).drop i = _ from q4]
        exact blksF_fuel b hlm _ _ _ (by omega) (by omega)
      have hsm : ∀ r ∈ blks (b.drop q) l m, small r.1 ∧ small r.2 := fun r hr => by
        have := blksF_in hlm _ _ r hr
        unfold small
        omega
      have hl2 : (blks (b.drop q) l m).length ≤ (b.drop q).length := blksF_len _ _ _ hlm _ _
      rw [decide_eq_true (show (i : Int) < ((blks b l m).length : Int) by omega), bc_t, e1, e2, Int.toNat_natCast, Int.toNat_natCast, hO, he, winA, e3, winA, winD, IntWalk.i64_in ((i : Int) + 1) (by omega)]
      rw [decide_eq_false (show ¬ (q : Int) < 0 by omega), bc_f, cond_false, decide_eq_false (show ¬ (b.length : Int) < q by omega), bc_f, decide_eq_false (show ¬ (0 : Int) ≠ 0 by simp), bc_f, cond_false]
      rw [show eqR ((blks b l m).drop i) ((blks b l m).drop i) = true from decide_eq_true rfl, Bool.not_true, bc_f]
      have t1 : preT (b.drop q) := ⟨by omega, bytes_drop hb.2 q⟩
      have t2 : preRg (blks (b.drop q) l m) (q : Int) := ⟨by omega, hsm, by unfold small; omega⟩
      have t3 : preLn ((blks b l m).drop i).length := by unfold preLn; rw [List.length_drop]; omega
      have t4 := ih (i + 1) (by omega) (by omega)
      repeat' first
        | exact t1
        | exact t2
        | exact t3
        | exact t4
        | exact trivial
        | omega
        | exact Int.ofNat_le.2 (Nat.le_of_lt q1)
        | (refine And.intro ?_ ?_)
    · rw [decide_eq_false (by omega), bc_f]
def ctL5 : Ctr := ⟨[slB, .arr 2 (.int .u8)], fun x => bytesOK x.1 ∧ preMade x.2.1, fun _ => [.bool true], fun _ => []⟩
theorem l5_run (b w : List Int) (hp : bytesOK b) (hw : preMade w) : sy tt G0 D10 Try.f5.ntmps Try.f5.results.toList (QC ctL5 (b, w, ())) (Px.Good Try.prog tt G0 5 Try.f5.ntmps Try.f5.results.toList (QC ctL5 (b, w, ()))) 1000 [.code (bodyOf Try.f5)] (entry [slB, .arr 2 (.int .u8)] (b, w, ())) := by
  rw [vc_l5]
  have hl := made_lim hw
  have he : errO (pr2 (madeL w)).1 (pr2 (madeL w)).2 = 0 := by rw [errO, hl]; rfl
  refine ⟨trivial, hw, bc_of (fun h => QC.flat rfl rfl rfl) (fun h => ?_)⟩
  have h : ¬ (200 : Int) < b.length := of_decide_eq_false h
  have hb : preT b := ⟨by omega, hp⟩
  rw [he, decide_eq_false (show ¬ (0 : Int) ≠ 0 by simp), bc_f]
  exact ⟨hb, ((l5_loop hb hl _ 0 (Nat.le_refl _) (Nat.zero_le _)).post fun rs blk hq => QC.flat (by rw [hq]; rfl) rfl (by rw [hq]; rfl)).only ⟨rfl, rfl, rfl, rfl, rfl, trivial⟩ ⟨rfl, rfl, trivial⟩⟩
theorem l5_held : Held Try.prog G0 5 ctL5 := Held.run dx10 (fn := Try.f5) rfl rfl ⟨by decide, by decide⟩ fun x hp => l5_run x.1 x.2.1 hp.1 hp.2
end Go.Proofs.Ytgffokpiklnpmaa
namespace Go.Proofs.Ytgffokpiklnpmaa
open Go.Px Go.Ax
set_option maxRecDepth 100000
theorem vc_l6 (b w : List Int) (n : Int) (Q : List SV → List (Nat × LB) → Prop) (R : List Item → PS → Prop) : sy tt G0 D9 Try.f6.ntmps Try.f6.results.toList Q R 1000 [.code (bodyOf Try.f6)] (entry [.sl (.int .u8), .arr 2 (.int .u8), .int .u16] (b, w, n, ())) =
    (ctSan.pre () ∧
 ctMade.pre (w, ()) ∧
 bc (decide ((400 : Int) < (↑b.length : Int)))
 (Q [SV.bool true]
 [((4 : Nat), LB.var [SV.arr (2 : Nat) (Sh.int IntKind.u8) w]),
 ((8 : Nat), LB.var [SV.arr (2 : Nat) (Sh.int IntKind.i64) (madeL w)])])
 (IntKind.i64.wrap ((↑b.length : Int) + (1 : Int)) ≠ (0 : Int) ∧
 ctLb.pre (b, madeL w, ()) ∧
 (0 : Int) ≤ (IntKind.i64.wrap n).tmod (IntKind.i64.wrap ((↑b.length : Int) + (1 : Int))) ∧
 (IntKind.i64.wrap n).tmod (IntKind.i64.wrap ((↑b.length : Int) + (1 : Int))) ≤ (↑b.length : Int) ∧
 ctLb.pre
 (List.take ((IntKind.i64.wrap n).tmod (IntKind.i64.wrap ((↑b.length : Int) + (1 : Int)))).toNat b,
 madeL w, ()) ∧
 bc (decide (errO (pr2 (madeL w)).fst (pr2 (madeL w)).snd ≠ (0 : Int)))
 (true = true ∧
 true = true ∧
 Q [SV.bool false]
 [((4 : Nat), LB.var [SV.arr (2 : Nat) (Sh.int IntKind.u8) w]),
 ((8 : Nat), LB.var [SV.arr (2 : Nat) (Sh.int IntKind.i64) (madeL w)]),
 ((1126976 : Nat),
 LB.row (48 : Nat) ((Sh.int IntKind.i64).pair (Sh.int IntKind.i64))
 (blkO b (pr2 (madeL w)).fst (pr2 (madeL w)).snd)),
 ((1159744 : Nat),
 LB.row (48 : Nat) ((Sh.int IntKind.i64).pair (Sh.int IntKind.i64))
 (blkO
 (List.take
 ((IntKind.i64.wrap n).tmod (IntKind.i64.wrap ((↑b.length : Int) + (1 : Int)))).toNat
 b)
 (pr2 (madeL w)).fst (pr2 (madeL w)).snd))])
 (bc (bif false then true else decide (errO (pr2 (madeL w)).fst (pr2 (madeL w)).snd ≠ (0 : Int)))
 (true = true ∧
 Q [SV.bool false]
 [((4 : Nat), LB.var [SV.arr (2 : Nat) (Sh.int IntKind.u8) w]),
 ((8 : Nat), LB.var [SV.arr (2 : Nat) (Sh.int IntKind.i64) (madeL w)]),
 ((1126976 : Nat),
 LB.row (48 : Nat) ((Sh.int IntKind.i64).pair (Sh.int IntKind.i64))
 (blkO b (pr2 (madeL w)).fst (pr2 (madeL w)).snd)),
 ((1159744 : Nat),
 LB.row (48 : Nat) ((Sh.int IntKind.i64).pair (Sh.int IntKind.i64))
 (blkO
 (List.take
 ((IntKind.i64.wrap n).tmod (IntKind.i64.wrap ((↑b.length : Int) + (1 : Int)))).toNat
 b)
 (pr2 (madeL w)).fst (pr2 (madeL w)).snd))])
 (bc
 (bif false then true
 else
 decide
 ((↑(blkO b (pr2 (madeL w)).fst (pr2 (madeL w)).snd).length : Int) <
 (↑(blkO
 (List.take
 ((IntKind.i64.wrap n).tmod
 (IntKind.i64.wrap ((↑b.length : Int) + (1 : Int)))).toNat
 b)
 (pr2 (madeL w)).fst (pr2 (madeL w)).snd).length :
 Int)))
 (Q [SV.bool false]
 [((4 : Nat), LB.var [SV.arr (2 : Nat) (Sh.int IntKind.u8) w]),
 ((8 : Nat), LB.var [SV.arr (2 : Nat) (Sh.int IntKind.i64) (madeL w)]),
 ((1126976 : Nat),
 LB.row (48 : Nat) ((Sh.int IntKind.i64).pair (Sh.int IntKind.i64))
 (blkO b (pr2 (madeL w)).fst (pr2 (madeL w)).snd)),
 ((1159744 : Nat),
 LB.row (48 : Nat) ((Sh.int IntKind.i64).pair (Sh.int IntKind.i64))
 (blkO
 (List.take
 ((IntKind.i64.wrap n).tmod (IntKind.i64.wrap ((↑b.length : Int) + (1 : Int)))).toNat
 b)
 (pr2 (madeL w)).fst (pr2 (madeL w)).snd))])
 (R (hd Try.f6 (0 : Nat))
 {
 env :=
 [((0 : Nat), SV.sl (Sh.int IntKind.u8) b),
 ((1 : Nat), SV.arr (2 : Nat) (Sh.int IntKind.u8) w), ((2 : Nat), SV.int IntKind.u16 n),
 ((4 : Nat), SV.ptr (4 : Nat) (0 : Nat)), ((6 : Nat), SV.bool false),
 ((7 : Nat), SV.bool true), ((8 : Nat), SV.ptr (8 : Nat) (0 : Nat)),
 ((9 : Nat),
 SV.int IntKind.i64
 ((IntKind.i64.wrap n).tmod (IntKind.i64.wrap ((↑b.length : Int) + (1 : Int))))),
 ((10 : Nat),
 SV.win true ((Sh.int IntKind.i64).pair (Sh.int IntKind.i64)) (1126976 : Nat) (0 : Nat)
 (blkO b (pr2 (madeL w)).fst (pr2 (madeL w)).snd).length),
 ((11 : Nat), SV.int IntKind.i64 (errO (pr2 (madeL w)).fst (pr2 (madeL w)).snd)),
 ((12 : Nat),
 SV.win true ((Sh.int IntKind.i64).pair (Sh.int IntKind.i64)) (1159744 : Nat) (0 : Nat)
 (blkO
 (List.take
 ((IntKind.i64.wrap n).tmod
 (IntKind.i64.wrap ((↑b.length : Int) + (1 : Int)))).toNat
 b)
 (pr2 (madeL w)).fst (pr2 (madeL w)).snd).length),
 ((13 : Nat), SV.int IntKind.i64 (errO (pr2 (madeL w)).fst (pr2 (madeL w)).snd)),
 ((14 : Nat), SV.int IntKind.i64 (0 : Int)), ((15 : Nat), SV.bool true),
 ((16 : Nat), SV.arr (2 : Nat) (Sh.int IntKind.u8) w),
 ((17 : Nat), SV.arr (2 : Nat) (Sh.int IntKind.i64) (madeL w)),
 ((18 : Nat), SV.sl (Sh.int IntKind.u8) b),
 ((19 : Nat), SV.int IntKind.i64 (↑b.length : Int)),
 ((20 : Nat), SV.bool (decide ((400 : Int) < (↑b.length : Int)))),
 ((22 : Nat), SV.int IntKind.u16 n), ((23 : Nat), SV.int IntKind.i64 (IntKind.i64.wrap n)),
 ((24 : Nat), SV.sl (Sh.int IntKind.u8) b),
 ((25 : Nat), SV.int IntKind.i64 (↑b.length : Int)),
 ((26 : Nat), SV.int IntKind.i64 (IntKind.i64.wrap ((↑b.length : Int) + (1 : Int)))),
 ((27 : Nat),
 SV.int IntKind.i64
 ((IntKind.i64.wrap n).tmod (IntKind.i64.wrap ((↑b.length : Int) + (1 : Int))))),
 ((28 : Nat),
 SV.tup
 [SV.win true ((Sh.int IntKind.i64).pair (Sh.int IntKind.i64)) (1126976 : Nat)
 (0 : Nat) (blkO b (pr2 (madeL w)).fst (pr2 (madeL w)).snd).length,
 SV.int IntKind.i64 (errO (pr2 (madeL w)).fst (pr2 (madeL w)).snd)]),
 ((29 : Nat), SV.sl (Sh.int IntKind.u8) b),
 ((30 : Nat), SV.arr (2 : Nat) (Sh.int IntKind.i64) (madeL w)),
 ((31 : Nat),
 SV.tup
 [SV.win true ((Sh.int IntKind.i64).pair (Sh.int IntKind.i64)) (1126976 : Nat)
 (0 : Nat) (blkO b (pr2 (madeL w)).fst (pr2 (madeL w)).snd).length,
 SV.int IntKind.i64 (errO (pr2 (madeL w)).fst (pr2 (madeL w)).snd)]),
 ((32 : Nat),
 SV.win true ((Sh.int IntKind.i64).pair (Sh.int IntKind.i64)) (1126976 : Nat) (0 : Nat)
 (blkO b (pr2 (madeL w)).fst (pr2 (madeL w)).snd).length),
 ((33 : Nat), SV.int IntKind.i64 (errO (pr2 (madeL w)).fst (pr2 (madeL w)).snd)),
 ((34 : Nat),
 SV.tup
 [SV.win true ((Sh.int IntKind.i64).pair (Sh.int IntKind.i64)) (1159744 : Nat)
 (0 : Nat)
 (blkO
 (List.take
 ((IntKind.i64.wrap n).tmod
 (IntKind.i64.wrap ((↑b.length : Int) + (1 : Int)))).toNat
 b)
 (pr2 (madeL w)).fst (pr2 (madeL w)).snd).length,
 SV.int IntKind.i64 (errO (pr2 (madeL w)).fst (pr2 (madeL w)).snd)]),
 ((35 : Nat), SV.sl (Sh.int IntKind.u8) b),
 ((36 : Nat),
 SV.int IntKind.i64
 ((IntKind.i64.wrap n).tmod (IntKind.i64.wrap ((↑b.length : Int) + (1 : Int))))),
 ((37 : Nat),
 SV.sl (Sh.int IntKind.u8)
 (List.take
 ((IntKind.i64.wrap n).tmod (IntKind.i64.wrap ((↑b.length : Int) + (1 : Int)))).toNat
 b)),
 ((38 : Nat), SV.arr (2 : Nat) (Sh.int IntKind.i64) (madeL w)),
 ((39 : Nat),
 SV.tup
 [SV.win true ((Sh.int IntKind.i64).pair (Sh.int IntKind.i64)) (1159744 : Nat)
 (0 : Nat)
 (blkO
 (List.take
 ((IntKind.i64.wrap n).tmod
 (IntKind.i64.wrap ((↑b.length : Int) + (1 : Int)))).toNat
 b)
 (pr2 (madeL w)).fst (pr2 (madeL w)).snd).length,
 SV.int IntKind.i64 (errO (pr2 (madeL w)).fst (pr2 (madeL w)).snd)]),
 ((40 : Nat),
 SV.win true ((Sh.int IntKind.i64).pair (Sh.int IntKind.i64)) (1159744 : Nat) (0 : Nat)
 (blkO
 (List.take
 ((IntKind.i64.wrap n).tmod
 (IntKind.i64.wrap ((↑b.length : Int) + (1 : Int)))).toNat
 b)
 (pr2 (madeL w)).fst (pr2 (madeL w)).snd).length),
 ((41 : Nat), SV.int IntKind.i64 (errO (pr2 (madeL w)).fst (pr2 (madeL w)).snd)),
 ((42 : Nat), SV.int IntKind.i64 (errO (pr2 (madeL w)).fst (pr2 (madeL w)).snd)),
 ((43 : Nat), SV.bool (decide (errO (pr2 (madeL w)).fst (pr2 (madeL w)).snd ≠ (0 : Int)))),
 ((44 : Nat), SV.bool false),
 ((45 : Nat), SV.int IntKind.i64 (errO (pr2 (madeL w)).fst (pr2 (madeL w)).snd)),
 ((46 : Nat), SV.bool (decide (errO (pr2 (madeL w)).fst (pr2 (madeL w)).snd ≠ (0 : Int)))),
 ((47 : Nat),
 SV.bool
 (bif false then true
 else decide (errO (pr2 (madeL w)).fst (pr2 (madeL w)).snd ≠ (0 : Int)))),
 ((48 : Nat), SV.bool false),
 ((49 : Nat),
 SV.win true ((Sh.int IntKind.i64).pair (Sh.int IntKind.i64)) (1159744 : Nat) (0 : Nat)
 (blkO
 (List.take
 ((IntKind.i64.wrap n).tmod
 (IntKind.i64.wrap ((↑b.length : Int) + (1 : Int)))).toNat
 b)
 (pr2 (madeL w)).fst (pr2 (madeL w)).snd).length),
 ((50 : Nat),
 SV.int IntKind.i64
 (↑(blkO
 (List.take
 ((IntKind.i64.wrap n).tmod
 (IntKind.i64.wrap ((↑b.length : Int) + (1 : Int)))).toNat
 b)
 (pr2 (madeL w)).fst (pr2 (madeL w)).snd).length :
 Int)),
 ((51 : Nat),
 SV.win true ((Sh.int IntKind.i64).pair (Sh.int IntKind.i64)) (1126976 : Nat) (0 : Nat)
 (blkO b (pr2 (madeL w)).fst (pr2 (madeL w)).snd).length),
 ((52 : Nat),
 SV.int IntKind.i64 (↑(blkO b (pr2 (madeL w)).fst (pr2 (madeL w)).snd).length : Int)),
 ((53 : Nat),
 SV.bool
 (decide
 ((↑(blkO b (pr2 (madeL w)).fst (pr2 (madeL w)).snd).length : Int) <
 (↑(blkO
 (List.take
 ((IntKind.i64.wrap n).tmod
 (IntKind.i64.wrap ((↑b.length : Int) + (1 : Int)))).toNat
 b)
 (pr2 (madeL w)).fst (pr2 (madeL w)).snd).length :
 Int)))),
 ((54 : Nat),
 SV.bool
 (bif false then true
 else
 decide
 ((↑(blkO b (pr2 (madeL w)).fst (pr2 (madeL w)).snd).length : Int) <
 (↑(blkO
 (List.take
 ((IntKind.i64.wrap n).tmod
 (IntKind.i64.wrap ((↑b.length : Int) + (1 : Int)))).toNat
 b)
 (pr2 (madeL w)).fst (pr2 (madeL w)).snd).length :
 Int))))],
 blk :=
 [((4 : Nat), LB.var [SV.arr (2 : Nat) (Sh.int IntKind.u8) w]),
 ((8 : Nat), LB.var [SV.arr (2 : Nat) (Sh.int IntKind.i64) (madeL w)]),
 ((1126976 : Nat),
 LB.row (48 : Nat) ((Sh.int IntKind.i64).pair (Sh.int IntKind.i64))
 (blkO b (pr2 (madeL w)).fst (pr2 (madeL w)).snd)),
 ((1159744 : Nat),
 LB.row (48 : Nat) ((Sh.int IntKind.i64).pair (Sh.int IntKind.i64))
 (blkO
 (List.take
 ((IntKind.i64.wrap n).tmod
 (IntKind.i64.wrap ((↑b.length : Int) + (1 : Int)))).toNat
 b)
 (pr2 (madeL w)).fst (pr2 (madeL w)).snd))] }))))) := by kernel_rfl
theorem vc_l6L (r s : List (Int × Int)) (i : Int) (Q : List SV → List (Nat × LB) → Prop) (R : List Item → PS → Prop) : sy tt G0 D9 Try.f6.ntmps Try.f6.results.toList Q (fun it S => R it (keepS [7, 10, 12, 14] [1126976, 1159744] S)) 1000 (hd Try.f6 0) ⟨[(7, .bool true), (10, .win true (.pair (.int .i64) (.int .i64)) 1126976 0 r.length), (12, .win true (.pair (.int .i64) (.int .i64)) 1159744 0 s.length), (14, .int .i64 i)], [(1126976, .row 48 (.pair (.int .i64) (.int .i64)) r), (1159744, .row 48 (.pair (.int .i64) (.int .i64)) s)]⟩ =
    (bc (decide (i < (↑s.length : Int)))
 ((0 : Int) ≤ i ∧
 i < (↑s.length : Int) ∧
 (0 : Nat) + i.toNat < s.length ∧
 (0 : Int) ≤ i ∧
 i < (↑r.length : Int) ∧
 (0 : Nat) + i.toNat < r.length ∧
 bc
 (decide
 ((gt ((Sh.int IntKind.i64).pair (Sh.int IntKind.i64)) s ((0 : Nat) + i.toNat)).fst ≠
 (gt ((Sh.int IntKind.i64).pair (Sh.int IntKind.i64)) r ((0 : Nat) + i.toNat)).fst))
 (true = true ∧
 Q [SV.bool false]
 [((1126976 : Nat), LB.row (48 : Nat) ((Sh.int IntKind.i64).pair (Sh.int IntKind.i64)) r),
 ((1159744 : Nat), LB.row (48 : Nat) ((Sh.int IntKind.i64).pair (Sh.int IntKind.i64)) s)])
 (bc (decide (IntKind.i64.wrap (i + (1 : Int)) < (↑s.length : Int)))
 ((0 : Int) ≤ i ∧
 i < (↑s.length : Int) ∧
 (0 : Nat) + i.toNat < s.length ∧
 (0 : Int) ≤ i ∧
 i < (↑r.length : Int) ∧
 (0 : Nat) + i.toNat < r.length ∧
 bc
 (bif false then true
 else
 bif true then
 !decide
 ([(gt ((Sh.int IntKind.i64).pair (Sh.int IntKind.i64)) s
 ((0 : Nat) + i.toNat)).fst,
 (gt ((Sh.int IntKind.i64).pair (Sh.int IntKind.i64)) s
 ((0 : Nat) + i.toNat)).snd] =
 [(gt ((Sh.int IntKind.i64).pair (Sh.int IntKind.i64)) r
 ((0 : Nat) + i.toNat)).fst,
 (gt ((Sh.int IntKind.i64).pair (Sh.int IntKind.i64)) r
 ((0 : Nat) + i.toNat)).snd])
 else false)
 (Q [SV.bool false]
 [((1126976 : Nat),
 LB.row (48 : Nat) ((Sh.int IntKind.i64).pair (Sh.int IntKind.i64)) r),
 ((1159744 : Nat),
 LB.row (48 : Nat) ((Sh.int IntKind.i64).pair (Sh.int IntKind.i64)) s)])
 (R (hd Try.f6 (0 : Nat))
 {
 env :=
 [((7 : Nat), SV.bool true),
 ((10 : Nat),
 SV.win true ((Sh.int IntKind.i64).pair (Sh.int IntKind.i64)) (1126976 : Nat)
 (0 : Nat) r.length),
 ((12 : Nat),
 SV.win true ((Sh.int IntKind.i64).pair (Sh.int IntKind.i64)) (1159744 : Nat)
 (0 : Nat) s.length),
 ((14 : Nat), SV.int IntKind.i64 (IntKind.i64.wrap (i + (1 : Int))))],
 blk :=
 [((1126976 : Nat),
 LB.row (48 : Nat) ((Sh.int IntKind.i64).pair (Sh.int IntKind.i64)) r),
 ((1159744 : Nat),
 LB.row (48 : Nat) ((Sh.int IntKind.i64).pair (Sh.int IntKind.i64)) s)] }))
 (false = false ∧
 R (hd Try.f6 (0 : Nat))
 {
 env :=
 [((7 : Nat), SV.bool true),
 ((10 : Nat),
 SV.win true ((Sh.int IntKind.i64).pair (Sh.int IntKind.i64)) (1126976 : Nat) (0 : Nat)
 r.length),
 ((12 : Nat),
 SV.win true ((Sh.int IntKind.i64).pair (Sh.int IntKind.i64)) (1159744 : Nat) (0 : Nat)
 s.length),
 ((14 : Nat), SV.int IntKind.i64 (IntKind.i64.wrap (i + (1 : Int))))],
 blk :=
 [((1126976 : Nat), LB.row (48 : Nat) ((Sh.int IntKind.i64).pair (Sh.int IntKind.i64)) r),
 ((1159744 : Nat),
 LB.row (48 : Nat) ((Sh.int IntKind.i64).pair (Sh.int IntKind.i64)) s)] })))
 (Q [SV.bool true]
 [((1126976 : Nat), LB.row (48 : Nat) ((Sh.int IntKind.i64).pair (Sh.int IntKind.i64)) r),
 ((1159744 : Nat), LB.row (48 : Nat) ((Sh.int IntKind.i64).pair (Sh.int IntKind.i64)) s)])) := by kernel_rfl
end Go.Proofs.Ytgffokpiklnpmaa
namespace Go.Proofs.Ytgffokpiklnpmaa
open Go.Px Go.Ax
attribute [local irreducible] Go.Px.sy Go.Px.syE
theorem isCut_take {c : List Int} {t n : Nat} (h : n ≤ t) : isCut (c.take t) n = isCut c n := by
  unfold isCut sum4
  rw [List.take_take, show min n t = n by omega]
theorem scanB_take {c : List Int} {t : Nat} : ∀ (j k n : Nat), j ≤ k → n + j ≤ t → scanB (c.take t) j n = min (scanB c k n) (n + j)
  | 0, k, n, _, _ => by
    have := (scanB_bd c k n).1
    rw [scanB]; omega
  | j + 1, 0, n, h, _ => by omega
  | j + 1, k + 1, n, h, ht => by
    rw [scanB, scanB, isCut_take (by omega)]
    cases hc : isCut c n with
    | true => rw [if_pos rfl, if_pos rfl]; omega
    | false =>
      rw [if_neg (by simp), if_neg (by simp), scanB_take j k (n + 1) (by omega) (by omega)]
      congr 1; omega
theorem firstLen_take {c : List Int} {t l m : Nat} (h : 4 ≤ l ∧ l ≤ m) (ht : t ≤ c.length) : firstLen (c.take t) l m = min (firstLen c l m) t := by
  unfold firstLen
  rw [List.length_take, show min t c.length = t by omega]
  by_cases h1 : min t m ≤ l
  · rw [if_pos h1]
    by_cases h2 : min c.length m ≤ l
    · rw [if_pos h2]; omega
    · rw [if_neg h2]
      have := scanB_bd c (min c.length m - l) l
      omega
  · rw [if_neg h1, if_neg (show ¬ min c.length m ≤ l by omega), scanB_take (min t m - l) (min c.length m - l) l (by omega) (by omega)]
    have := scanB_bd c (min c.length m - l) l
    omega
/-- The blocks of a beginning, beside those of the whole. -/
def okB : List (Int × Int) → List (Int × Int) → Prop
  | [], _ => True
  | _ :: _, [] => False
  | x :: xs, y :: ys => x.1 = y.1 ∧ (xs ≠ [] → x = y) ∧ okB xs ys
theorem okB_at : ∀ {s r : List (Int × Int)}, okB s r → ∀ {i : Nat} (hi : i < s.length), ∃ hr : i < r.length, s[i].1 = r[i].1 ∧ (i + 1 < s.length → s[i] = r[i])
  | [], _, _, i, hi => by simp at hi
  | _ :: _, [], h, _, _ => h.elim
  | x :: xs, y :: ys, h, 0, _ => ⟨by simp, h.1, fun hl => h.2.1 (by rintro rfl; simp at hl)⟩
  | x :: xs, y :: ys, h, i + 1, hi => by
    have hi : i < xs.length := by simpa using hi
    obtain ⟨h1, h2, h3⟩ := okB_at h.2.2 hi
    exact ⟨by simpa using h1, h2, fun hl => h3 (by simpa using hl)⟩
theorem okB_len : ∀ {s r : List (Int × Int)}, okB s r → s.length ≤ r.length
  | [], _, _ => Nat.zero_le _
  | _ :: _, [], h => h.elim
  | x :: xs, y :: ys, h => by
    have := okB_len h.2.2
    simp only [List.length_cons]; omega
theorem okB_blks (b : List Int) {l m t : Nat} (h : 4 ≤ l ∧ l ≤ m) (ht : t ≤ b.length) : ∀ k p, okB (blksF (b.take t) l m k p) (blksF b l m k p)
  | 0, _ => trivial
  | k + 1, p => by
    rw [blksF, blksF]
    have e : (b.take t).length = t := by rw [List.length_take]; omega
    rw [e]
    by_cases hp : p < t
    · have hd : (b.take t).drop p = (b.drop p).take (t - p) := List.drop_take ..
      have hf := firstLen_bd (b := b.drop p) h (by rw [List.length_drop]; omega)
      rw [if_pos hp, if_pos (by omega), hd, firstLen_take h (by rw [List.length_drop]; omega)]
      by_cases hq : firstLen (b.drop p) l m < t - p
      · rw [show min (firstLen (b.drop p) l m) (t - p) = firstLen (b.drop p) l m by omega]
        exact ⟨rfl, fun _ => rfl, okB_blks b h ht k _⟩
      · have e2 : p + min (firstLen (b.drop p) l m) (t - p) = t := by omega
        rw [e2]
        have e3 : blksF (b.take t) l m k t = [] := by
          cases k with
          | zero => rfl
          | succ k => rw [blksF, if_neg (by omega)]
        rw [e3]
        exact ⟨rfl, fun q => absurd rfl q, trivial⟩
    · rw [if_neg hp]
      exact trivial
theorem l6_loop {r s : List (Int × Int)} (ho : okB s r) (hr : r.length < 1048576) : ∀ (k i : Nat), s.length - i ≤ k → i ≤ s.length →
    GD 6 Try.f6 QT (hd Try.f6 0) ⟨[(7, .bool true), (10, .win true rgS 1126976 0 r.length), (12, .win true rgS 1159744 0 s.length), (14, .int .i64 (i : Nat))], [(1126976, .row 48 rgS r), (1159744, .row 48 rgS s)]⟩ := by
  have hsr := okB_len ho
  intro k
  induction k with
  | zero =>
    intro i hk hi
    refine sy_goK dx9 (vc_l6L r s i _ _) ?_
    rw [decide_eq_false (by omega), bc_f]
  | succ k ih =>
    intro i hk hi
    refine sy_goK dx9 (vc_l6L r s i _ _) ?_
    by_cases h : i < s.length
    · obtain ⟨h1, h2, h3⟩ := okB_at ho h
      have e1 : gt rgS s (0 + (i : Int).toNat) = s[i] := by rw [Nat.zero_add]; exact gtE h
      have e2 : gt rgS r (0 + (i : Int).toNat) = r[i] := by rw [Nat.zero_add]; exact gtE h1
      have k2 := ih (i + 1) (by omega) (by omega)
      rw [decide_eq_true (show (i : Int) < (s.length : Int) by omega), bc_t, e1, e2, h2, IntWalk.i64_in ((i : Int) + 1) (by omega), decide_eq_false (fun q => q rfl), bc_f]
      refine ⟨by omega, by omega, by omega, by omega, by omega, by omega, bc_of (fun hq => ⟨by omega, by omega, by omega, by omega, by omega, by omega, ?_⟩) (fun hq => ⟨rfl, ?_⟩)⟩
      · have hq := of_decide_eq_true hq
        rw [h3 (by omega), decide_eq_true rfl, cond_false, cond_true, Bool.not_true, bc_f]
        exact k2
      · exact k2
    · rw [decide_eq_false (by omega), bc_f]
def ctL6 : Ctr := ⟨[slB, .arr 2 (.int .u8), .int .u16], fun x => (bytesOK x.1 ∧ preMade x.2.1) ∧ (0 ≤ x.2.2.1 ∧ x.2.2.1 < 65536), fun _ => [.bool true], fun _ => []⟩
theorem l6_run (b w : List Int) (n : Int) (hp : bytesOK b) (hw : preMade w) (hn : 0 ≤ n ∧ n < 65536) : sy tt G0 D9 Try.f6.ntmps Try.f6.results.toList (QC ctL6 (b, w, n, ())) (Px.Good Try.prog tt G0 6 Try.f6.ntmps Try.f6.results.toList (QC ctL6 (b, w, n, ()))) 1000 [.code (bodyOf Try.f6)] (entry [slB, .arr 2 (.int .u8), .int .u16] (b, w, n, ())) := by
  rw [vc_l6]
  have hl := made_lim hw
  have he : errO (pr2 (madeL w)).1 (pr2 (madeL w)).2 = 0 := by rw [errO, hl]; rfl
  refine ⟨trivial, hw, bc_of (fun h => QC.flat rfl rfl rfl) (fun h => ?_)⟩
  have h : ¬ (400 : Int) < b.length := of_decide_eq_false h
  have hb : preT b := ⟨by omega, hp⟩
  rw [IntWalk.i64_in ((b.length : Int) + 1) (by omega), IntWalk.i64_in n (by omega)]
  have t0 := Int.tmod_nonneg ((b.length : Int) + 1) hn.1
  have t1 := Int.tmod_lt_of_pos n (show 0 < (b.length : Int) + 1 by omega)
  obtain ⟨t, ht⟩ := Int.eq_ofNat_of_zero_le t0
  rw [ht, he, decide_eq_false (show ¬ (0 : Int) ≠ 0 by simp), bc_f, cond_false, bc_f, cond_false]
  simp only [Int.toNat_natCast]
  have htl : t ≤ b.length := by omega
  have hbt : preT (b.take t) := ⟨by rw [List.length_take]; omega, fun c hc => hp c (List.mem_of_mem_take hc)⟩
  have hlim : 4 ≤ (pr2 (madeL w)).1 ∧ (pr2 (madeL w)).1 ≤ (pr2 (madeL w)).2 ∧ (pr2 (madeL w)).2 ≤ 4096 := of_decide_eq_true hl
  have ho : okB (blkO (b.take t) (pr2 (madeL w)).1 (pr2 (madeL w)).2) (blkO b (pr2 (madeL w)).1 (pr2 (madeL w)).2) := by
    have e1 : blkO (b.take t) (pr2 (madeL w)).1 (pr2 (madeL w)).2 = blksF (b.take t) (pr2 (madeL w)).1.toNat (pr2 (madeL w)).2.toNat b.length 0 := by
      rw [blkO, hl, if_pos rfl, blks]
      exact blksF_fuel _ (by omega) _ _ _ (by omega) (by rw [List.length_take]; omega)
    have e2 : blkO b (pr2 (madeL w)).1 (pr2 (madeL w)).2 = blksF b (pr2 (madeL w)).1.toNat (pr2 (madeL w)).2.toNat b.length 0 := by
      rw [blkO, hl, if_pos rfl, blks]
    rw [e1, e2]
    exact okB_blks b (by omega) htl _ _
  have hln : (blkO b (pr2 (madeL w)).1 (pr2 (madeL w)).2).length ≤ b.length := by
    rw [blkO, hl, if_pos rfl]
    exact blksF_len b _ _ (by omega) _ _
  have hsr := okB_len ho
  rw [decide_eq_false (show ¬ ((blkO b (pr2 (madeL w)).1 (pr2 (madeL w)).2).length : Int) < ((blkO (b.take t) (pr2 (madeL w)).1 (pr2 (madeL w)).2).length : Int) by omega), bc_f]
  exact ⟨by omega, hb, by omega, by omega, hbt, ((l6_loop ho (by omega) _ 0 (Nat.le_refl _) (Nat.zero_le _)).post fun rs blk hq => QC.flat (by rw [hq]; rfl) rfl (by rw [hq]; rfl)).only ⟨rfl, rfl, rfl, rfl, trivial⟩ ⟨rfl, rfl, trivial⟩⟩
theorem l6_held : Held Try.prog G0 6 ctL6 := Held.run dx9 (fn := Try.f6) rfl rfl ⟨by decide, by decide⟩ fun x hp => l6_run x.1 x.2.1 x.2.2.1 hp.1.1 hp.1.2 hp.2
theorem u16_of {n : Int} (h : (Lit.int .u16 n).wf = true) : 0 ≤ n ∧ n < 65536 := by
  have := Go.bounds_u16 h
  exact ⟨this.1, by omega⟩
end Go.Proofs.Ytgffokpiklnpmaa
namespace Go.Proofs.Ytgffokpiklnpmaa
open Go.Px Go.Ax
attribute [local irreducible] Go.Px.sy Go.Px.syE
/-- How long blocks of a run of one byte are. -/
def runZ (x : Int) (l m : Nat) : Nat := if x % 4 = 0 then l else m
theorem sum_rep (x : Int) {N n : Nat} (h4 : 4 ≤ n) (hn : n ≤ N) : sum4 (List.replicate N x) n = 4 * x := by
  unfold sum4
  rw [List.take_replicate, List.drop_replicate, show min n N - (n - 4) = 4 by omega]
  show (List.replicate 4 x).foldl (· + ·) 0 = _
  simp only [List.replicate, List.foldl]
  omega
theorem isCut_rep {x : Int} (hx : 0 ≤ x ∧ x < 256) {N n : Nat} (h4 : 4 ≤ n) (hn : n ≤ N) : isCut (List.replicate N x) n = decide (x % 4 = 0) := by
  unfold isCut
  rw [sum_rep x h4 hn, Int.tmod_eq_emod_of_nonneg (by omega), decide_eq_decide]
  omega
theorem scan_rep {x : Int} (hx : 0 ≤ x ∧ x < 256) {N : Nat} : ∀ (k n : Nat), 4 ≤ n → n + k ≤ N → scanB (List.replicate N x) k n = if x % 4 = 0 then n else n + k
  | 0, n, _, _ => by simp [scanB]
  | k + 1, n, h4, hn => by
    rw [scanB, isCut_rep hx h4 (by omega)]
    by_cases h : x % 4 = 0
    · rw [decide_eq_true h, if_pos rfl, if_pos h]
    · rw [decide_eq_false h, if_neg (by decide), scan_rep hx k (n + 1) (by omega) (by omega), if_neg h, if_neg h]; omega
theorem first_rep {x : Int} (hx : 0 ≤ x ∧ x < 256) {N l m : Nat} (h : 4 ≤ l ∧ l ≤ m) : firstLen (List.replicate N x) l m = min N (runZ x l m) := by
  unfold firstLen runZ
  rw [List.length_replicate]
  split
  · split <;> omega
  · rw [scan_rep hx _ _ h.1 (by omega)]
    split <;> omega
theorem blks_rep {x : Int} (hx : 0 ≤ x ∧ x < 256) {N l m : Nat} (h : 4 ≤ l ∧ l ≤ m) : ∀ (k p : Nat), N - p ≤ k → ∀ i, (blksF (List.replicate N x) l m k p)[i]? = if p + i * runZ x l m < N then some (((p + i * runZ x l m : Nat) : Int), ((min (p + i * runZ x l m + runZ x l m) N : Nat) : Int)) else none
  | 0, p, hk, i => by
    rw [blksF, if_neg (by omega)]; rfl
  | k + 1, p, hk, i => by
    have hz : 4 ≤ runZ x l m := by unfold runZ; split <;> omega
    rw [blksF, List.length_replicate]
    by_cases hp : p < N
    · rw [if_pos hp, List.drop_replicate, first_rep hx h]
      cases i with
      | zero =>
        rw [Nat.zero_mul, Nat.add_zero, if_pos hp, List.getElem?_cons_zero]
        rw [show p + min (N - p) (runZ x l m) = min (p + runZ x l m) N by omega]
      | succ i =>
        rw [List.getElem?_cons_succ, blks_rep hx h k _ (by omega) i, Nat.succ_mul]
        generalize hg : i * runZ x l m = y
        by_cases hq : N - p ≤ runZ x l m
        · rw [show min (N - p) (runZ x l m) = N - p by omega, if_neg (by omega), if_neg (by omega)]
        · rw [show min (N - p) (runZ x l m) = runZ x l m by omega, show p + runZ x l m + y = p + (y + runZ x l m) by omega]
    · rw [if_neg hp, if_neg (by omega)]; rfl
/-- All blocks of a run. -/
structure RunOK (N z : Nat) (r : List (Int × Int)) : Prop where
  len : r.length = (N + z - 1) / z
  at_ : ∀ i (h : i < r.length), r[i].1 = ((i * z : Nat) : Int) ∧ r[i].2 = ((min (i * z + z) N : Nat) : Int)
theorem run_ok {x : Int} (hx : 0 ≤ x ∧ x < 256) {N l m : Nat} (h : 4 ≤ l ∧ l ≤ m) : RunOK N (runZ x l m) (blksF (List.replicate N x) l m N 0) := by
  have hz : 4 ≤ runZ x l m := by unfold runZ; split <;> omega
  have hb := blks_rep hx (N := N) h N 0 (by omega)
  generalize blksF (List.replicate N x) l m N 0 = r at hb
  generalize runZ x l m = z at hb hz
  constructor
  · have hi : ∀ i, i < r.length ↔ i * z < N := fun i => by
      have := hb i
      rw [Nat.zero_add] at this
      constructor
      · intro hl
        rw [List.getElem?_eq_getElem hl] at this
        apply Decidable.byContradiction
        intro hn
        rw [if_neg hn] at this; cases this
      · intro hl
        rw [if_pos hl] at this
        exact (List.getElem?_eq_some_iff.1 this).1
    have hd : ∀ i, i < (N + z - 1) / z ↔ i * z < N := fun i => by
      show i + 1 ≤ _ ↔ _
      rw [Nat.le_div_iff_mul_le (by omega), Nat.succ_mul]; omega
    apply Nat.le_antisymm
    · apply Nat.le_of_not_lt
      intro hc
      exact Nat.lt_irrefl _ ((hd _).2 ((hi _).1 hc))
    · apply Nat.le_of_not_lt
      intro hc
      exact Nat.lt_irrefl _ ((hi _).2 ((hd _).1 hc))
  · intro i hl
    have := hb i
    rw [Nat.zero_add, List.getElem?_eq_getElem hl] at this
    by_cases hq : i * z < N
    · rw [if_pos hq] at this
      cases this' : r[i] with
      | mk a b => rw [this'] at this; cases this; exact ⟨rfl, rfl⟩
    · rw [if_neg hq] at this; cases this
theorem l9_check {N z : Nat} {b : List Int} {r : List (Int × Int)} (hr : RunOK N z r) (hb : b.length = N) (hN : N < 1048576) (hz : z < 1048576) (hl : r.length ≤ N) : ∀ (k i : Nat), r.length - i ≤ k → i ≤ r.length →
    GD 9 Try.f9 QT (hd Try.f9 1) ⟨[(7, .bool true), (9, .win true (.int .u8) 21 0 b.length), (11, .int .i64 (z : Nat)), (12, .win true rgS 1172032 0 r.length), (14, .int .i64 (i : Nat))], [(21, .row 5 (.int .u8) b), (1172032, .row 48 rgS r)]⟩ := by
  intro k
  induction k with
  | zero =>
    intro i hk hi
    refine sy_goK dx9 (vc_l9B i z b r _ _) ?_
    rw [decide_eq_false (by omega), bc_f]
  | succ k ih =>
    intro i hk hi
    refine sy_goK dx9 (vc_l9B i z b r _ _) ?_
    by_cases h : i < r.length
    · obtain ⟨h1, h2⟩ := hr.at_ i h
      have e1 : gt rgS r (0 + (i : Int).toNat) = r[i] := by rw [Nat.zero_add]; exact gtE h
      have k2 := ih (i + 1) (by omega) (by omega)
      have hm : i * z ≤ 1048576 * 1048576 := Nat.mul_le_mul (by omega) (by omega)
      have em : (i : Int) * (z : Int) = ((i * z : Nat) : Int) := by simp
      rw [decide_eq_true (show (i : Int) < (r.length : Int) by omega), bc_t, e1, h1, h2, em, IntWalk.i64_in ((i : Int) + 1) (by omega), IntWalk.i64_in ((i * z : Nat) : Int) (by omega), IntWalk.i64_in (((i * z : Nat) : Int) + (z : Int)) (by omega), decide_eq_false (fun q => q rfl), bc_f]
      have e3 : ((min (i * z + z) N : Nat) : Int) = min (((i * z : Nat) : Int) + (z : Int)) (b.length : Int) := by omega
      rw [e3, decide_eq_false (fun q => q rfl), cond_false, bc_f]
      exact ⟨by omega, by omega, by omega, by omega, by omega, by omega, k2⟩
    · rw [decide_eq_false (by omega), bc_f]
theorem set_rep (x : Int) (i k : Nat) : (List.replicate i x ++ List.replicate (k + 1) (0 : Int)).set i x = List.replicate (i + 1) x ++ List.replicate k 0 := by
  rw [List.set_append, if_neg (by simp), List.length_replicate, Nat.sub_self, List.replicate_succ, List.set_cons_zero, List.replicate_succ', List.append_assoc]
  rfl
theorem l9_fill {x : Int} (hx : 0 ≤ x ∧ x < 256) {w : List Int} (hl : limR (pr2 w).1 (pr2 w).2 = true) : ∀ (k i : Nat), i + k < 1048576 →
    GD 9 Try.f9 QT (hd Try.f9 0) ⟨[(0, .int .u8 x), (7, .bool true), (8, .ptr 8 0), (9, .win true (.int .u8) 21 0 (i + k)), (10, .int .i64 (i : Nat))], [(8, .var [.arr 2 (.int .i64) w]), (21, .row 5 (.int .u8) (List.replicate i x ++ List.replicate k 0))]⟩ := by
  intro k
  have he : errO (pr2 w).1 (pr2 w).2 = 0 := by rw [errO, hl]; rfl
  have hlim : 4 ≤ (pr2 w).1 ∧ (pr2 w).1 ≤ (pr2 w).2 ∧ (pr2 w).2 ≤ 4096 := of_decide_eq_true hl
  induction k with
  | zero =>
    intro i hk
    have hlen : (List.replicate i x ++ List.replicate 0 (0 : Int)).length = i := by simp
    have hre : List.replicate i x ++ List.replicate 0 (0 : Int) = List.replicate i x := by simp
    have go := sy_goK dx9 (vc_l9A x i (List.replicate i x ++ List.replicate 0 0) w (fun rs _ => rs = [.bool true]) (Px.Good Try.prog tt G0 9 Try.f9.ntmps Try.f9.results.toList (fun rs _ => rs = [.bool true])))
    rw [hlen] at go
    refine go ?_
    have hb : preT (List.replicate i x) := ⟨by rw [List.length_replicate]; omega, fun c hc => by rw [(List.mem_replicate.1 hc).2]; exact hx⟩
    have hw : winL (Sh.int .u8) 0 i (List.replicate i x ++ List.replicate 0 0) = List.replicate i x := by
      rw [hre]
      show (List.drop 0 (List.replicate i x)).take i = _
      rw [List.drop_zero, List.take_of_length_le (by simp)]
    have hblk : blkO (List.replicate i x) (pr2 w).1 (pr2 w).2 = blksF (List.replicate i x) (pr2 w).1.toNat (pr2 w).2.toNat i 0 := by
      rw [blkO, hl, if_pos rfl, blks, List.length_replicate]
    have hok := run_ok hx (N := i) (l := (pr2 w).1.toNat) (m := (pr2 w).2.toNat) (by omega)
    have hle := blksF_len (List.replicate i x) (pr2 w).1.toNat (pr2 w).2.toNat (by omega) i 0
    rw [hw, hblk, he]
    rw [decide_eq_false (show ¬ ((i : Nat) : Int) < ((i : Nat) : Int) by omega), bc_f, decide_eq_false (show ¬ (0 : Int) ≠ 0 by simp), bc_f]
    have hpre : ctLb.pre (List.replicate i x, w, ()) := hb
    have main : ∀ (z : Int), (z.toNat : Int) = z → 4 ≤ z → z ≤ 4096 → RunOK i z.toNat (blksF (List.replicate i x) (pr2 w).1.toNat (pr2 w).2.toNat i 0) →
        IntKind.i64.wrap ((IntKind.i64.wrap (IntKind.i64.wrap ((i : Int) + z) - 1)).tdiv z) = ((blksF (List.replicate i x) (pr2 w).1.toNat (pr2 w).2.toNat i 0).length : Int) := by
      intro z hz h4 h5 hr
      rw [IntWalk.i64_in ((i : Int) + z) (by omega), IntWalk.i64_in ((i : Int) + z - 1) (by omega), Int.tdiv_eq_ediv_of_nonneg (by omega), hr.len]
      have e : ((i : Int) + z - 1) / z = (((i + z.toNat - 1) / z.toNat : Nat) : Int) := by
        rw [Int.natCast_ediv, hz, show ((i + z.toNat - 1 : Nat) : Int) = (i : Int) + z - 1 by omega]
      have hbd : (i + z.toNat - 1) / z.toNat ≤ i + z.toNat - 1 := Nat.div_le_self _ _
      rw [e]
      generalize (i + z.toNat - 1) / z.toNat = d at hbd
      exact IntWalk.i64_in _ (by omega)
    have t4 : x.tmod 4 = x % 4 := Int.tmod_eq_emod_of_nonneg hx.1
    rw [t4]
    have g0 : gt (Sh.int .i64) w (Int.toNat 0) = (pr2 w).1 := rfl
    have g1 : gt (Sh.int .i64) w (Int.toNat 1) = (pr2 w).2 := rfl
    rw [g0, g1]
    refine ⟨by decide, by decide, by decide, by decide, bc_of (fun h => ?_) (fun h => ?_)⟩
    · have h := of_decide_eq_true h
      have hr : RunOK i (pr2 w).1.toNat (blksF (List.replicate i x) (pr2 w).1.toNat (pr2 w).2.toNat i 0) := by
        have := hok; unfold runZ at this; rwa [if_pos h] at this
      rw [main _ (by omega) (by omega) (by omega) hr, decide_eq_false (fun q => q rfl), cond_false, bc_f]
      have k2 := l9_check (b := List.replicate i x ++ List.replicate 0 0) hr hlen (by omega) (by omega) hle _ 0 (Nat.le_refl _) (Nat.zero_le _)
      rw [show (((pr2 w).1.toNat : Nat) : Int) = (pr2 w).1 by omega, hlen] at k2
      have hne : (pr2 w).1 ≠ 0 := by omega
      exact ⟨by decide, by decide, by decide, by omega, hpre, hne, k2.only ⟨rfl, rfl, rfl, rfl, rfl, trivial⟩ ⟨rfl, rfl, trivial⟩⟩
    · have h := of_decide_eq_false h
      have hr : RunOK i (pr2 w).2.toNat (blksF (List.replicate i x) (pr2 w).1.toNat (pr2 w).2.toNat i 0) := by
        have := hok; unfold runZ at this; rwa [if_neg h] at this
      rw [main _ (by omega) (by omega) (by omega) hr, decide_eq_false (fun q => q rfl), cond_false, bc_f]
      have k2 := l9_check (b := List.replicate i x ++ List.replicate 0 0) hr hlen (by omega) (by omega) hle _ 0 (Nat.le_refl _) (Nat.zero_le _)
      rw [show (((pr2 w).2.toNat : Nat) : Int) = (pr2 w).2 by omega, hlen] at k2
      have hne : (pr2 w).2 ≠ 0 := by omega
      exact ⟨by omega, hpre, hne, k2.only ⟨rfl, rfl, rfl, rfl, rfl, trivial⟩ ⟨rfl, rfl, trivial⟩⟩
  | succ k ih =>
    intro i hk
    have hlen : (List.replicate i x ++ List.replicate (k + 1) (0 : Int)).length = i + (k + 1) := by simp
    have go := sy_goK dx9 (vc_l9A x i (List.replicate i x ++ List.replicate (k + 1) 0) w (fun rs _ => rs = [.bool true]) (Px.Good Try.prog tt G0 9 Try.f9.ntmps Try.f9.results.toList (fun rs _ => rs = [.bool true])))
    rw [hlen] at go
    refine go ?_
    rw [decide_eq_true (show (i : Int) < ((i + (k + 1) : Nat) : Int) by omega), bc_t, IntWalk.i64_in ((i : Int) + 1) (by omega), Nat.zero_add, Int.toNat_natCast, set_rep]
    have k2 := ih (i + 1) (by omega)
    rw [show i + 1 + k = i + (k + 1) by omega] at k2
    exact ⟨by omega, by omega, by omega, k2⟩
def ctL9 : Ctr := ⟨[.int .u8, .int .u16, .arr 2 (.int .u8)], fun x => ((0 ≤ x.1 ∧ x.1 < 256) ∧ (0 ≤ x.2.1 ∧ x.2.1 < 65536)) ∧ preMade x.2.2.1, fun _ => [.bool true], fun _ => []⟩
theorem l9_run (x n : Int) (w : List Int) (hx : 0 ≤ x ∧ x < 256) (hn : 0 ≤ n ∧ n < 65536) (hw : preMade w) : sy tt G0 D9 Try.f9.ntmps Try.f9.results.toList (QC ctL9 (x, n, w, ())) (Px.Good Try.prog tt G0 9 Try.f9.ntmps Try.f9.results.toList (QC ctL9 (x, n, w, ()))) 1000 [.code (bodyOf Try.f9)] (entry [.int .u8, .int .u16, .arr 2 (.int .u8)] (x, n, w, ())) := by
  rw [vc_l9]
  have t0 := Int.tmod_nonneg (601 : Int) hn.1
  have t1 := Int.tmod_lt_of_pos n (show (0 : Int) < 601 by omega)
  rw [IntWalk.i64_in n (by omega)]
  obtain ⟨N, hN⟩ := Int.eq_ofNat_of_zero_le t0
  rw [hN]
  have k2 := (l9_fill hx (made_lim hw) N 0 (by omega)).post (Q' := QC ctL9 (x, n, w, ())) fun rs blk hq => QC.flat (by rw [hq]; rfl) rfl (by rw [hq]; rfl)
  rw [Nat.zero_add] at k2
  exact ⟨trivial, hw, by omega, by omega, by omega, by omega, by omega, k2.only ⟨rfl, rfl, rfl, rfl, rfl, trivial⟩ ⟨rfl, rfl, trivial⟩⟩
theorem l9_held : Held Try.prog G0 9 ctL9 := Held.run dx9 (fn := Try.f9) rfl rfl ⟨by decide, by decide⟩ fun x hp => l9_run x.1 x.2.1 x.2.2.1 hp.1.1 hp.1.2 hp.2
theorem u8_of {n : Int} (h : (Lit.int .u8 n).wf = true) : 0 ≤ n ∧ n < 256 := by
  have := Go.bounds_u8 h
  exact ⟨this.1, by omega⟩
end Go.Proofs.Ytgffokpiklnpmaa
