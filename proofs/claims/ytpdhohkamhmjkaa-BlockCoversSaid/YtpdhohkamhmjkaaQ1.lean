/-
  A part of the proof: what pieces of the program give; conditions: those of each theorem.
-/
import Derived.Test.YtpdhohkamhmjkaaQ0
import Derived.Test.YtpdhohkamhmjkaaHD
import Derived.KernelRfl
set_option linter.unusedVariables false
namespace Go.Proofs.Ytpdhohkamhmjkaa
open Go.Px Go.Ax
set_option maxRecDepth 100000
theorem vc_lb (b w : List Int) (Q : List SV → List (Nat × LB) → Prop) (R : List Item → PS → Prop) : sy tt G0 D8 Try.f14.ntmps Try.f14.results.toList Q R 1000 [.code (bodyOf Try.f14)] (entry [.sl (.int .u8), .arr 2 (.int .i64)] (b, w, ())) =
    ((0 : Int) ≤ (0 : Int) ∧
 (0 : Int) < (↑(2 : Nat) : Int) ∧
 Int.toNat (0 : Int) < (2 : Nat) ∧
 (0 : Int) ≤ (1 : Int) ∧
 (1 : Int) < (↑(2 : Nat) : Int) ∧
 Int.toNat (1 : Int) < (2 : Nat) ∧
 ctBlk.pre
 (b, gt (Sh.int IntKind.i64) w (Int.toNat (0 : Int)), gt (Sh.int IntKind.i64) w (Int.toNat (1 : Int)),
 ()) ∧
 Q
 [SV.win true ((Sh.int IntKind.i64).pair (Sh.int IntKind.i64)) (1045056 : Nat) (0 : Nat)
 (blkO b (gt (Sh.int IntKind.i64) w (Int.toNat (0 : Int)))
 (gt (Sh.int IntKind.i64) w (Int.toNat (1 : Int)))).length,
 SV.int IntKind.i64
 (errO (gt (Sh.int IntKind.i64) w (Int.toNat (0 : Int)))
 (gt (Sh.int IntKind.i64) w (Int.toNat (1 : Int))))]
 [((3 : Nat), LB.var [SV.arr (2 : Nat) (Sh.int IntKind.i64) w]),
 ((1045056 : Nat),
 LB.row (48 : Nat) ((Sh.int IntKind.i64).pair (Sh.int IntKind.i64))
 (blkO b (gt (Sh.int IntKind.i64) w (Int.toNat (0 : Int)))
 (gt (Sh.int IntKind.i64) w (Int.toNat (1 : Int)))))]) := by kernel_rfl
theorem vc_san  (Q : List SV → List (Nat × LB) → Prop) (R : List Item → PS → Prop) : sy tt G0 D8 Try.f11.ntmps Try.f11.results.toList Q R 1000 [.code (bodyOf Try.f11)] (entry [] ()) =
    ((0 : Int) ≤ (10 : Int) ∧
 (10 : Int) ≤ (10 : Int) ∧
 (10 : Int) < (2 : Int) ^ (24 : Nat) ∧
 (↑(1 : Nat) : Int) * (10 : Int) ≤ (2 : Int) ^ (48 : Nat) ∧
 (0 : Nat) + Int.toNat (10 : Int) ≤ (List.replicate (Int.toNat (10 : Int)) (Sh.int IntKind.u8).dflt).length ∧
 ctCut.pre
 (winL (Sh.int IntKind.u8) (0 : Nat) (Int.toNat (10 : Int))
 (List.replicate (Int.toNat (10 : Int)) (Sh.int IntKind.u8).dflt),
 (4 : Int), (8 : Int), ()) ∧
 (0 : Nat) + (10 : Nat) ≤
 (((((((((((List.replicate (10 : Nat) (Sh.int IntKind.u8).dflt).set (0 : Nat) (1 : Int)).set (1 : Nat)
 (1 : Int)).set
 (2 : Nat) (1 : Int)).set
 (3 : Nat) (1 : Int)).set
 (4 : Nat) (1 : Int)).set
 (5 : Nat) (1 : Int)).set
 (6 : Nat) (1 : Int)).set
 (7 : Nat) (1 : Int)).set
 (8 : Nat) (1 : Int)).set
 (9 : Nat) (1 : Int)).length ∧
 ctCut.pre
 (winL (Sh.int IntKind.u8) (0 : Nat) (10 : Nat)
 (((((((((((List.replicate (10 : Nat) (Sh.int IntKind.u8).dflt).set (0 : Nat) (1 : Int)).set
 (1 : Nat) (1 : Int)).set
 (2 : Nat) (1 : Int)).set
 (3 : Nat) (1 : Int)).set
 (4 : Nat) (1 : Int)).set
 (5 : Nat) (1 : Int)).set
 (6 : Nat) (1 : Int)).set
 (7 : Nat) (1 : Int)).set
 (8 : Nat) (1 : Int)).set
 (9 : Nat) (1 : Int)),
 (4 : Int), (8 : Int), ()) ∧
 (0 : Nat) + (5 : Nat) ≤
 ((((((List.replicate (5 : Nat) (Sh.int IntKind.u8).dflt).set (0 : Nat) (1 : Int)).set (1 : Nat)
 (2 : Int)).set
 (2 : Nat) (3 : Int)).set
 (3 : Nat) (10 : Int)).set
 (4 : Nat) (9 : Int)).length ∧
 ctBlk.pre
 (winL (Sh.int IntKind.u8) (0 : Nat) (5 : Nat)
 ((((((List.replicate (5 : Nat) (Sh.int IntKind.u8).dflt).set (0 : Nat) (1 : Int)).set
 (1 : Nat) (2 : Int)).set
 (2 : Nat) (3 : Int)).set
 (3 : Nat) (10 : Int)).set
 (4 : Nat) (9 : Int)),
 (4 : Int), (8 : Int), ()) ∧
 (0 : Int) ≤ (4 : Int) ∧
 (4 : Int) ≤ (4 : Int) ∧
 (4 : Int) < (2 : Int) ^ (24 : Nat) ∧
 (↑(1 : Nat) : Int) * (4 : Int) ≤ (2 : Int) ^ (48 : Nat) ∧
 (0 : Int) ≤ (8 : Int) ∧
 (8 : Int) ≤ (8 : Int) ∧
 (8 : Int) < (2 : Int) ^ (24 : Nat) ∧
 (↑(1 : Nat) : Int) * (8 : Int) ≤ (2 : Int) ^ (48 : Nat) ∧
 (0 : Nat) + Int.toNat (4 : Int) ≤
 (List.replicate (Int.toNat (4 : Int)) (Sh.int IntKind.u8).dflt).length ∧
 (0 : Nat) + Int.toNat (8 : Int) ≤
 (List.replicate (Int.toNat (8 : Int)) (Sh.int IntKind.u8).dflt).length ∧
 ctMa.pre
 (winL (Sh.int IntKind.u8) (0 : Nat) (Int.toNat (4 : Int))
 (List.replicate (Int.toNat (4 : Int)) (Sh.int IntKind.u8).dflt),
 winL (Sh.int IntKind.u8) (0 : Nat) (Int.toNat (8 : Int))
 (List.replicate (Int.toNat (8 : Int)) (Sh.int IntKind.u8).dflt),
 (4 : Int), (8 : Int), ()) ∧
 (0 : Nat) + (10 : Nat) ≤
 (((((((((((List.replicate (10 : Nat) (Sh.int IntKind.u8).dflt).set
 (0 : Nat) (1 : Int)).set
 (1 : Nat) (1 : Int)).set
 (2 : Nat) (1 : Int)).set
 (3 : Nat) (1 : Int)).set
 (4 : Nat) (1 : Int)).set
 (5 : Nat) (1 : Int)).set
 (6 : Nat) (1 : Int)).set
 (7 : Nat) (1 : Int)).set
 (8 : Nat) (1 : Int)).set
 (9 : Nat) (1 : Int)).length ∧
 ctCut.pre
 (winL (Sh.int IntKind.u8) (0 : Nat) (10 : Nat)
 (((((((((((List.replicate (10 : Nat) (Sh.int IntKind.u8).dflt).set
 (0 : Nat) (1 : Int)).set
 (1 : Nat) (1 : Int)).set
 (2 : Nat) (1 : Int)).set
 (3 : Nat) (1 : Int)).set
 (4 : Nat) (1 : Int)).set
 (5 : Nat) (1 : Int)).set
 (6 : Nat) (1 : Int)).set
 (7 : Nat) (1 : Int)).set
 (8 : Nat) (1 : Int)).set
 (9 : Nat) (1 : Int)),
 (3 : Int), (8 : Int), ()) ∧
 (0 : Nat) + (10 : Nat) ≤
 (((((((((((List.replicate (10 : Nat) (Sh.int IntKind.u8).dflt).set
 (0 : Nat) (1 : Int)).set
 (1 : Nat) (1 : Int)).set
 (2 : Nat) (1 : Int)).set
 (3 : Nat) (1 : Int)).set
 (4 : Nat) (1 : Int)).set
 (5 : Nat) (1 : Int)).set
 (6 : Nat) (1 : Int)).set
 (7 : Nat) (1 : Int)).set
 (8 : Nat) (1 : Int)).set
 (9 : Nat) (1 : Int)).length ∧
 ctCut.pre
 (winL (Sh.int IntKind.u8) (0 : Nat) (10 : Nat)
 (((((((((((List.replicate (10 : Nat)
 (Sh.int
 IntKind.u8).dflt).set
 (0 : Nat) (1 : Int)).set
 (1 : Nat) (1 : Int)).set
 (2 : Nat) (1 : Int)).set
 (3 : Nat) (1 : Int)).set
 (4 : Nat) (1 : Int)).set
 (5 : Nat) (1 : Int)).set
 (6 : Nat) (1 : Int)).set
 (7 : Nat) (1 : Int)).set
 (8 : Nat) (1 : Int)).set
 (9 : Nat) (1 : Int)),
 (8 : Int), (4 : Int), ()) ∧
 ctBlk.pre ([], (4 : Int), (4 : Int), ()) ∧
 (0 : Nat) +
 (cutO
 (winL (Sh.int IntKind.u8) (0 : Nat) (Int.toNat (10 : Int))
 (List.replicate (Int.toNat (10 : Int))
 (Sh.int IntKind.u8).dflt))
 (4 : Int) (8 : Int)).length ≤
 (cutO
 (winL (Sh.int IntKind.u8) (0 : Nat) (Int.toNat (10 : Int))
 (List.replicate (Int.toNat (10 : Int))
 (Sh.int IntKind.u8).dflt))
 (4 : Int) (8 : Int)).length ∧
 (0 : Nat) + (2 : Nat) ≤
 (((List.replicate (2 : Nat) (Sh.int IntKind.i64).dflt).set
 (0 : Nat) (4 : Int)).set
 (1 : Nat) (8 : Int)).length ∧
 ctInts.pre
 (winL (Sh.int IntKind.i64) (0 : Nat)
 (cutO
 (winL (Sh.int IntKind.u8) (0 : Nat)
 (Int.toNat (10 : Int))
 (List.replicate (Int.toNat (10 : Int))
 (Sh.int IntKind.u8).dflt))
 (4 : Int) (8 : Int)).length
 (cutO
 (winL (Sh.int IntKind.u8) (0 : Nat)
 (Int.toNat (10 : Int))
 (List.replicate (Int.toNat (10 : Int))
 (Sh.int IntKind.u8).dflt))
 (4 : Int) (8 : Int)),
 winL (Sh.int IntKind.i64) (0 : Nat) (2 : Nat)
 (((List.replicate (2 : Nat)
 (Sh.int IntKind.i64).dflt).set
 (0 : Nat) (4 : Int)).set
 (1 : Nat) (8 : Int)),
 ()) ∧
 (0 : Nat) +
 (cutO
 (winL (Sh.int IntKind.u8) (0 : Nat) (10 : Nat)
 (((((((((((List.replicate (10 : Nat)
 (Sh.int
 IntKind.u8).dflt).set
 (0 : Nat)
 (1 :
 Int)).set
 (1 : Nat)
 (1 : Int)).set
 (2 : Nat)
 (1 : Int)).set
 (3 : Nat) (1 : Int)).set
 (4 : Nat) (1 : Int)).set
 (5 : Nat) (1 : Int)).set
 (6 : Nat) (1 : Int)).set
 (7 : Nat) (1 : Int)).set
 (8 : Nat) (1 : Int)).set
 (9 : Nat) (1 : Int)))
 (4 : Int) (8 : Int)).length ≤
 (cutO
 (winL (Sh.int IntKind.u8) (0 : Nat) (10 : Nat)
 (((((((((((List.replicate (10 : Nat)
 (Sh.int
 IntKind.u8).dflt).set
 (0 : Nat)
 (1 : Int)).set
 (1 : Nat)
 (1 : Int)).set
 (2 : Nat)
 (1 : Int)).set
 (3 : Nat) (1 : Int)).set
 (4 : Nat) (1 : Int)).set
 (5 : Nat) (1 : Int)).set
 (6 : Nat) (1 : Int)).set
 (7 : Nat) (1 : Int)).set
 (8 : Nat) (1 : Int)).set
 (9 : Nat) (1 : Int)))
 (4 : Int) (8 : Int)).length ∧
 (0 : Nat) + (1 : Nat) ≤
 ((List.replicate (1 : Nat)
 (Sh.int IntKind.i64).dflt).set
 (0 : Nat) (8 : Int)).length ∧
 ctInts.pre
 (winL (Sh.int IntKind.i64) (0 : Nat)
 (cutO
 (winL (Sh.int IntKind.u8) (0 : Nat) (10 : Nat)
 (((((((((((List.replicate (10 : Nat)
 (Sh.int
 IntKind.u8).dflt).set
 (0 :
 Nat)
 (1 :
 Int)).set
 (1 : Nat)
 (1 :
 Int)).set
 (2 : Nat)
 (1 : Int)).set
 (3 : Nat)
 (1 : Int)).set
 (4 : Nat)
 (1 : Int)).set
 (5 : Nat) (1 : Int)).set
 (6 : Nat) (1 : Int)).set
 (7 : Nat) (1 : Int)).set
 (8 : Nat) (1 : Int)).set
 (9 : Nat) (1 : Int)))
 (4 : Int) (8 : Int)).length
 (cutO
 (winL (Sh.int IntKind.u8) (0 : Nat) (10 : Nat)
 (((((((((((List.replicate (10 : Nat)
 (Sh.int
 IntKind.u8).dflt).set
 (0 :
 Nat)
 (1 :
 Int)).set
 (1 : Nat)
 (1 :
 Int)).set
 (2 : Nat)
 (1 : Int)).set
 (3 : Nat)
 (1 : Int)).set
 (4 : Nat) (1 : Int)).set
 (5 : Nat) (1 : Int)).set
 (6 : Nat) (1 : Int)).set
 (7 : Nat) (1 : Int)).set
 (8 : Nat) (1 : Int)).set
 (9 : Nat) (1 : Int)))
 (4 : Int) (8 : Int)),
 winL (Sh.int IntKind.i64) (0 : Nat) (1 : Nat)
 ((List.replicate (1 : Nat)
 (Sh.int IntKind.i64).dflt).set
 (0 : Nat) (8 : Int)),
 ()) ∧
 (0 : Nat) +
 (blkO
 (winL (Sh.int IntKind.u8) (0 : Nat) (5 : Nat)
 ((((((List.replicate (5 : Nat)
 (Sh.int
 IntKind.u8).dflt).set
 (0 : Nat) (1 : Int)).set
 (1 : Nat) (2 : Int)).set
 (2 : Nat) (3 : Int)).set
 (3 : Nat) (10 : Int)).set
 (4 : Nat) (9 : Int)))
 (4 : Int) (8 : Int)).length ≤
 (blkO
 (winL (Sh.int IntKind.u8) (0 : Nat) (5 : Nat)
 ((((((List.replicate (5 : Nat)
 (Sh.int
 IntKind.u8).dflt).set
 (0 : Nat) (1 : Int)).set
 (1 : Nat) (2 : Int)).set
 (2 : Nat) (3 : Int)).set
 (3 : Nat) (10 : Int)).set
 (4 : Nat) (9 : Int)))
 (4 : Int) (8 : Int)).length ∧
 (0 : Nat) + (2 : Nat) ≤
 (((List.replicate (2 : Nat)
 ((Sh.int IntKind.i64).pair
 (Sh.int IntKind.i64)).dflt).set
 (0 : Nat) ((0 : Int), (4 : Int))).set
 (1 : Nat) ((4 : Int), (5 : Int))).length ∧
 ctRngs.pre
 (winL rgS (0 : Nat)
 (blkO
 (winL (Sh.int IntKind.u8) (0 : Nat)
 (5 : Nat)
 ((((((List.replicate (5 : Nat)
 (Sh.int
 IntKind.u8).dflt).set
 (0 : Nat)
 (1 : Int)).set
 (1 : Nat) (2 : Int)).set
 (2 : Nat) (3 : Int)).set
 (3 : Nat) (10 : Int)).set
 (4 : Nat) (9 : Int)))
 (4 : Int) (8 : Int)).length
 (blkO
 (winL (Sh.int IntKind.u8) (0 : Nat)
 (5 : Nat)
 ((((((List.replicate (5 : Nat)
 (Sh.int
 IntKind.u8).dflt).set
 (0 : Nat)
 (1 : Int)).set
 (1 : Nat) (2 : Int)).set
 (2 : Nat) (3 : Int)).set
 (3 : Nat) (10 : Int)).set
 (4 : Nat) (9 : Int)))
 (4 : Int) (8 : Int)),
 winL rgS (0 : Nat) (2 : Nat)
 (((List.replicate (2 : Nat)
 ((Sh.int IntKind.i64).pair
 (Sh.int
 IntKind.i64)).dflt).set
 (0 : Nat) ((0 : Int), (4 : Int))).set
 (1 : Nat) ((4 : Int), (5 : Int))),
 ()) ∧
 (0 : Nat) +
 (matO
 (winL (Sh.int IntKind.u8) (0 : Nat)
 (Int.toNat (4 : Int))
 (List.replicate (Int.toNat (4 : Int))
 (Sh.int IntKind.u8).dflt))
 (winL (Sh.int IntKind.u8) (0 : Nat)
 (Int.toNat (8 : Int))
 (List.replicate (Int.toNat (8 : Int))
 (Sh.int IntKind.u8).dflt))
 (4 : Int) (8 : Int)).length ≤
 (matO
 (winL (Sh.int IntKind.u8) (0 : Nat)
 (Int.toNat (4 : Int))
 (List.replicate (Int.toNat (4 : Int))
 (Sh.int IntKind.u8).dflt))
 (winL (Sh.int IntKind.u8) (0 : Nat)
 (Int.toNat (8 : Int))
 (List.replicate (Int.toNat (8 : Int))
 (Sh.int IntKind.u8).dflt))
 (4 : Int) (8 : Int)).length ∧
 (0 : Nat) + (2 : Nat) ≤
 (((List.replicate (2 : Nat)
 (Sh.arr (2 : Nat)
 (Sh.int
 IntKind.i64)).dflt).set
 (0 : Nat)
 ((List.set
 (Sh.arr (2 : Nat)
 (Sh.int IntKind.i64)).dflt
 (0 : Nat) (0 : Int)).set
 (1 : Nat) (0 : Int))).set
 (1 : Nat)
 ((List.set
 (Sh.arr (2 : Nat)
 (Sh.int IntKind.i64)).dflt
 (0 : Nat) (0 : Int)).set
 (1 : Nat) (1 : Int))).length ∧
 ctPrs.pre
 (winL paS (0 : Nat)
 (matO
 (winL (Sh.int IntKind.u8)
 (0 : Nat) (Int.toNat (4 : Int))
 (List.replicate
 (Int.toNat (4 : Int))
 (Sh.int IntKind.u8).dflt))
 (winL (Sh.int IntKind.u8)
 (0 : Nat) (Int.toNat (8 : Int))
 (List.replicate
 (Int.toNat (8 : Int))
 (Sh.int IntKind.u8).dflt))
 (4 : Int) (8 : Int)).length
 (matO
 (winL (Sh.int IntKind.u8) (0 : Nat)
 (Int.toNat (4 : Int))
 (List.replicate
 (Int.toNat (4 : Int))
 (Sh.int IntKind.u8).dflt))
 (winL (Sh.int IntKind.u8) (0 : Nat)
 (Int.toNat (8 : Int))
 (List.replicate
 (Int.toNat (8 : Int))
 (Sh.int IntKind.u8).dflt))
 (4 : Int) (8 : Int)),
 winL paS (0 : Nat) (2 : Nat)
 (((List.replicate (2 : Nat)
 (Sh.arr (2 : Nat)
 (Sh.int
 IntKind.i64)).dflt).set
 (0 : Nat)
 ((List.set
 (Sh.arr (2 : Nat)
 (Sh.int
 IntKind.i64)).dflt
 (0 : Nat) (0 : Int)).set
 (1 : Nat) (0 : Int))).set
 (1 : Nat)
 ((List.set
 (Sh.arr (2 : Nat)
 (Sh.int IntKind.i64)).dflt
 (0 : Nat) (0 : Int)).set
 (1 : Nat) (1 : Int))),
 ()) ∧
 Q
 [SV.bool
 (bif true then
 decide
 ((↑(blkO [] (4 : Int)
 (4 : Int)).length :
 Int) =
 (0 : Int))
 else false)]
 [((17 : Nat),
 LB.row (5 : Nat) (Sh.int IntKind.u8)
 (((((((((((List.replicate (10 : Nat)
 (Sh.int
 IntKind.u8).dflt).set
 (0 :
 Nat)
 (1 :
 Int)).set
 (1 :
 Nat)
 (1 :
 Int)).set
 (2 :
 Nat)
 (1 :
 Int)).set
 (3 : Nat)
 (1 :
 Int)).set
 (4 : Nat)
 (1 : Int)).set
 (5 : Nat)
 (1 : Int)).set
 (6 : Nat)
 (1 : Int)).set
 (7 : Nat) (1 : Int)).set
 (8 : Nat) (1 : Int)).set
 (9 : Nat) (1 : Int))),
 ((19 : Nat),
 LB.row (5 : Nat) (Sh.int IntKind.u8)
 (List.replicate
 (Int.toNat (10 : Int))
 (Sh.int IntKind.u8).dflt)),
 ((29 : Nat),
 LB.row (5 : Nat) (Sh.int IntKind.u8)
 ((((((List.replicate (5 : Nat)
 (Sh.int
 IntKind.u8).dflt).set
 (0 : Nat)
 (1 : Int)).set
 (1 : Nat)
 (2 : Int)).set
 (2 : Nat) (3 : Int)).set
 (3 : Nat) (10 : Int)).set
 (4 : Nat) (9 : Int))),
 ((34 : Nat),
 LB.row (5 : Nat) (Sh.int IntKind.u8)
 (List.replicate
 (Int.toNat (4 : Int))
 (Sh.int IntKind.u8).dflt)),
 ((35 : Nat),
 LB.row (5 : Nat) (Sh.int IntKind.u8)
 (List.replicate
 (Int.toNat (8 : Int))
 (Sh.int IntKind.u8).dflt)),
 ((57 : Nat),
 LB.row (3 : Nat) (Sh.int IntKind.i64)
 (((List.replicate (2 : Nat)
 (Sh.int
 IntKind.i64).dflt).set
 (0 : Nat) (4 : Int)).set
 (1 : Nat) (8 : Int))),
 ((66 : Nat),
 LB.row (3 : Nat) (Sh.int IntKind.i64)
 ((List.replicate (1 : Nat)
 (Sh.int IntKind.i64).dflt).set
 (0 : Nat) (8 : Int))),
 ((78 : Nat),
 LB.row (48 : Nat)
 ((Sh.int IntKind.i64).pair
 (Sh.int IntKind.i64))
 (((List.replicate (2 : Nat)
 ((Sh.int IntKind.i64).pair
 (Sh.int
 IntKind.i64)).dflt).set
 (0 : Nat)
 ((0 : Int), (4 : Int))).set
 (1 : Nat)
 ((4 : Int), (5 : Int)))),
 ((89 : Nat),
 LB.row (26 : Nat)
 (Sh.arr (2 : Nat)
 (Sh.int IntKind.i64))
 (((List.replicate (2 : Nat)
 (Sh.arr (2 : Nat)
 (Sh.int
 IntKind.i64)).dflt).set
 (0 : Nat)
 ((List.set
 (Sh.arr (2 : Nat)
 (Sh.int
 IntKind.i64)).dflt
 (0 : Nat) (0 : Int)).set
 (1 : Nat) (0 : Int))).set
 (1 : Nat)
 ((List.set
 (Sh.arr (2 : Nat)
 (Sh.int
 IntKind.i64)).dflt
 (0 : Nat) (0 : Int)).set
 (1 : Nat) (1 : Int)))),
 ((1081920 : Nat),
 LB.row (3 : Nat) (Sh.int IntKind.i64)
 (cutO
 (winL (Sh.int IntKind.u8)
 (0 : Nat) (Int.toNat (10 : Int))
 (List.replicate
 (Int.toNat (10 : Int))
 (Sh.int IntKind.u8).dflt))
 (4 : Int) (8 : Int))),
 ((1102400 : Nat),
 LB.row (3 : Nat) (Sh.int IntKind.i64)
 (cutO
 (winL (Sh.int IntKind.u8)
 (0 : Nat) (10 : Nat)
 (((((((((((List.replicate
 (10 :
 Nat)
 (Sh.int
 IntKind.u8).dflt).set
 (0 :
 Nat)
 (1 :
 Int)).set
 (1 :
 Nat)
 (1 :
 Int)).set
 (2 :
 Nat)
 (1 :
 Int)).set
 (3 :
 Nat)
 (1 :
 Int)).set
 (4 : Nat)
 (1 :
 Int)).set
 (5 : Nat)
 (1 : Int)).set
 (6 : Nat)
 (1 : Int)).set
 (7 : Nat)
 (1 : Int)).set
 (8 : Nat) (1 : Int)).set
 (9 : Nat) (1 : Int)))
 (4 : Int) (8 : Int))),
 ((1122880 : Nat),
 LB.row (48 : Nat)
 ((Sh.int IntKind.i64).pair
 (Sh.int IntKind.i64))
 (blkO
 (winL (Sh.int IntKind.u8)
 (0 : Nat) (5 : Nat)
 ((((((List.replicate (5 : Nat)
 (Sh.int
 IntKind.u8).dflt).set
 (0 : Nat)
 (1 : Int)).set
 (1 : Nat)
 (2 : Int)).set
 (2 : Nat)
 (3 : Int)).set
 (3 : Nat) (10 : Int)).set
 (4 : Nat) (9 : Int)))
 (4 : Int) (8 : Int))),
 ((1147456 : Nat),
 LB.row (26 : Nat)
 (Sh.arr (2 : Nat)
 (Sh.int IntKind.i64))
 (matO
 (winL (Sh.int IntKind.u8)
 (0 : Nat) (Int.toNat (4 : Int))
 (List.replicate
 (Int.toNat (4 : Int))
 (Sh.int IntKind.u8).dflt))
 (winL (Sh.int IntKind.u8)
 (0 : Nat) (Int.toNat (8 : Int))
 (List.replicate
 (Int.toNat (8 : Int))
 (Sh.int IntKind.u8).dflt))
 (4 : Int) (8 : Int))),
 ((1167936 : Nat),
 LB.row (3 : Nat) (Sh.int IntKind.i64)
 (cutO
 (winL (Sh.int IntKind.u8)
 (0 : Nat) (10 : Nat)
 (((((((((((List.replicate
 (10 :
 Nat)
 (Sh.int
 IntKind.u8).dflt).set
 (0 :
 Nat)
 (1 :
 Int)).set
 (1 :
 Nat)
 (1 :
 Int)).set
 (2 :
 Nat)
 (1 :
 Int)).set
 (3 :
 Nat)
 (1 :
 Int)).set
 (4 : Nat)
 (1 :
 Int)).set
 (5 : Nat)
 (1 : Int)).set
 (6 : Nat)
 (1 : Int)).set
 (7 : Nat)
 (1 : Int)).set
 (8 : Nat) (1 : Int)).set
 (9 : Nat) (1 : Int)))
 (3 : Int) (8 : Int))),
 ((1188416 : Nat),
 LB.row (3 : Nat) (Sh.int IntKind.i64)
 (cutO
 (winL (Sh.int IntKind.u8)
 (0 : Nat) (10 : Nat)
 (((((((((((List.replicate
 (10 :
 Nat)
 (Sh.int
 IntKind.u8).dflt).set
 (0 :
 Nat)
 (1 :
 Int)).set
 (1 :
 Nat)
 (1 :
 Int)).set
 (2 :
 Nat)
 (1 :
 Int)).set
 (3 :
 Nat)
 (1 :
 Int)).set
 (4 : Nat)
 (1 :
 Int)).set
 (5 : Nat)
 (1 : Int)).set
 (6 : Nat)
 (1 : Int)).set
 (7 : Nat)
 (1 : Int)).set
 (8 : Nat) (1 : Int)).set
 (9 : Nat) (1 : Int)))
 (8 : Int) (4 : Int))),
 ((1204800 : Nat),
 LB.row (48 : Nat)
 ((Sh.int IntKind.i64).pair
 (Sh.int IntKind.i64))
 (blkO [] (4 : Int) (4 : Int)))]) := by kernel_rfl
end Go.Proofs.Ytpdhohkamhmjkaa
namespace Go.Proofs.Ytpdhohkamhmjkaa
open Go.Px Go.Ax
attribute [local irreducible] Go.Px.sy Go.Px.syE
def ctSan : Ctr := ⟨[], fun _ => True, fun _ => [.bool true], fun _ => []⟩
instance (b : List Int) : Decidable (bytesOK b) := inferInstanceAs (Decidable (∀ c ∈ b, 0 ≤ c ∧ c < 256))
instance (n : Nat) : Decidable (preLn n) := inferInstanceAs (Decidable (n < 2 ^ 62))
theorem san_run : sy tt G0 D8 Try.f11.ntmps Try.f11.results.toList (QC ctSan ()) (Px.Good Try.prog tt G0 11 Try.f11.ntmps Try.f11.results.toList (QC ctSan ())) 1000 [.code (bodyOf Try.f11)] (entry [] ()) := by
  rw [vc_san]
  repeat' first
    | exact trivial
    | decide +kernel
    | (refine And.intro ?_ ?_)
    | (show preLn _; decide +kernel)
    | (refine QC.flat ?_ rfl rfl)
  show [SV.bool true] = [SV.bool (bif true then decide (((blkO [] 4 4).length : Int) = 0) else false)]
  rfl
theorem san_held : Held Try.prog G0 11 ctSan := Held.run dx8 (fn := Try.f11) rfl rfl ⟨by decide, by decide⟩ fun x _ => san_run
def ctLb : Ctr := ⟨[slB, paS], fun x => preT x.1, fun x => [.win true rgS 0 0 (List.length (blkO x.1 (pr2 x.2.1).1 (pr2 x.2.1).2)), .int .i64 (errO (pr2 x.2.1).1 (pr2 x.2.1).2)], fun x => [.row 48 rgS (blkO x.1 (pr2 x.2.1).1 (pr2 x.2.1).2)]⟩
theorem lb_run (b w : List Int) (hp : preT b) (R : List Item → PS → Prop) : sy tt G0 D8 Try.f14.ntmps Try.f14.results.toList (QC ctLb (b, w, ())) R 1000 [.code (bodyOf Try.f14)] (entry [slB, paS] (b, w, ())) := by
  rw [vc_lb]
  exact ⟨by decide, by decide, by decide, by decide, by decide, by decide, hp, QC.row1 (e := rgS) (et := 48) (xs := blkO b (pr2 w).1 (pr2 w).2) (n := errO (pr2 w).1 (pr2 w).2) rfl rfl rfl rfl rfl⟩
theorem lb_held : Held Try.prog G0 14 ctLb := Held.run dx8 (fn := Try.f14) rfl rfl ⟨by decide, by decide⟩ fun x hp => lb_run x.1 x.2.1 hp _
abbrev D9 : CV := (11, .inl ctSan) :: (14, .inl ctLb) :: D8
theorem dx9 : CxOK Try.prog tt G0 D9 := (dx8.cons lb_held (fn := Try.f14) rfl rfl rfl).cons san_held (fn := Try.f11) rfl rfl rfl
theorem bytes_of {l : List Int} (h : ∀ n ∈ l, (Lit.int .u8 n).wf = true) : bytesOK l := fun n hn => by
  have := Go.bounds_u8 (h n hn)
  exact ⟨this.1, by omega⟩
theorem hG : Glob G0.raw := ⟨fun g x h => by simp [G0, T.get] at h, fun g x h => by simp [G0, T.get] at h⟩
abbrev H0 : AHeap := ⟨nglob, G0.raw⟩
end Go.Proofs.Ytpdhohkamhmjkaa
namespace Go.Proofs.Ytpdhohkamhmjkaa
open Go.Px Go.Ax
set_option maxRecDepth 100000
theorem vc_l4 (b w : List Int) (Q : List SV → List (Nat × LB) → Prop) (R : List Item → PS → Prop) : sy tt G0 D9 Try.f4.ntmps Try.f4.results.toList Q R 1000 [.code (bodyOf Try.f4)] (entry [.sl (.int .u8), .arr 2 (.int .u8)] (b, w, ())) =
    (ctSan.pre () ∧
 ctMade.pre (w, ()) ∧
 bc (decide ((400 : Int) < (↑b.length : Int)))
 (Q [SV.bool true]
 [((3 : Nat), LB.var [SV.arr (2 : Nat) (Sh.int IntKind.u8) w]),
 ((6 : Nat), LB.var [SV.arr (2 : Nat) (Sh.int IntKind.i64) (madeL w)])])
 (ctLb.pre (b, madeL w, ()) ∧
 (0 : Int) ≤ (0 : Int) ∧
 (0 : Int) < (↑(2 : Nat) : Int) ∧
 Int.toNat (0 : Int) < (2 : Nat) ∧
 (0 : Int) ≤ (1 : Int) ∧
 (1 : Int) < (↑(2 : Nat) : Int) ∧
 Int.toNat (1 : Int) < (2 : Nat) ∧
 ctCut.pre
 (b, gt (Sh.int IntKind.i64) (madeL w) (Int.toNat (0 : Int)),
 gt (Sh.int IntKind.i64) (madeL w) (Int.toNat (1 : Int)), ()) ∧
 bc (decide (errO (pr2 (madeL w)).fst (pr2 (madeL w)).snd ≠ (0 : Int)))
 (true = true ∧
 true = true ∧
 true = true ∧
 Q [SV.bool false]
 [((3 : Nat), LB.var [SV.arr (2 : Nat) (Sh.int IntKind.u8) w]),
 ((6 : Nat), LB.var [SV.arr (2 : Nat) (Sh.int IntKind.i64) (madeL w)]),
 ((1098304 : Nat),
 LB.row (48 : Nat) ((Sh.int IntKind.i64).pair (Sh.int IntKind.i64))
 (blkO b (pr2 (madeL w)).fst (pr2 (madeL w)).snd)),
 ((1135168 : Nat),
 LB.row (3 : Nat) (Sh.int IntKind.i64)
 (cutO b (gt (Sh.int IntKind.i64) (madeL w) (Int.toNat (0 : Int)))
 (gt (Sh.int IntKind.i64) (madeL w) (Int.toNat (1 : Int)))))])
 (bc
 (bif false then true
 else
 decide
 (errO (gt (Sh.int IntKind.i64) (madeL w) (Int.toNat (0 : Int)))
 (gt (Sh.int IntKind.i64) (madeL w) (Int.toNat (1 : Int))) ≠
 (0 : Int)))
 (true = true ∧
 true = true ∧
 Q [SV.bool false]
 [((3 : Nat), LB.var [SV.arr (2 : Nat) (Sh.int IntKind.u8) w]),
 ((6 : Nat), LB.var [SV.arr (2 : Nat) (Sh.int IntKind.i64) (madeL w)]),
 ((1098304 : Nat),
 LB.row (48 : Nat) ((Sh.int IntKind.i64).pair (Sh.int IntKind.i64))
 (blkO b (pr2 (madeL w)).fst (pr2 (madeL w)).snd)),
 ((1135168 : Nat),
 LB.row (3 : Nat) (Sh.int IntKind.i64)
 (cutO b (gt (Sh.int IntKind.i64) (madeL w) (Int.toNat (0 : Int)))
 (gt (Sh.int IntKind.i64) (madeL w) (Int.toNat (1 : Int)))))])
 (bc
 (bif false then true
 else
 decide
 ((↑(cutO b (gt (Sh.int IntKind.i64) (madeL w) (Int.toNat (0 : Int)))
 (gt (Sh.int IntKind.i64) (madeL w) (Int.toNat (1 : Int)))).length :
 Int) ≠
 max
 (IntKind.i64.wrap
 ((↑(blkO b (pr2 (madeL w)).fst (pr2 (madeL w)).snd).length : Int) - (1 : Int)))
 (0 : Int)))
 (true = true ∧
 Q [SV.bool false]
 [((3 : Nat), LB.var [SV.arr (2 : Nat) (Sh.int IntKind.u8) w]),
 ((6 : Nat), LB.var [SV.arr (2 : Nat) (Sh.int IntKind.i64) (madeL w)]),
 ((1098304 : Nat),
 LB.row (48 : Nat) ((Sh.int IntKind.i64).pair (Sh.int IntKind.i64))
 (blkO b (pr2 (madeL w)).fst (pr2 (madeL w)).snd)),
 ((1135168 : Nat),
 LB.row (3 : Nat) (Sh.int IntKind.i64)
 (cutO b (gt (Sh.int IntKind.i64) (madeL w) (Int.toNat (0 : Int)))
 (gt (Sh.int IntKind.i64) (madeL w) (Int.toNat (1 : Int)))))])
 (bc
 (bif false then true
 else
 !decide
 ((↑(blkO b (pr2 (madeL w)).fst (pr2 (madeL w)).snd).length : Int) = (0 : Int)) ==
 decide ((↑b.length : Int) = (0 : Int)))
 (Q [SV.bool false]
 [((3 : Nat), LB.var [SV.arr (2 : Nat) (Sh.int IntKind.u8) w]),
 ((6 : Nat), LB.var [SV.arr (2 : Nat) (Sh.int IntKind.i64) (madeL w)]),
 ((1098304 : Nat),
 LB.row (48 : Nat) ((Sh.int IntKind.i64).pair (Sh.int IntKind.i64))
 (blkO b (pr2 (madeL w)).fst (pr2 (madeL w)).snd)),
 ((1135168 : Nat),
 LB.row (3 : Nat) (Sh.int IntKind.i64)
 (cutO b (gt (Sh.int IntKind.i64) (madeL w) (Int.toNat (0 : Int)))
 (gt (Sh.int IntKind.i64) (madeL w) (Int.toNat (1 : Int)))))])
 (R (hd Try.f4 (0 : Nat))
 {
 env :=
 [((0 : Nat), SV.sl (Sh.int IntKind.u8) b),
 ((1 : Nat), SV.arr (2 : Nat) (Sh.int IntKind.u8) w),
 ((3 : Nat), SV.ptr (3 : Nat) (0 : Nat)), ((4 : Nat), SV.bool false),
 ((5 : Nat), SV.bool true), ((6 : Nat), SV.ptr (6 : Nat) (0 : Nat)),
 ((7 : Nat),
 SV.win true ((Sh.int IntKind.i64).pair (Sh.int IntKind.i64)) (1098304 : Nat)
 (0 : Nat) (blkO b (pr2 (madeL w)).fst (pr2 (madeL w)).snd).length),
 ((8 : Nat), SV.int IntKind.i64 (errO (pr2 (madeL w)).fst (pr2 (madeL w)).snd)),
 ((9 : Nat),
 SV.win true (Sh.int IntKind.i64) (1135168 : Nat) (0 : Nat)
 (cutO b (gt (Sh.int IntKind.i64) (madeL w) (Int.toNat (0 : Int)))
 (gt (Sh.int IntKind.i64) (madeL w) (Int.toNat (1 : Int)))).length),
 ((10 : Nat),
 SV.int IntKind.i64
 (errO (gt (Sh.int IntKind.i64) (madeL w) (Int.toNat (0 : Int)))
 (gt (Sh.int IntKind.i64) (madeL w) (Int.toNat (1 : Int))))),
 ((11 : Nat), SV.int IntKind.i64 (0 : Int)),
 ((12 : Nat), SV.int IntKind.i64 (0 : Int)), ((14 : Nat), SV.bool true),
 ((15 : Nat), SV.arr (2 : Nat) (Sh.int IntKind.u8) w),
 ((16 : Nat), SV.arr (2 : Nat) (Sh.int IntKind.i64) (madeL w)),
 ((17 : Nat), SV.sl (Sh.int IntKind.u8) b),
 ((18 : Nat), SV.int IntKind.i64 (↑b.length : Int)),
 ((19 : Nat), SV.bool (decide ((400 : Int) < (↑b.length : Int)))),
 ((21 : Nat),
 SV.tup
 [SV.win true ((Sh.int IntKind.i64).pair (Sh.int IntKind.i64)) (1098304 : Nat)
 (0 : Nat) (blkO b (pr2 (madeL w)).fst (pr2 (madeL w)).snd).length,
 SV.int IntKind.i64 (errO (pr2 (madeL w)).fst (pr2 (madeL w)).snd)]),
 ((22 : Nat), SV.sl (Sh.int IntKind.u8) b),
 ((23 : Nat), SV.arr (2 : Nat) (Sh.int IntKind.i64) (madeL w)),
 ((24 : Nat),
 SV.tup
 [SV.win true ((Sh.int IntKind.i64).pair (Sh.int IntKind.i64)) (1098304 : Nat)
 (0 : Nat) (blkO b (pr2 (madeL w)).fst (pr2 (madeL w)).snd).length,
 SV.int IntKind.i64 (errO (pr2 (madeL w)).fst (pr2 (madeL w)).snd)]),
 ((25 : Nat),
 SV.win true ((Sh.int IntKind.i64).pair (Sh.int IntKind.i64)) (1098304 : Nat)
 (0 : Nat) (blkO b (pr2 (madeL w)).fst (pr2 (madeL w)).snd).length),
 ((26 : Nat), SV.int IntKind.i64 (errO (pr2 (madeL w)).fst (pr2 (madeL w)).snd)),
 ((27 : Nat),
 SV.tup
 [SV.win true (Sh.int IntKind.i64) (1135168 : Nat) (0 : Nat)
 (cutO b (gt (Sh.int IntKind.i64) (madeL w) (Int.toNat (0 : Int)))
 (gt (Sh.int IntKind.i64) (madeL w) (Int.toNat (1 : Int)))).length,
 SV.int IntKind.i64
 (errO (gt (Sh.int IntKind.i64) (madeL w) (Int.toNat (0 : Int)))
 (gt (Sh.int IntKind.i64) (madeL w) (Int.toNat (1 : Int))))]),
 ((28 : Nat), SV.sl (Sh.int IntKind.u8) b),
 ((29 : Nat), SV.aep (Sh.int IntKind.i64) (6 : Nat) (0 : Nat) (0 : Nat) (0 : Nat)),
 ((30 : Nat),
 SV.int IntKind.i64 (gt (Sh.int IntKind.i64) (madeL w) (Int.toNat (0 : Int)))),
 ((31 : Nat), SV.aep (Sh.int IntKind.i64) (6 : Nat) (0 : Nat) (1 : Nat) (0 : Nat)),
 ((32 : Nat),
 SV.int IntKind.i64 (gt (Sh.int IntKind.i64) (madeL w) (Int.toNat (1 : Int)))),
 ((33 : Nat),
 SV.tup
 [SV.win true (Sh.int IntKind.i64) (1135168 : Nat) (0 : Nat)
 (cutO b (gt (Sh.int IntKind.i64) (madeL w) (Int.toNat (0 : Int)))
 (gt (Sh.int IntKind.i64) (madeL w) (Int.toNat (1 : Int)))).length,
 SV.int IntKind.i64
 (errO (gt (Sh.int IntKind.i64) (madeL w) (Int.toNat (0 : Int)))
 (gt (Sh.int IntKind.i64) (madeL w) (Int.toNat (1 : Int))))]),
 ((34 : Nat),
 SV.win true (Sh.int IntKind.i64) (1135168 : Nat) (0 : Nat)
 (cutO b (gt (Sh.int IntKind.i64) (madeL w) (Int.toNat (0 : Int)))
 (gt (Sh.int IntKind.i64) (madeL w) (Int.toNat (1 : Int)))).length),
 ((35 : Nat),
 SV.int IntKind.i64
 (errO (gt (Sh.int IntKind.i64) (madeL w) (Int.toNat (0 : Int)))
 (gt (Sh.int IntKind.i64) (madeL w) (Int.toNat (1 : Int))))),
 ((36 : Nat), SV.int IntKind.i64 (errO (pr2 (madeL w)).fst (pr2 (madeL w)).snd)),
 ((37 : Nat),
 SV.bool (decide (errO (pr2 (madeL w)).fst (pr2 (madeL w)).snd ≠ (0 : Int)))),
 ((38 : Nat), SV.bool false),
 ((39 : Nat),
 SV.int IntKind.i64
 (errO (gt (Sh.int IntKind.i64) (madeL w) (Int.toNat (0 : Int)))
 (gt (Sh.int IntKind.i64) (madeL w) (Int.toNat (1 : Int))))),
 ((40 : Nat),
 SV.bool
 (decide
 (errO (gt (Sh.int IntKind.i64) (madeL w) (Int.toNat (0 : Int)))
 (gt (Sh.int IntKind.i64) (madeL w) (Int.toNat (1 : Int))) ≠
 (0 : Int)))),
 ((41 : Nat),
 SV.bool
 (bif false then true
 else
 decide
 (errO (gt (Sh.int IntKind.i64) (madeL w) (Int.toNat (0 : Int)))
 (gt (Sh.int IntKind.i64) (madeL w) (Int.toNat (1 : Int))) ≠
 (0 : Int)))),
 ((42 : Nat), SV.bool false),
 ((43 : Nat),
 SV.win true (Sh.int IntKind.i64) (1135168 : Nat) (0 : Nat)
 (cutO b (gt (Sh.int IntKind.i64) (madeL w) (Int.toNat (0 : Int)))
 (gt (Sh.int IntKind.i64) (madeL w) (Int.toNat (1 : Int)))).length),
 ((44 : Nat),
 SV.int IntKind.i64
 (↑(cutO b (gt (Sh.int IntKind.i64) (madeL w) (Int.toNat (0 : Int)))
 (gt (Sh.int IntKind.i64) (madeL w) (Int.toNat (1 : Int)))).length :
 Int)),
 ((45 : Nat),
 SV.win true ((Sh.int IntKind.i64).pair (Sh.int IntKind.i64)) (1098304 : Nat)
 (0 : Nat) (blkO b (pr2 (madeL w)).fst (pr2 (madeL w)).snd).length),
 ((46 : Nat),
 SV.int IntKind.i64
 (↑(blkO b (pr2 (madeL w)).fst (pr2 (madeL w)).snd).length : Int)),
 ((47 : Nat),
 SV.int IntKind.i64
 (IntKind.i64.wrap
 ((↑(blkO b (pr2 (madeL w)).fst (pr2 (madeL w)).snd).length : Int) -
 (1 : Int)))),
 ((48 : Nat),
 SV.int IntKind.i64
 (max
 (IntKind.i64.wrap
 ((↑(blkO b (pr2 (madeL w)).fst (pr2 (madeL w)).snd).length : Int) -
 (1 : Int)))
 (0 : Int))),
 ((49 : Nat),
 SV.bool
 (decide
 ((↑(cutO b (gt (Sh.int IntKind.i64) (madeL w) (Int.toNat (0 : Int)))
 (gt (Sh.int IntKind.i64) (madeL w)
 (Int.toNat (1 : Int)))).length :
 Int) ≠
 max
 (IntKind.i64.wrap
 ((↑(blkO b (pr2 (madeL w)).fst (pr2 (madeL w)).snd).length : Int) -
 (1 : Int)))
 (0 : Int)))),
 ((50 : Nat),
 SV.bool
 (bif false then true
 else
 decide
 ((↑(cutO b (gt (Sh.int IntKind.i64) (madeL w) (Int.toNat (0 : Int)))
 (gt (Sh.int IntKind.i64) (madeL w)
 (Int.toNat (1 : Int)))).length :
 Int) ≠
 max
 (IntKind.i64.wrap
 ((↑(blkO b (pr2 (madeL w)).fst (pr2 (madeL w)).snd).length : Int) -
 (1 : Int)))
 (0 : Int)))),
 ((51 : Nat), SV.bool false),
 ((52 : Nat),
 SV.win true ((Sh.int IntKind.i64).pair (Sh.int IntKind.i64)) (1098304 : Nat)
 (0 : Nat) (blkO b (pr2 (madeL w)).fst (pr2 (madeL w)).snd).length),
 ((53 : Nat),
 SV.int IntKind.i64
 (↑(blkO b (pr2 (madeL w)).fst (pr2 (madeL w)).snd).length : Int)),
 ((54 : Nat),
 SV.bool
 (decide
 ((↑(blkO b (pr2 (madeL w)).fst (pr2 (madeL w)).snd).length : Int) =
 (0 : Int)))),
 ((55 : Nat), SV.sl (Sh.int IntKind.u8) b),
 ((56 : Nat), SV.int IntKind.i64 (↑b.length : Int)),
 ((57 : Nat), SV.bool (decide ((↑b.length : Int) = (0 : Int)))),
 ((58 : Nat),
 SV.bool
 !decide
 ((↑(blkO b (pr2 (madeL w)).fst (pr2 (madeL w)).snd).length : Int) =
 (0 : Int)) ==
 decide ((↑b.length : Int) = (0 : Int))),
 ((59 : Nat),
 SV.bool
 (bif false then true
 else
 !decide
 ((↑(blkO b (pr2 (madeL w)).fst (pr2 (madeL w)).snd).length : Int) =
 (0 : Int)) ==
 decide ((↑b.length : Int) = (0 : Int))))],
 blk :=
 [((3 : Nat), LB.var [SV.arr (2 : Nat) (Sh.int IntKind.u8) w]),
 ((6 : Nat), LB.var [SV.arr (2 : Nat) (Sh.int IntKind.i64) (madeL w)]),
 ((1098304 : Nat),
 LB.row (48 : Nat) ((Sh.int IntKind.i64).pair (Sh.int IntKind.i64))
 (blkO b (pr2 (madeL w)).fst (pr2 (madeL w)).snd)),
 ((1135168 : Nat),
 LB.row (3 : Nat) (Sh.int IntKind.i64)
 (cutO b (gt (Sh.int IntKind.i64) (madeL w) (Int.toNat (0 : Int)))
 (gt (Sh.int IntKind.i64) (madeL w) (Int.toNat (1 : Int)))))] })))))) := by kernel_rfl
theorem vc_l4L (b w c : List Int) (r : List (Int × Int)) (at_ i : Int) (Q : List SV → List (Nat × LB) → Prop) (R : List Item → PS → Prop) : sy tt G0 D9 Try.f4.ntmps Try.f4.results.toList Q (fun it S => R it (keepS [0, 5, 6, 7, 9, 11, 12] [6, 1098304, 1135168] S)) 1000 (hd Try.f4 0) ⟨[(0, .sl (.int .u8) b), (5, .bool true), (6, .ptr 6 0), (7, .win true (.pair (.int .i64) (.int .i64)) 1098304 0 r.length), (9, .win true (.int .i64) 1135168 0 c.length), (11, .int .i64 at_), (12, .int .i64 i)], [(6, .var [.arr 2 (.int .i64) w]), (1098304, .row 48 (.pair (.int .i64) (.int .i64)) r), (1135168, .row 3 (.int .i64) c)]⟩ =
    (bc (decide (i < (↑r.length : Int)))
 ((0 : Int) ≤ i ∧
 i < (↑r.length : Int) ∧
 (0 : Nat) + i.toNat < r.length ∧
 (0 : Int) ≤ i ∧
 i < (↑r.length : Int) ∧
 (0 : Nat) + i.toNat < r.length ∧
 (0 : Int) ≤ i ∧
 i < (↑r.length : Int) ∧
 (0 : Nat) + i.toNat < r.length ∧
 bc
 (decide ((gt ((Sh.int IntKind.i64).pair (Sh.int IntKind.i64)) r ((0 : Nat) + i.toNat)).fst ≠ at_))
 (true = true ∧
 true = true ∧
 true = true ∧
 Q [SV.bool false]
 [((6 : Nat), LB.var [SV.arr (2 : Nat) (Sh.int IntKind.i64) w]),
 ((1098304 : Nat), LB.row (48 : Nat) ((Sh.int IntKind.i64).pair (Sh.int IntKind.i64)) r),
 ((1135168 : Nat), LB.row (3 : Nat) (Sh.int IntKind.i64) c)])
 (bc
 (bif false then true
 else
 decide
 (IntKind.i64.wrap
 ((gt ((Sh.int IntKind.i64).pair (Sh.int IntKind.i64)) r ((0 : Nat) + i.toNat)).snd -
 (gt ((Sh.int IntKind.i64).pair (Sh.int IntKind.i64)) r ((0 : Nat) + i.toNat)).fst) <
 (1 : Int)))
 (true = true ∧
 true = true ∧
 Q [SV.bool false]
 [((6 : Nat), LB.var [SV.arr (2 : Nat) (Sh.int IntKind.i64) w]),
 ((1098304 : Nat), LB.row (48 : Nat) ((Sh.int IntKind.i64).pair (Sh.int IntKind.i64)) r),
 ((1135168 : Nat), LB.row (3 : Nat) (Sh.int IntKind.i64) c)])
 ((0 : Int) ≤ (1 : Int) ∧
 (1 : Int) < (↑(2 : Nat) : Int) ∧
 Int.toNat (1 : Int) < (2 : Nat) ∧
 bc
 (bif false then true
 else
 decide
 (gt (Sh.int IntKind.i64) w (Int.toNat (1 : Int)) <
 IntKind.i64.wrap
 ((gt ((Sh.int IntKind.i64).pair (Sh.int IntKind.i64)) r
 ((0 : Nat) + i.toNat)).snd -
 (gt ((Sh.int IntKind.i64).pair (Sh.int IntKind.i64)) r
 ((0 : Nat) + i.toNat)).fst)))
 (true = true ∧
 Q [SV.bool false]
 [((6 : Nat), LB.var [SV.arr (2 : Nat) (Sh.int IntKind.i64) w]),
 ((1098304 : Nat),
 LB.row (48 : Nat) ((Sh.int IntKind.i64).pair (Sh.int IntKind.i64)) r),
 ((1135168 : Nat), LB.row (3 : Nat) (Sh.int IntKind.i64) c)])
 (bc (decide (IntKind.i64.wrap (i + (1 : Int)) < (↑r.length : Int)))
 ((0 : Int) ≤ (0 : Int) ∧
 (0 : Int) < (↑(2 : Nat) : Int) ∧
 Int.toNat (0 : Int) < (2 : Nat) ∧
 bc
 (decide
 (IntKind.i64.wrap
 ((gt ((Sh.int IntKind.i64).pair (Sh.int IntKind.i64)) r
 ((0 : Nat) + i.toNat)).snd -
 (gt ((Sh.int IntKind.i64).pair (Sh.int IntKind.i64)) r
 ((0 : Nat) + i.toNat)).fst) <
 gt (Sh.int IntKind.i64) w (Int.toNat (0 : Int))))
 (true = true ∧
 Q [SV.bool false]
 [((6 : Nat), LB.var [SV.arr (2 : Nat) (Sh.int IntKind.i64) w]),
 ((1098304 : Nat),
 LB.row (48 : Nat) ((Sh.int IntKind.i64).pair (Sh.int IntKind.i64)) r),
 ((1135168 : Nat), LB.row (3 : Nat) (Sh.int IntKind.i64) c)])
 ((0 : Int) ≤ i ∧
 i < (↑c.length : Int) ∧
 (0 : Nat) + i.toNat < c.length ∧
 (0 : Int) ≤ i ∧
 i < (↑r.length : Int) ∧
 (0 : Nat) + i.toNat < r.length ∧
 bc
 (bif false then true
 else
 bif true then
 bif false then true
 else
 decide
 (gt (Sh.int IntKind.i64) c ((0 : Nat) + i.toNat) ≠
 (gt ((Sh.int IntKind.i64).pair (Sh.int IntKind.i64)) r
 ((0 : Nat) + i.toNat)).snd)
 else false)
 (Q [SV.bool false]
 [((6 : Nat),
 LB.var [SV.arr (2 : Nat) (Sh.int IntKind.i64) w]),
 ((1098304 : Nat),
 LB.row (48 : Nat)
 ((Sh.int IntKind.i64).pair (Sh.int IntKind.i64)) r),
 ((1135168 : Nat), LB.row (3 : Nat) (Sh.int IntKind.i64) c)])
 ((0 : Int) ≤ i ∧
 i < (↑r.length : Int) ∧
 (0 : Nat) + i.toNat < r.length ∧
 R (hd Try.f4 (0 : Nat))
 {
 env :=
 [((0 : Nat), SV.sl (Sh.int IntKind.u8) b),
 ((5 : Nat), SV.bool true),
 ((6 : Nat), SV.ptr (6 : Nat) (0 : Nat)),
 ((7 : Nat),
 SV.win true
 ((Sh.int IntKind.i64).pair
 (Sh.int IntKind.i64))
 (1098304 : Nat) (0 : Nat) r.length),
 ((9 : Nat),
 SV.win true (Sh.int IntKind.i64) (1135168 : Nat)
 (0 : Nat) c.length),
 ((11 : Nat),
 SV.int IntKind.i64
 (gt
 ((Sh.int IntKind.i64).pair
 (Sh.int IntKind.i64))
 r ((0 : Nat) + i.toNat)).snd),
 ((12 : Nat),
 SV.int IntKind.i64
 (IntKind.i64.wrap (i + (1 : Int))))],
 blk :=
 [((6 : Nat),
 LB.var
 [SV.arr (2 : Nat) (Sh.int IntKind.i64) w]),
 ((1098304 : Nat),
 LB.row (48 : Nat)
 ((Sh.int IntKind.i64).pair
 (Sh.int IntKind.i64))
 r),
 ((1135168 : Nat),
 LB.row (3 : Nat) (Sh.int IntKind.i64) c)] })))
 (false = false ∧
 (0 : Int) ≤ i ∧
 i < (↑r.length : Int) ∧
 (0 : Nat) + i.toNat < r.length ∧
 R (hd Try.f4 (0 : Nat))
 {
 env :=
 [((0 : Nat), SV.sl (Sh.int IntKind.u8) b), ((5 : Nat), SV.bool true),
 ((6 : Nat), SV.ptr (6 : Nat) (0 : Nat)),
 ((7 : Nat),
 SV.win true ((Sh.int IntKind.i64).pair (Sh.int IntKind.i64))
 (1098304 : Nat) (0 : Nat) r.length),
 ((9 : Nat),
 SV.win true (Sh.int IntKind.i64) (1135168 : Nat) (0 : Nat)
 c.length),
 ((11 : Nat),
 SV.int IntKind.i64
 (gt ((Sh.int IntKind.i64).pair (Sh.int IntKind.i64)) r
 ((0 : Nat) + i.toNat)).snd),
 ((12 : Nat), SV.int IntKind.i64 (IntKind.i64.wrap (i + (1 : Int))))],
 blk :=
 [((6 : Nat), LB.var [SV.arr (2 : Nat) (Sh.int IntKind.i64) w]),
 ((1098304 : Nat),
 LB.row (48 : Nat) ((Sh.int IntKind.i64).pair (Sh.int IntKind.i64))
 r),
 ((1135168 : Nat), LB.row (3 : Nat) (Sh.int IntKind.i64) c)] })))))
 (bc (decide (at_ = (↑b.length : Int)))
 (Q [SV.bool (bif true then true else false)]
 [((6 : Nat), LB.var [SV.arr (2 : Nat) (Sh.int IntKind.i64) w]),
 ((1098304 : Nat), LB.row (48 : Nat) ((Sh.int IntKind.i64).pair (Sh.int IntKind.i64)) r),
 ((1135168 : Nat), LB.row (3 : Nat) (Sh.int IntKind.i64) c)])
 (false = false ∧
 Q [SV.bool false]
 [((6 : Nat), LB.var [SV.arr (2 : Nat) (Sh.int IntKind.i64) w]),
 ((1098304 : Nat), LB.row (48 : Nat) ((Sh.int IntKind.i64).pair (Sh.int IntKind.i64)) r),
 ((1135168 : Nat), LB.row (3 : Nat) (Sh.int IntKind.i64) c)]))) := by kernel_rfl
end Go.Proofs.Ytpdhohkamhmjkaa
namespace Go.Proofs.Ytpdhohkamhmjkaa
open Go.Px Go.Ax
set_option maxRecDepth 100000
theorem vc_rg (l : List (Int × Int)) (y : Int) (Q : List SV → List (Nat × LB) → Prop) (R : List Item → PS → Prop) : sy tt G0 D9 Try.f22.ntmps Try.f22.results.toList Q R 1000 [.code (bodyOf Try.f22)] (entry [.sl (.pair (.int .i64) (.int .i64)), .int .i64] (l, y, ())) =
    (R (hd Try.f22 (0 : Nat))
 {
 env :=
 [((0 : Nat), SV.sl ((Sh.int IntKind.i64).pair (Sh.int IntKind.i64)) l), ((1 : Nat), SV.int IntKind.i64 y),
 ((4 : Nat), SV.nils),
 ((5 : Nat), SV.win true ((Sh.int IntKind.i64).pair (Sh.int IntKind.i64)) (7 : Nat) (0 : Nat) (0 : Nat)),
 ((6 : Nat), SV.int IntKind.i64 (0 : Int)),
 ((7 : Nat), SV.win true ((Sh.int IntKind.i64).pair (Sh.int IntKind.i64)) (7 : Nat) (0 : Nat) (0 : Nat))],
 blk :=
 [((7 : Nat),
 LB.row (48 : Nat) ((Sh.int IntKind.i64).pair (Sh.int IntKind.i64))
 (List.replicate (0 : Nat) ((Sh.int IntKind.i64).pair (Sh.int IntKind.i64)).dflt))] }) := by kernel_rfl
theorem vc_rgL (l o : List (Int × Int)) (y i : Int) (Q : List SV → List (Nat × LB) → Prop) (R : List Item → PS → Prop) : sy tt G0 D9 Try.f22.ntmps Try.f22.results.toList Q R 1000 (hd Try.f22 0) ⟨[(0, .sl (.pair (.int .i64) (.int .i64)) l), (1, .int .i64 y), (5, .win true (.pair (.int .i64) (.int .i64)) 7 0 o.length), (6, .int .i64 i)], [(7, .row 48 (.pair (.int .i64) (.int .i64)) o)]⟩ =
    (bc (decide (i < (↑l.length : Int)))
 ((0 : Int) ≤ i ∧
 i < (↑l.length : Int) ∧
 (0 : Int) ≤ i ∧
 i < (↑l.length : Int) ∧
 (0 : Nat) + (1 : Nat) ≤
 ((List.replicate (1 : Nat) ((Sh.int IntKind.i64).pair (Sh.int IntKind.i64)).dflt).set (0 : Nat)
 (IntKind.i64.wrap ((gt ((Sh.int IntKind.i64).pair (Sh.int IntKind.i64)) l i.toNat).fst + y),
 IntKind.i64.wrap
 ((gt ((Sh.int IntKind.i64).pair (Sh.int IntKind.i64)) l i.toNat).snd + y))).length ∧
 o.length = o.length ∧
 (0 : Nat) = (0 : Nat) ∧
 o.length +
 (winL
 ((fun self => self.6)
 (mkT (2 : Nat) (16 : Nat) true
 (TK.struct [((0 : Nat), (3 : TypeId)), ((1 : Nat), (3 : TypeId))])
 ((Sh.int IntKind.i64).pair (Sh.int IntKind.i64)) (some IntKind.i64)))
 (0 : Nat) (1 : Nat)
 ((List.replicate (1 : Nat) ((Sh.int IntKind.i64).pair (Sh.int IntKind.i64)).dflt).set
 (0 : Nat)
 (IntKind.i64.wrap ((gt ((Sh.int IntKind.i64).pair (Sh.int IntKind.i64)) l i.toNat).fst + y),
 IntKind.i64.wrap
 ((gt ((Sh.int IntKind.i64).pair (Sh.int IntKind.i64)) l i.toNat).snd + y)))).length <
 (2 : Nat) ^ (30 : Nat) ∧
 (16 : Nat) ≤ (2 : Nat) ^ (10 : Nat) ∧
 R (hd Try.f22 (0 : Nat))
 {
 env :=
 [((0 : Nat), SV.sl ((Sh.int IntKind.i64).pair (Sh.int IntKind.i64)) l),
 ((1 : Nat), SV.int IntKind.i64 y),
 ((5 : Nat),
 SV.win true ((Sh.int IntKind.i64).pair (Sh.int IntKind.i64)) (31 : Nat) (0 : Nat)
 (o.length +
 (winL
 ((fun self => self.6)
 (mkT (2 : Nat) (16 : Nat) true
 (TK.struct [((0 : Nat), (3 : TypeId)), ((1 : Nat), (3 : TypeId))])
 ((Sh.int IntKind.i64).pair (Sh.int IntKind.i64)) (some IntKind.i64)))
 (0 : Nat) (1 : Nat)
 ((List.replicate (1 : Nat)
 ((Sh.int IntKind.i64).pair (Sh.int IntKind.i64)).dflt).set
 (0 : Nat)
 (IntKind.i64.wrap
 ((gt ((Sh.int IntKind.i64).pair (Sh.int IntKind.i64)) l i.toNat).fst + y),
 IntKind.i64.wrap
 ((gt ((Sh.int IntKind.i64).pair (Sh.int IntKind.i64)) l i.toNat).snd +
 y)))).length)),
 ((6 : Nat), SV.int IntKind.i64 (IntKind.i64.wrap (i + (1 : Int)))),
 ((8 : Nat), SV.int IntKind.i64 i),
 ((9 : Nat), SV.sl ((Sh.int IntKind.i64).pair (Sh.int IntKind.i64)) l),
 ((10 : Nat), SV.int IntKind.i64 (↑l.length : Int)),
 ((11 : Nat), SV.bool (decide (i < (↑l.length : Int)))), ((12 : Nat), SV.int IntKind.i64 i),
 ((13 : Nat), SV.int IntKind.i64 (IntKind.i64.wrap (i + (1 : Int)))), ((14 : Nat), SV.dead),
 ((15 : Nat), SV.sl ((Sh.int IntKind.i64).pair (Sh.int IntKind.i64)) l),
 ((16 : Nat), SV.int IntKind.i64 i),
 ((17 : Nat),
 SV.elv ((Sh.int IntKind.i64).pair (Sh.int IntKind.i64))
 (gt ((Sh.int IntKind.i64).pair (Sh.int IntKind.i64)) l i.toNat)),
 ((18 : Nat),
 SV.elv (Sh.int IntKind.i64)
 (gt ((Sh.int IntKind.i64).pair (Sh.int IntKind.i64)) l i.toNat).fst),
 ((19 : Nat),
 SV.int IntKind.i64 (gt ((Sh.int IntKind.i64).pair (Sh.int IntKind.i64)) l i.toNat).fst),
 ((20 : Nat), SV.int IntKind.i64 y),
 ((21 : Nat),
 SV.int IntKind.i64
 (IntKind.i64.wrap
 ((gt ((Sh.int IntKind.i64).pair (Sh.int IntKind.i64)) l i.toNat).fst + y))),
 ((22 : Nat), SV.sl ((Sh.int IntKind.i64).pair (Sh.int IntKind.i64)) l),
 ((23 : Nat), SV.int IntKind.i64 i),
 ((24 : Nat),
 SV.elv ((Sh.int IntKind.i64).pair (Sh.int IntKind.i64))
 (gt ((Sh.int IntKind.i64).pair (Sh.int IntKind.i64)) l i.toNat)),
 ((25 : Nat),
 SV.elv (Sh.int IntKind.i64)
 (gt ((Sh.int IntKind.i64).pair (Sh.int IntKind.i64)) l i.toNat).snd),
 ((26 : Nat),
 SV.int IntKind.i64 (gt ((Sh.int IntKind.i64).pair (Sh.int IntKind.i64)) l i.toNat).snd),
 ((27 : Nat), SV.int IntKind.i64 y),
 ((28 : Nat),
 SV.int IntKind.i64
 (IntKind.i64.wrap
 ((gt ((Sh.int IntKind.i64).pair (Sh.int IntKind.i64)) l i.toNat).snd + y))),
 ((29 : Nat),
 SV.agg
 [SV.int IntKind.i64
 (IntKind.i64.wrap
 ((gt ((Sh.int IntKind.i64).pair (Sh.int IntKind.i64)) l i.toNat).fst + y)),
 SV.int IntKind.i64
 (IntKind.i64.wrap
 ((gt ((Sh.int IntKind.i64).pair (Sh.int IntKind.i64)) l i.toNat).snd + y))]),
 ((30 : Nat),
 SV.win true ((Sh.int IntKind.i64).pair (Sh.int IntKind.i64)) (30 : Nat) (0 : Nat)
 (1 : Nat)),
 ((31 : Nat),
 SV.win true ((Sh.int IntKind.i64).pair (Sh.int IntKind.i64)) (31 : Nat) (0 : Nat)
 (o.length +
 (winL
 ((fun self => self.6)
 (mkT (2 : Nat) (16 : Nat) true
 (TK.struct [((0 : Nat), (3 : TypeId)), ((1 : Nat), (3 : TypeId))])
 ((Sh.int IntKind.i64).pair (Sh.int IntKind.i64)) (some IntKind.i64)))
 (0 : Nat) (1 : Nat)
 ((List.replicate (1 : Nat)
 ((Sh.int IntKind.i64).pair (Sh.int IntKind.i64)).dflt).set
 (0 : Nat)
 (IntKind.i64.wrap
 ((gt ((Sh.int IntKind.i64).pair (Sh.int IntKind.i64)) l i.toNat).fst + y),
 IntKind.i64.wrap
 ((gt ((Sh.int IntKind.i64).pair (Sh.int IntKind.i64)) l i.toNat).snd +
 y)))).length))],
 blk :=
 [((30 : Nat),
 LB.row (48 : Nat) ((Sh.int IntKind.i64).pair (Sh.int IntKind.i64))
 ((List.replicate (1 : Nat) ((Sh.int IntKind.i64).pair (Sh.int IntKind.i64)).dflt).set
 (0 : Nat)
 (IntKind.i64.wrap
 ((gt ((Sh.int IntKind.i64).pair (Sh.int IntKind.i64)) l i.toNat).fst + y),
 IntKind.i64.wrap
 ((gt ((Sh.int IntKind.i64).pair (Sh.int IntKind.i64)) l i.toNat).snd + y)))),
 ((31 : Nat),
 LB.row (48 : Nat) ((Sh.int IntKind.i64).pair (Sh.int IntKind.i64))
 (o ++
 winL ((Sh.int IntKind.i64).pair (Sh.int IntKind.i64)) (0 : Nat) (1 : Nat)
 ((List.replicate (1 : Nat)
 ((Sh.int IntKind.i64).pair (Sh.int IntKind.i64)).dflt).set
 (0 : Nat)
 (IntKind.i64.wrap
 ((gt ((Sh.int IntKind.i64).pair (Sh.int IntKind.i64)) l i.toNat).fst + y),
 IntKind.i64.wrap
 ((gt ((Sh.int IntKind.i64).pair (Sh.int IntKind.i64)) l i.toNat).snd +
 y)))))] })
 (Q [SV.win true ((Sh.int IntKind.i64).pair (Sh.int IntKind.i64)) (7 : Nat) (0 : Nat) o.length]
 [((7 : Nat), LB.row (48 : Nat) ((Sh.int IntKind.i64).pair (Sh.int IntKind.i64)) o)])) := by kernel_rfl
end Go.Proofs.Ytpdhohkamhmjkaa
namespace Go.Proofs.Ytpdhohkamhmjkaa
open Go.Px Go.Ax
attribute [local irreducible] Go.Px.sy Go.Px.syE
theorem qc_row {ct : Ctr} {x : DL ct.args} {rs : List SV} {blk : List (Nat × LB)} {e : Sh} {et : TypeId} {a k : Nat} {xs : List e.D} (h : ct.out x = [.win true e 0 0 xs.length]) (hr : ct.rows x = [.row et e xs]) (hs : rs = [.win true e a 0 k]) (hk : k = xs.length) (hb : lk blk a = some (.row et e xs)) : QC ct x rs blk := by
  subst hs; subst hk
  refine ⟨fun i => if i = 0 then some a else none, ?_, ?_, fun i j b h1 h2 => ?_, by rw [hr]; rfl⟩
  · rw [h]
    exact ⟨_, _, rfl, .inl ⟨true, a, rfl, rfl, fun h => h⟩, rfl⟩
  · rw [hr]
    exact ⟨.inl ⟨a, rfl, hb⟩, trivial⟩
  · simp only at h1 h2
    split at h1
    · split at h2
      · omega
      · cases h2
    · cases h1
/-- Ranges, moved. -/
def mvR (l : List (Int × Int)) (y : Int) : List (Int × Int) := l.map fun r => (r.1 + y, r.2 + y)
def small (n : Int) : Prop := -1073741824 ≤ n ∧ n ≤ 1073741824
def preRg (l : List (Int × Int)) (y : Int) : Prop := l.length < 1048576 ∧ (∀ r ∈ l, small r.1 ∧ small r.2) ∧ small y
def ctRg : Ctr := ⟨[.sl rgS, iI], fun x => preRg x.1 x.2.1, fun x => [.win true rgS 0 0 (List.length (mvR x.1 x.2.1))], fun x => [.row 48 rgS (mvR x.1 x.2.1)]⟩
theorem rg_loop {l : List (Int × Int)} {y : Int} (hp : preRg l y) : ∀ (k i : Nat) (o : List (Int × Int)), l.length - i ≤ k → i ≤ l.length → o = mvR (l.take i) y →
    GD 22 Try.f22 (QC ctRg (l, y, ())) (hd Try.f22 0) ⟨[(0, .sl rgS l), (1, .int .i64 y), (5, .win true rgS 7 0 o.length), (6, .int .i64 (i : Nat))], [(7, .row 48 rgS o)]⟩ := by
  obtain ⟨h1, h2, h3⟩ := hp
  have fin : ∀ (i : Nat) (o : List (Int × Int)), ¬ i < l.length → i ≤ l.length → o = mvR (l.take i) y → QC ctRg (l, y, ()) [.win true rgS 7 0 o.length] [(7, .row 48 rgS o)] := by
    intro i o hn hi ho
    have e : o = mvR l y := by rw [ho, List.take_of_length_le (by omega)]
    subst e
    exact qc_row rfl rfl rfl rfl rfl
  intro k
  induction k with
  | zero =>
    intro i o hk hi ho
    refine sy_go dx9 (vc_rgL l o y i _ _) ?_
    rw [decide_eq_false (by omega), bc_f]
    exact fin i o (by omega) hi ho
  | succ k ih =>
    intro i o hk hi ho
    refine sy_go dx9 (vc_rgL l o y i _ _) ?_
    by_cases h : i < l.length
    · have hs := h2 l[i] (List.getElem_mem h)
      unfold small at hs h3
      have e1 : gt rgS l (i : Int).toNat = l[i] := gtE h
      rw [decide_eq_true (show (i : Int) < (l.length : Int) by omega), bc_t, e1, IntWalk.i64_in ((i : Int) + 1) (by omega), IntWalk.i64_in (l[i].1 + y) (by omega), IntWalk.i64_in (l[i].2 + y) (by omega)]
      have hol : o.length = i := by rw [ho, mvR, List.length_map, List.length_take]; omega
      refine ⟨by omega, by omega, by omega, by omega, Nat.le_refl _, rfl, rfl, ?_, by decide, ?_⟩
      · show o.length + 1 < 2 ^ 30
        omega
      · have ho2 : o ++ [(l[i].1 + y, l[i].2 + y)] = mvR (l.take (i + 1)) y := by
          rw [ho, mvR, mvR, List.take_succ_eq_append_getElem h, List.map_append]; rfl
        refine Good.onlyR (ih (i + 1) _ (by omega) (by omega) ho2) [(7, 31)] rfl ⟨rfl, rfl, ?_, rfl, trivial⟩ ⟨rfl, trivial⟩
        show some (SV.win true rgS 31 0 (o.length + 1)) = some (SV.win true rgS 31 0 (o ++ [(l[i].1 + y, l[i].2 + y)]).length)
        rw [List.length_append, List.length_singleton]
    · rw [decide_eq_false (by omega), bc_f]
      exact fin i o h hi ho
theorem rg_run (l : List (Int × Int)) (y : Int) (hp : preRg l y) : sy tt G0 D9 Try.f22.ntmps Try.f22.results.toList (QC ctRg (l, y, ())) (Px.Good Try.prog tt G0 22 Try.f22.ntmps Try.f22.results.toList (QC ctRg (l, y, ()))) 1000 [.code (bodyOf Try.f22)] (entry [.sl rgS, iI] (l, y, ())) := by
  rw [vc_rg]
  exact (rg_loop hp _ 0 [] (Nat.le_refl _) (Nat.zero_le _) rfl).only ⟨rfl, rfl, rfl, rfl, trivial⟩ ⟨rfl, trivial⟩
theorem rg_held : Held Try.prog G0 22 ctRg := Held.run dx9 (fn := Try.f22) rfl rfl ⟨by decide, by decide⟩ fun x hp => rg_run x.1 x.2.1 hp
abbrev D10 : CV := (22, .inl ctRg) :: D9
theorem dx10 : CxOK Try.prog tt G0 D10 := dx9.cons rg_held (fn := Try.f22) rfl rfl rfl
end Go.Proofs.Ytpdhohkamhmjkaa
namespace Go.Proofs.Ytpdhohkamhmjkaa
open Go.Px Go.Ax
set_option maxRecDepth 100000
theorem vc_l5 (b w : List Int) (Q : List SV → List (Nat × LB) → Prop) (R : List Item → PS → Prop) : sy tt G0 D10 Try.f5.ntmps Try.f5.results.toList Q R 1000 [.code (bodyOf Try.f5)] (entry [.sl (.int .u8), .arr 2 (.int .u8)] (b, w, ())) =
    (ctSan.pre () ∧
 ctMade.pre (w, ()) ∧
 bc (decide ((200 : Int) < (↑b.length : Int)))
 (Q [SV.bool true]
 [((3 : Nat), LB.var [SV.arr (2 : Nat) (Sh.int IntKind.u8) w]),
 ((6 : Nat), LB.var [SV.arr (2 : Nat) (Sh.int IntKind.i64) (madeL w)])])
 (ctLb.pre (b, madeL w, ()) ∧
 bc (decide (errO (pr2 (madeL w)).fst (pr2 (madeL w)).snd ≠ (0 : Int)))
 (Q [SV.bool false]
 [((3 : Nat), LB.var [SV.arr (2 : Nat) (Sh.int IntKind.u8) w]),
 ((6 : Nat), LB.var [SV.arr (2 : Nat) (Sh.int IntKind.i64) (madeL w)]),
 ((1090112 : Nat),
 LB.row (48 : Nat) ((Sh.int IntKind.i64).pair (Sh.int IntKind.i64))
 (blkO b (pr2 (madeL w)).fst (pr2 (madeL w)).snd))])
 (R (hd Try.f5 (0 : Nat))
 {
 env :=
 [((0 : Nat), SV.sl (Sh.int IntKind.u8) b), ((1 : Nat), SV.arr (2 : Nat) (Sh.int IntKind.u8) w),
 ((3 : Nat), SV.ptr (3 : Nat) (0 : Nat)), ((4 : Nat), SV.bool false), ((5 : Nat), SV.bool true),
 ((6 : Nat), SV.ptr (6 : Nat) (0 : Nat)),
 ((7 : Nat),
 SV.win true ((Sh.int IntKind.i64).pair (Sh.int IntKind.i64)) (1090112 : Nat) (0 : Nat)
 (blkO b (pr2 (madeL w)).fst (pr2 (madeL w)).snd).length),
 ((8 : Nat), SV.int IntKind.i64 (errO (pr2 (madeL w)).fst (pr2 (madeL w)).snd)),
 ((9 : Nat), SV.int IntKind.i64 (0 : Int)), ((12 : Nat), SV.bool true),
 ((13 : Nat), SV.arr (2 : Nat) (Sh.int IntKind.u8) w),
 ((14 : Nat), SV.arr (2 : Nat) (Sh.int IntKind.i64) (madeL w)),
 ((15 : Nat), SV.sl (Sh.int IntKind.u8) b), ((16 : Nat), SV.int IntKind.i64 (↑b.length : Int)),
 ((17 : Nat), SV.bool (decide ((200 : Int) < (↑b.length : Int)))),
 ((19 : Nat),
 SV.tup
 [SV.win true ((Sh.int IntKind.i64).pair (Sh.int IntKind.i64)) (1090112 : Nat) (0 : Nat)
 (blkO b (pr2 (madeL w)).fst (pr2 (madeL w)).snd).length,
 SV.int IntKind.i64 (errO (pr2 (madeL w)).fst (pr2 (madeL w)).snd)]),
 ((20 : Nat), SV.sl (Sh.int IntKind.u8) b),
 ((21 : Nat), SV.arr (2 : Nat) (Sh.int IntKind.i64) (madeL w)),
 ((22 : Nat),
 SV.tup
 [SV.win true ((Sh.int IntKind.i64).pair (Sh.int IntKind.i64)) (1090112 : Nat) (0 : Nat)
 (blkO b (pr2 (madeL w)).fst (pr2 (madeL w)).snd).length,
 SV.int IntKind.i64 (errO (pr2 (madeL w)).fst (pr2 (madeL w)).snd)]),
 ((23 : Nat),
 SV.win true ((Sh.int IntKind.i64).pair (Sh.int IntKind.i64)) (1090112 : Nat) (0 : Nat)
 (blkO b (pr2 (madeL w)).fst (pr2 (madeL w)).snd).length),
 ((24 : Nat), SV.int IntKind.i64 (errO (pr2 (madeL w)).fst (pr2 (madeL w)).snd)),
 ((25 : Nat), SV.int IntKind.i64 (errO (pr2 (madeL w)).fst (pr2 (madeL w)).snd)),
 ((26 : Nat), SV.bool (decide (errO (pr2 (madeL w)).fst (pr2 (madeL w)).snd ≠ (0 : Int))))],
 blk :=
 [((3 : Nat), LB.var [SV.arr (2 : Nat) (Sh.int IntKind.u8) w]),
 ((6 : Nat), LB.var [SV.arr (2 : Nat) (Sh.int IntKind.i64) (madeL w)]),
 ((1090112 : Nat),
 LB.row (48 : Nat) ((Sh.int IntKind.i64).pair (Sh.int IntKind.i64))
 (blkO b (pr2 (madeL w)).fst (pr2 (madeL w)).snd))] }))) := by kernel_rfl
theorem vc_l5L (b w : List Int) (r : List (Int × Int)) (i : Int) (Q : List SV → List (Nat × LB) → Prop) (R : List Item → PS → Prop) : sy tt G0 D10 Try.f5.ntmps Try.f5.results.toList Q (fun it S => R it (keepS [0, 5, 6, 7, 9] [6, 1090112] S)) 1000 (hd Try.f5 0) ⟨[(0, .sl (.int .u8) b), (5, .bool true), (6, .ptr 6 0), (7, .win true (.pair (.int .i64) (.int .i64)) 1090112 0 r.length), (9, .int .i64 i)], [(6, .var [.arr 2 (.int .i64) w]), (1090112, .row 48 (.pair (.int .i64) (.int .i64)) r)]⟩ =
    (bc (decide (i < (↑r.length : Int)))
 ((0 : Int) ≤ i ∧
 i < (↑r.length : Int) ∧
 (0 : Nat) + i.toNat < r.length ∧
 bc (decide ((gt ((Sh.int IntKind.i64).pair (Sh.int IntKind.i64)) r ((0 : Nat) + i.toNat)).fst < (0 : Int)))
 (true = true ∧
 Q [SV.bool false]
 [((6 : Nat), LB.var [SV.arr (2 : Nat) (Sh.int IntKind.i64) w]),
 ((1090112 : Nat), LB.row (48 : Nat) ((Sh.int IntKind.i64).pair (Sh.int IntKind.i64)) r)])
 ((0 : Int) ≤ i ∧
 i < (↑r.length : Int) ∧
 (0 : Nat) + i.toNat < r.length ∧
 bc
 (bif false then true
 else
 decide
 ((↑b.length : Int) <
 (gt ((Sh.int IntKind.i64).pair (Sh.int IntKind.i64)) r ((0 : Nat) + i.toNat)).fst))
 (Q [SV.bool false]
 [((6 : Nat), LB.var [SV.arr (2 : Nat) (Sh.int IntKind.i64) w]),
 ((1090112 : Nat), LB.row (48 : Nat) ((Sh.int IntKind.i64).pair (Sh.int IntKind.i64)) r)])
 ((0 : Int) ≤ i ∧
 i < (↑r.length : Int) ∧
 (0 : Nat) + i.toNat < r.length ∧
 (0 : Int) ≤ (gt ((Sh.int IntKind.i64).pair (Sh.int IntKind.i64)) r ((0 : Nat) + i.toNat)).fst ∧
 (gt ((Sh.int IntKind.i64).pair (Sh.int IntKind.i64)) r ((0 : Nat) + i.toNat)).fst ≤
 (↑b.length : Int) ∧
 ctLb.pre
 (List.drop
 (Int.toNat
 (gt ((Sh.int IntKind.i64).pair (Sh.int IntKind.i64)) r ((0 : Nat) + i.toNat)).fst)
 b,
 w, ()) ∧
 bc (decide (errO (pr2 w).fst (pr2 w).snd ≠ (0 : Int)))
 (true = true ∧
 Q [SV.bool false]
 [((6 : Nat), LB.var [SV.arr (2 : Nat) (Sh.int IntKind.i64) w]),
 ((1090112 : Nat),
 LB.row (48 : Nat) ((Sh.int IntKind.i64).pair (Sh.int IntKind.i64)) r),
 ((1237568 : Nat),
 LB.row (48 : Nat) ((Sh.int IntKind.i64).pair (Sh.int IntKind.i64))
 (blkO
 (List.drop
 (Int.toNat
 (gt ((Sh.int IntKind.i64).pair (Sh.int IntKind.i64)) r
 ((0 : Nat) + i.toNat)).fst)
 b)
 (pr2 w).fst (pr2 w).snd))])
 ((0 : Int) ≤ i ∧
 i < (↑r.length : Int) ∧
 (0 : Nat) + i.toNat < r.length ∧
 (0 : Nat) +
 (blkO
 (List.drop
 (Int.toNat
 (gt ((Sh.int IntKind.i64).pair (Sh.int IntKind.i64)) r
 ((0 : Nat) + i.toNat)).fst)
 b)
 (pr2 w).fst (pr2 w).snd).length ≤
 (blkO
 (List.drop
 (Int.toNat
 (gt ((Sh.int IntKind.i64).pair (Sh.int IntKind.i64)) r
 ((0 : Nat) + i.toNat)).fst)
 b)
 (pr2 w).fst (pr2 w).snd).length ∧
 ctRg.pre
 (winL rgS (0 : Nat)
 (blkO
 (List.drop
 (Int.toNat
 (gt ((Sh.int IntKind.i64).pair (Sh.int IntKind.i64)) r
 ((0 : Nat) + i.toNat)).fst)
 b)
 (pr2 w).fst (pr2 w).snd).length
 (blkO
 (List.drop
 (Int.toNat
 (gt ((Sh.int IntKind.i64).pair (Sh.int IntKind.i64)) r
 ((0 : Nat) + i.toNat)).fst)
 b)
 (pr2 w).fst (pr2 w).snd),
 (gt ((Sh.int IntKind.i64).pair (Sh.int IntKind.i64)) r
 ((0 : Nat) + i.toNat)).fst,
 ()) ∧
 (0 : Int) ≤ i ∧
 i ≤ (↑r.length : Int) ∧
 (0 : Nat) + r.length ≤ r.length ∧
 (0 : Nat) +
 (mvR
 (winL rgS (0 : Nat)
 (blkO
 (List.drop
 (Int.toNat
 (gt ((Sh.int IntKind.i64).pair (Sh.int IntKind.i64))
 r ((0 : Nat) + i.toNat)).fst)
 b)
 (pr2 w).fst (pr2 w).snd).length
 (blkO
 (List.drop
 (Int.toNat
 (gt ((Sh.int IntKind.i64).pair (Sh.int IntKind.i64)) r
 ((0 : Nat) + i.toNat)).fst)
 b)
 (pr2 w).fst (pr2 w).snd))
 (gt ((Sh.int IntKind.i64).pair (Sh.int IntKind.i64)) r
 ((0 : Nat) + i.toNat)).fst).length ≤
 (mvR
 (winL rgS (0 : Nat)
 (blkO
 (List.drop
 (Int.toNat
 (gt ((Sh.int IntKind.i64).pair (Sh.int IntKind.i64)) r
 ((0 : Nat) + i.toNat)).fst)
 b)
 (pr2 w).fst (pr2 w).snd).length
 (blkO
 (List.drop
 (Int.toNat
 (gt ((Sh.int IntKind.i64).pair (Sh.int IntKind.i64)) r
 ((0 : Nat) + i.toNat)).fst)
 b)
 (pr2 w).fst (pr2 w).snd))
 (gt ((Sh.int IntKind.i64).pair (Sh.int IntKind.i64)) r
 ((0 : Nat) + i.toNat)).fst).length ∧
 (0 : Nat) + i.toNat + (r.length - i.toNat) ≤ r.length ∧
 ctRngs.pre
 (winL rgS (0 : Nat)
 (mvR
 (winL rgS (0 : Nat)
 (blkO
 (List.drop
 (Int.toNat
 (gt
 ((Sh.int IntKind.i64).pair
 (Sh.int IntKind.i64))
 r ((0 : Nat) + i.toNat)).fst)
 b)
 (pr2 w).fst (pr2 w).snd).length
 (blkO
 (List.drop
 (Int.toNat
 (gt
 ((Sh.int IntKind.i64).pair
 (Sh.int IntKind.i64))
 r ((0 : Nat) + i.toNat)).fst)
 b)
 (pr2 w).fst (pr2 w).snd))
 (gt ((Sh.int IntKind.i64).pair (Sh.int IntKind.i64)) r
 ((0 : Nat) + i.toNat)).fst).length
 (mvR
 (winL rgS (0 : Nat)
 (blkO
 (List.drop
 (Int.toNat
 (gt
 ((Sh.int IntKind.i64).pair
 (Sh.int IntKind.i64))
 r ((0 : Nat) + i.toNat)).fst)
 b)
 (pr2 w).fst (pr2 w).snd).length
 (blkO
 (List.drop
 (Int.toNat
 (gt
 ((Sh.int IntKind.i64).pair
 (Sh.int IntKind.i64))
 r ((0 : Nat) + i.toNat)).fst)
 b)
 (pr2 w).fst (pr2 w).snd))
 (gt ((Sh.int IntKind.i64).pair (Sh.int IntKind.i64)) r
 ((0 : Nat) + i.toNat)).fst),
 winL rgS ((0 : Nat) + i.toNat) (r.length - i.toNat) r, ()) ∧
 bc
 (bif false then true
 else
 !eqR
 (winL rgS (0 : Nat)
 (mvR
 (winL rgS (0 : Nat)
 (blkO
 (List.drop
 (Int.toNat
 (gt
 ((Sh.int IntKind.i64).pair
 (Sh.int IntKind.i64))
 r ((0 : Nat) + i.toNat)).fst)
 b)
 (pr2 w).fst (pr2 w).snd).length
 (blkO
 (List.drop
 (Int.toNat
 (gt
 ((Sh.int IntKind.i64).pair
 (Sh.int IntKind.i64))
 r ((0 : Nat) + i.toNat)).fst)
 b)
 (pr2 w).fst (pr2 w).snd))
 (gt ((Sh.int IntKind.i64).pair (Sh.int IntKind.i64))
 r ((0 : Nat) + i.toNat)).fst).length
 (mvR
 (winL rgS (0 : Nat)
 (blkO
 (List.drop
 (Int.toNat
 (gt
 ((Sh.int IntKind.i64).pair
 (Sh.int IntKind.i64))
 r ((0 : Nat) + i.toNat)).fst)
 b)
 (pr2 w).fst (pr2 w).snd).length
 (blkO
 (List.drop
 (Int.toNat
 (gt
 ((Sh.int IntKind.i64).pair
 (Sh.int IntKind.i64))
 r ((0 : Nat) + i.toNat)).fst)
 b)
 (pr2 w).fst (pr2 w).snd))
 (gt ((Sh.int IntKind.i64).pair (Sh.int IntKind.i64)) r
 ((0 : Nat) + i.toNat)).fst))
 (winL rgS ((0 : Nat) + i.toNat) (r.length - i.toNat) r))
 (Q [SV.bool false]
 [((6 : Nat),
 LB.var [SV.arr (2 : Nat) (Sh.int IntKind.i64) w]),
 ((1090112 : Nat),
 LB.row (48 : Nat)
 ((Sh.int IntKind.i64).pair (Sh.int IntKind.i64)) r),
 ((1237568 : Nat),
 LB.row (48 : Nat)
 ((Sh.int IntKind.i64).pair (Sh.int IntKind.i64))
 (blkO
 (List.drop
 (Int.toNat
 (gt
 ((Sh.int IntKind.i64).pair
 (Sh.int IntKind.i64))
 r ((0 : Nat) + i.toNat)).fst)
 b)
 (pr2 w).fst (pr2 w).snd)),
 ((1286720 : Nat),
 LB.row (48 : Nat)
 ((Sh.int IntKind.i64).pair (Sh.int IntKind.i64))
 (mvR
 (winL rgS (0 : Nat)
 (blkO
 (List.drop
 (Int.toNat
 (gt
 ((Sh.int IntKind.i64).pair
 (Sh.int IntKind.i64))
 r ((0 : Nat) + i.toNat)).fst)
 b)
 (pr2 w).fst (pr2 w).snd).length
 (blkO
 (List.drop
 (Int.toNat
 (gt
 ((Sh.int IntKind.i64).pair
 (Sh.int IntKind.i64))
 r ((0 : Nat) + i.toNat)).fst)
 b)
 (pr2 w).fst (pr2 w).snd))
 (gt ((Sh.int IntKind.i64).pair (Sh.int IntKind.i64)) r
 ((0 : Nat) + i.toNat)).fst))])
 (R (hd Try.f5 (0 : Nat))
 {
 env :=
 [((0 : Nat), SV.sl (Sh.int IntKind.u8) b),
 ((5 : Nat), SV.bool true),
 ((6 : Nat), SV.ptr (6 : Nat) (0 : Nat)),
 ((7 : Nat),
 SV.win true
 ((Sh.int IntKind.i64).pair (Sh.int IntKind.i64))
 (1090112 : Nat) (0 : Nat) r.length),
 ((9 : Nat),
 SV.int IntKind.i64
 (IntKind.i64.wrap (i + (1 : Int))))],
 blk :=
 [((6 : Nat),
 LB.var [SV.arr (2 : Nat) (Sh.int IntKind.i64) w]),
 ((1090112 : Nat),
 LB.row (48 : Nat)
 ((Sh.int IntKind.i64).pair (Sh.int IntKind.i64))
 r)] })))))
 (Q [SV.bool true]
 [((6 : Nat), LB.var [SV.arr (2 : Nat) (Sh.int IntKind.i64) w]),
 ((1090112 : Nat), LB.row (48 : Nat) ((Sh.int IntKind.i64).pair (Sh.int IntKind.i64)) r)])) := by kernel_rfl
end Go.Proofs.Ytpdhohkamhmjkaa
namespace Go.Proofs.Ytpdhohkamhmjkaa
open Go.Px Go.Ax
attribute [local irreducible] Go.Px.sy Go.Px.syE
theorem winA {e : Sh} (l : List e.D) : winL e 0 l.length l = l := by
  unfold winL
  rw [List.drop_zero, List.take_length]
theorem winD {e : Sh} (l : List e.D) (i : Nat) : winL e (0 + i) (l.length - i) l = l.drop i := by
  unfold winL
  rw [Nat.zero_add, List.take_of_length_le (by rw [List.length_drop]; omega)]
theorem blksF_shift (b : List Int) (l m p : Nat) (hp : p ≤ b.length) : ∀ k q, mvR (blksF (b.drop p) l m k q) (p : Int) = blksF b l m k (p + q)
  | 0, _ => rfl
  | k + 1, q => by
    simp only [blksF, List.length_drop]
    by_cases h : q < b.length - p
    · rw [if_pos h, if_pos (by omega), mvR, List.map_cons, List.drop_drop]
      have ih := blksF_shift b l m p hp k (q + firstLen (b.drop (p + q)) l m)
      unfold mvR at ih
      rw [ih, show p + (q + firstLen (b.drop (p + q)) l m) = p + q + firstLen (b.drop (p + q)) l m by omega]
      congr 1
      simp only [Prod.mk.injEq]
      omega
    · rw [if_neg h, if_neg (by omega)]; rfl
theorem blksF_fuel (b : List Int) {l m : Nat} (h : 4 ≤ l ∧ l ≤ m) : ∀ k k' p, b.length - p ≤ k → b.length - p ≤ k' → blksF b l m k p = blksF b l m k' p
  | 0, 0, _, _, _ => rfl
  | 0, k' + 1, p, h1, _ => by rw [blksF, blksF, if_neg (by omega)]
  | k + 1, 0, p, _, h2 => by rw [blksF, blksF, if_neg (by omega)]
  | k + 1, k' + 1, p, h1, h2 => by
    rw [blksF, blksF]
    by_cases hp : p < b.length
    · have hf := firstLen_bd (b := b.drop p) h (by rw [List.length_drop]; omega)
      rw [if_pos hp, if_pos hp, blksF_fuel b h k k' _ (by omega) (by omega)]
    · rw [if_neg hp, if_neg hp]
theorem blksF_at (b : List Int) {l m : Nat} (h : 4 ≤ l ∧ l ≤ m) : ∀ k p i, b.length - p ≤ k → (hi : i < (blksF b l m k p).length) → ∃ k' q : Nat, q < b.length ∧ b.length - q ≤ k' ∧ (blksF b l m k p)[i].1 = (q : Int) ∧ (blksF b l m k p).drop i = blksF b l m k' q
  | 0, p, i, _, hi => by simp [blksF] at hi
  | k + 1, p, i, hk, hi => by
    by_cases hp : p < b.length
    · have hf := firstLen_bd (b := b.drop p) h (by rw [List.length_drop]; omega)
      have e : blksF b l m (k + 1) p = ((p : Int), ((p + firstLen (b.drop p) l m : Nat) : Int)) :: blksF b l m k (p + firstLen (b.drop p) l m) := by rw [blksF, if_pos hp]
      cases i with
      | zero => exact ⟨k + 1, p, hp, hk, by simp only [e]; rfl, rfl⟩
      | succ i =>
        have hi' : i < (blksF b l m k (p + firstLen (b.drop p) l m)).length := by rw [e, List.length_cons] at hi; omega
        obtain ⟨k', q, h1, h2, h3, h4⟩ := blksF_at b h k _ i (by omega) hi'
        exact ⟨k', q, h1, h2, by simp only [e, List.getElem_cons_succ]; exact h3, by rw [e, List.drop_succ_cons]; exact h4⟩
    · have : blksF b l m (k + 1) p = [] := by rw [blksF, if_neg hp]
      rw [this] at hi; simp at hi
theorem made_lim {w : List Int} (h : preMade w) : limR (pr2 (madeL w)).1 (pr2 (madeL w)).2 = true := by
  obtain ⟨⟨h1, h2⟩, h3, h4⟩ := h
  have e1 : (pr2 (madeL w)).1 = 4 + (gt (Sh.int .u8) w 0) % 8 := rfl
  have e2 : (pr2 (madeL w)).2 = 4 + (gt (Sh.int .u8) w 0) % 8 + (gt (Sh.int .u8) w 1) % 16 := rfl
  rw [e1, e2]
  exact decide_eq_true (by omega)
theorem mk_made {l : List Int} (hl : l.length = 2) (h : ∀ n ∈ l, (Lit.int .u8 n).wf = true) : preMade l := by
  have e0 : gt (Sh.int .u8) l 0 = l[0] := gtE (by omega)
  have e1 : gt (Sh.int .u8) l 1 = l[1] := gtE (by omega)
  have b0 := bytes_of h l[0] (List.getElem_mem _)
  have b1 := bytes_of h l[1] (List.getElem_mem _)
  unfold preMade
  rw [e0, e1]
  exact ⟨b0, b1⟩
abbrev QT : List SV → List (Nat × LB) → Prop := fun rs _ => rs = [.bool true]
theorem l5_loop {b w : List Int} (hb : preT b) (hl : limR (pr2 w).1 (pr2 w).2 = true) : ∀ (k i : Nat), (blkO b (pr2 w).1 (pr2 w).2).length - i ≤ k → i ≤ (blkO b (pr2 w).1 (pr2 w).2).length →
    GD 5 Try.f5 QT (hd Try.f5 0) ⟨[(0, .sl (.int .u8) b), (5, .bool true), (6, .ptr 6 0), (7, .win true rgS 1090112 0 (blkO b (pr2 w).1 (pr2 w).2).length), (9, .int .i64 (i : Nat))], [(6, .var [.arr 2 (.int .i64) w]), (1090112, .row 48 rgS (blkO b (pr2 w).1 (pr2 w).2))]⟩ := by
  have he : errO (pr2 w).1 (pr2 w).2 = 0 := by rw [errO, hl]; rfl
  have hlim : 4 ≤ (pr2 w).1 ∧ (pr2 w).1 ≤ (pr2 w).2 ∧ (pr2 w).2 ≤ 4096 := of_decide_eq_true hl
  generalize hlv : (pr2 w).1.toNat = l at *
  generalize hmv : (pr2 w).2.toNat = m at *
  have hlm : 4 ≤ l ∧ l ≤ m := by omega
  have hO : ∀ c, blkO c (pr2 w).1 (pr2 w).2 = blks c l m := fun c => by rw [blkO, hl, hlv, hmv]; rfl
  rw [hO]
  have hlen : (blks b l m).length ≤ b.length := blksF_len b _ _ hlm _ _
  have hb1 := hb.1
  intro k
  induction k with
  | zero =>
    intro i hk hi
    refine sy_goK dx10 (vc_l5L b w _ i _ _) ?_
    rw [decide_eq_false (by omega), bc_f]
  | succ k ih =>
    intro i hk hi
    refine sy_goK dx10 (vc_l5L b w _ i _ _) ?_
    by_cases h : i < (blks b l m).length
    · obtain ⟨k', q, q1, q2, q3, q4⟩ := blksF_at b hlm b.length 0 i (by omega) h
      have e1 : gt rgS (blks b l m) (0 + (i : Int).toNat) = (blks b l m)[i] := by rw [Nat.zero_add]; exact gtE h
      have e2 : ((blks b l m)[i]).1 = (q : Int) := q3
      have hdl : (b.drop q).length = b.length - q := List.length_drop
      have e3 : mvR (blks (b.drop q) l m) (q : Int) = (blks b l m).drop i := by
        rw [blks, blksF_shift b l m q (by omega), show (blks b l m).drop i = _ from q4]
        exact blksF_fuel b hlm _ _ _ (by omega) (by omega)
      have hsm : ∀ r ∈ blks (b.drop q) l m, small r.1 ∧ small r.2 := fun r hr => by
        have := blksF_in hlm _ _ r hr
        unfold small
        omega
      have hl2 : (blks (b.drop q) l m).length ≤ (b.drop q).length := blksF_len _ _ _ hlm _ _
      rw [decide_eq_true (show (i : Int) < ((blks b l m).length : Int) by omega), bc_t, e1, e2, Int.toNat_natCast, Int.toNat_natCast, hO, he, winA, e3, winA, winD, IntWalk.i64_in ((i : Int) + 1) (by omega)]
      rw [decide_eq_false (show ¬ (q : Int) < 0 by omega), bc_f, cond_false, decide_eq_false (show ¬ (b.length : Int) < q by omega), bc_f, decide_eq_false (show ¬ (0 : Int) ≠ 0 by simp), bc_f, cond_false]
      rw [show eqR ((blks b l m).drop i) ((blks b l m).drop i) = true from decide_eq_true rfl, Bool.not_true, bc_f]
      have t1 : preT (b.drop q) := ⟨by omega, bytes_drop hb.2 q⟩
      have t2 : preRg (blks (b.drop q) l m) (q : Int) := ⟨by omega, hsm, by unfold small; omega⟩
      have t3 : preLn ((blks b l m).drop i).length := by unfold preLn; rw [List.length_drop]; omega
      have t4 := ih (i + 1) (by omega) (by omega)
      repeat' first
        | exact t1
        | exact t2
        | exact t3
        | exact t4
        | exact trivial
        | omega
        | exact Int.ofNat_le.2 (Nat.le_of_lt q1)
        | (refine And.intro ?_ ?_)
    · rw [decide_eq_false (by omega), bc_f]
def ctL5 : Ctr := ⟨[slB, .arr 2 (.int .u8)], fun x => bytesOK x.1 ∧ preMade x.2.1, fun _ => [.bool true], fun _ => []⟩
theorem l5_run (b w : List Int) (hp : bytesOK b) (hw : preMade w) : sy tt G0 D10 Try.f5.ntmps Try.f5.results.toList (QC ctL5 (b, w, ())) (Px.Good Try.prog tt G0 5 Try.f5.ntmps Try.f5.results.toList (QC ctL5 (b, w, ()))) 1000 [.code (bodyOf Try.f5)] (entry [slB, .arr 2 (.int .u8)] (b, w, ())) := by
  rw [vc_l5]
  have hl := made_lim hw
  have he : errO (pr2 (madeL w)).1 (pr2 (madeL w)).2 = 0 := by rw [errO, hl]; rfl
  refine ⟨trivial, hw, bc_of (fun h => QC.flat rfl rfl rfl) (fun h => ?_)⟩
  have h : ¬ (200 : Int) < b.length := of_decide_eq_false h
  have hb : preT b := ⟨by omega, hp⟩
  rw [he, decide_eq_false (show ¬ (0 : Int) ≠ 0 by simp), bc_f]
  exact ⟨hb, ((l5_loop hb hl _ 0 (Nat.le_refl _) (Nat.zero_le _)).post fun rs blk hq => QC.flat (by rw [hq]; rfl) rfl (by rw [hq]; rfl)).only ⟨rfl, rfl, rfl, rfl, rfl, trivial⟩ ⟨rfl, rfl, trivial⟩⟩
theorem l5_held : Held Try.prog G0 5 ctL5 := Held.run dx10 (fn := Try.f5) rfl rfl ⟨by decide, by decide⟩ fun x hp => l5_run x.1 x.2.1 hp.1 hp.2
end Go.Proofs.Ytpdhohkamhmjkaa
namespace Go.Proofs.Ytpdhohkamhmjkaa
open Go.Px Go.Ax
set_option maxRecDepth 100000
theorem vc_en (b w : List Int) (p : Int) (Q : List SV → List (Nat × LB) → Prop) (R : List Item → PS → Prop) : sy tt G0 D9 Try.f29.ntmps Try.f29.results.toList Q R 1000 [.code (bodyOf Try.f29)] (entry [.sl (.int .u8), .int .i64, .arr 2 (.int .i64)] (b, p, w, ())) =
    (R (hd Try.f29 (0 : Nat))
 {
 env :=
 [((0 : Nat), SV.sl (Sh.int IntKind.u8) b), ((1 : Nat), SV.int IntKind.i64 p),
 ((2 : Nat), SV.arr (2 : Nat) (Sh.int IntKind.i64) w), ((5 : Nat), SV.ptr (5 : Nat) (0 : Nat)),
 ((6 : Nat), SV.int IntKind.i64 (0 : Int)), ((7 : Nat), SV.int IntKind.i64 (IntKind.i64.wrap (p + (1 : Int)))),
 ((8 : Nat), SV.int IntKind.i64 p), ((9 : Nat), SV.int IntKind.i64 (IntKind.i64.wrap (p + (1 : Int))))],
 blk := [((5 : Nat), LB.var [SV.arr (2 : Nat) (Sh.int IntKind.i64) w])] }) := by kernel_rfl
theorem vc_enL (b w : List Int) (p i : Int) (Q : List SV → List (Nat × LB) → Prop) (R : List Item → PS → Prop) : sy tt G0 D9 Try.f29.ntmps Try.f29.results.toList Q (fun it S => R it (keepS [0, 1, 5, 7] [5] S)) 1000 (hd Try.f29 0) ⟨[(0, .sl (.int .u8) b), (1, .int .i64 p), (5, .ptr 5 0), (7, .int .i64 i)], [(5, .var [.arr 2 (.int .i64) w])]⟩ =
    (bc (decide (i < (↑b.length : Int)))
 ((0 : Int) ≤ (1 : Int) ∧
 (1 : Int) < (↑(2 : Nat) : Int) ∧
 Int.toNat (1 : Int) < (2 : Nat) ∧
 bc
 (bif true then decide (IntKind.i64.wrap (i - p) < gt (Sh.int IntKind.i64) w (Int.toNat (1 : Int))) else false)
 ((0 : Int) ≤ (0 : Int) ∧
 (0 : Int) < (↑(2 : Nat) : Int) ∧
 Int.toNat (0 : Int) < (2 : Nat) ∧
 bc (decide (gt (Sh.int IntKind.i64) w (Int.toNat (0 : Int)) ≤ IntKind.i64.wrap (i - p)))
 ((0 : Int) ≤ IntKind.i64.wrap (i - (4 : Int)) ∧
 IntKind.i64.wrap (i - (4 : Int)) < (↑b.length : Int) ∧
 (0 : Int) ≤ IntKind.i64.wrap (i - (3 : Int)) ∧
 IntKind.i64.wrap (i - (3 : Int)) < (↑b.length : Int) ∧
 (0 : Int) ≤ IntKind.i64.wrap (i - (2 : Int)) ∧
 IntKind.i64.wrap (i - (2 : Int)) < (↑b.length : Int) ∧
 (0 : Int) ≤ IntKind.i64.wrap (i - (1 : Int)) ∧
 IntKind.i64.wrap (i - (1 : Int)) < (↑b.length : Int) ∧
 (16 : Int) ≠ (0 : Int) ∧
 bc
 (bif true then
 decide
 ((IntKind.i64.wrap
 (IntKind.i64.wrap
 (IntKind.i64.wrap
 (IntKind.i64.wrap
 (gt (Sh.int IntKind.u8) b
 (IntKind.i64.wrap (i - (4 : Int))).toNat) +
 IntKind.i64.wrap
 (gt (Sh.int IntKind.u8) b
 (IntKind.i64.wrap (i - (3 : Int))).toNat)) +
 IntKind.i64.wrap
 (gt (Sh.int IntKind.u8) b
 (IntKind.i64.wrap (i - (2 : Int))).toNat)) +
 IntKind.i64.wrap
 (gt (Sh.int IntKind.u8) b
 (IntKind.i64.wrap (i - (1 : Int))).toNat))).tmod
 (16 : Int) =
 (0 : Int))
 else false)
 (Q [SV.int IntKind.i64 i]
 [((5 : Nat), LB.var [SV.arr (2 : Nat) (Sh.int IntKind.i64) w])])
 (R (hd Try.f29 (0 : Nat))
 {
 env :=
 [((0 : Nat), SV.sl (Sh.int IntKind.u8) b),
 ((1 : Nat), SV.int IntKind.i64 p),
 ((5 : Nat), SV.ptr (5 : Nat) (0 : Nat)),
 ((7 : Nat), SV.int IntKind.i64 (IntKind.i64.wrap (i + (1 : Int))))],
 blk := [((5 : Nat), LB.var [SV.arr (2 : Nat) (Sh.int IntKind.i64) w])] }))
 (false = false ∧
 R (hd Try.f29 (0 : Nat))
 {
 env :=
 [((0 : Nat), SV.sl (Sh.int IntKind.u8) b), ((1 : Nat), SV.int IntKind.i64 p),
 ((5 : Nat), SV.ptr (5 : Nat) (0 : Nat)),
 ((7 : Nat), SV.int IntKind.i64 (IntKind.i64.wrap (i + (1 : Int))))],
 blk := [((5 : Nat), LB.var [SV.arr (2 : Nat) (Sh.int IntKind.i64) w])] }))
 (Q [SV.int IntKind.i64 i] [((5 : Nat), LB.var [SV.arr (2 : Nat) (Sh.int IntKind.i64) w])]))
 (false = false ∧ Q [SV.int IntKind.i64 i] [((5 : Nat), LB.var [SV.arr (2 : Nat) (Sh.int IntKind.i64) w])])) := by kernel_rfl
end Go.Proofs.Ytpdhohkamhmjkaa
namespace Go.Proofs.Ytpdhohkamhmjkaa
open Go.Px Go.Ax
attribute [local irreducible] Go.Px.sy Go.Px.syE
theorem sum4_eq {b : List Int} {n : Nat} (h1 : 4 ≤ n) (h2 : n ≤ b.length) : sum4 b n = b[n - 4] + b[n - 3] + b[n - 2] + b[n - 1] := by
  have e : (b.take n).drop (n - 4) = [b[n - 4], b[n - 3], b[n - 2], b[n - 1]] := by
    refine List.ext_getElem (by rw [List.length_drop, List.length_take]; simp; omega) fun i h3 h4 => ?_
    rw [List.getElem_drop, List.getElem_take]
    simp only [List.length_cons, List.length_nil] at h4
    match i, h4 with
    | 0, _ => rfl
    | 1, _ => simp only [List.getElem_cons_succ, List.getElem_cons_zero]; congr 1; omega
    | 2, _ => simp only [List.getElem_cons_succ, List.getElem_cons_zero]; congr 1; omega
    | 3, _ => simp only [List.getElem_cons_succ, List.getElem_cons_zero]; congr 1; omega
  rw [sum4, e]
  simp only [sumL, List.foldl_cons, List.foldl_nil]
  omega
def preEn (b : List Int) (p : Int) (w : List Int) : Prop := (0 ≤ p ∧ p < b.length) ∧ preT b ∧ limR (pr2 w).1 (pr2 w).2 = true
def endV (b : List Int) (p : Int) (w : List Int) : Int := p + (firstLen (b.drop p.toNat) (pr2 w).1.toNat (pr2 w).2.toNat : Nat)
def ctEn : Ctr := ⟨[slB, iI, paS], fun x => preEn x.1 x.2.1 x.2.2.1, fun x => [.int .i64 (endV x.1 x.2.1 x.2.2.1)], fun _ => []⟩
/-- What is left to look for, from a length on. -/
def resF (c : List Int) (l m n : Nat) : Nat := if n < l then firstLen c l m else scanB c (min c.length m - n) n
theorem resF_end {c : List Int} {l m n : Nat} (h : n = min c.length m) : resF c l m n = n := by
  unfold resF firstLen
  split
  · rw [if_pos (by omega)]; omega
  · rw [show min c.length m - n = 0 by omega]; rfl
theorem resF_skip {c : List Int} {l m n : Nat} (h1 : n < l) (h2 : n < min c.length m) : resF c l m n = resF c l m (n + 1) := by
  unfold resF
  rw [if_pos h1]
  split
  · rfl
  · have e : l = n + 1 := by omega
    unfold firstLen
    subst e
    split
    · rw [show min c.length m - (n + 1) = 0 by omega]
      show _ = n + 1
      omega
    · rfl
theorem resF_at {c : List Int} {l m n : Nat} (h1 : ¬ n < l) (h2 : n < min c.length m) : resF c l m n = if isCut c n then n else resF c l m (n + 1) := by
  have a : ¬ n + 1 < l := by omega
  unfold resF
  rw [if_neg h1, if_neg a, show min c.length m - n = (min c.length m - (n + 1)) + 1 by omega, scanB]
theorem en_loop {b w : List Int} {p l m : Nat} (hb : preT b) (hp : p < b.length) (hw : (pr2 w).1 = (l : Int) ∧ (pr2 w).2 = (m : Int)) (hlm : 4 ≤ l ∧ l ≤ m ∧ m ≤ 4096) : ∀ (k n : Nat), min (b.length - p) m - n ≤ k → 1 ≤ n → n ≤ min (b.length - p) m →
    GD 29 Try.f29 (fun rs _ => rs = [.int .i64 (p + resF (b.drop p) l m n : Nat)]) (hd Try.f29 0) ⟨[(0, .sl (.int .u8) b), (1, .int .i64 (p : Nat)), (5, .ptr 5 0), (7, .int .i64 (p + n : Nat))], [(5, .var [.arr 2 (.int .i64) w])]⟩ := by
  have hdl : (b.drop p).length = b.length - p := List.length_drop
  obtain ⟨hb1, hb2⟩ := hb
  have w0 : gt (Sh.int .i64) w (Int.toNat 0) = (l : Int) := hw.1
  have w1 : gt (Sh.int .i64) w (Int.toNat 1) = (m : Int) := hw.2
  have fin : ∀ n, n = min (b.length - p) m → [SV.int .i64 ((p + n : Nat) : Int)] = [SV.int .i64 ((p + resF (b.drop p) l m n : Nat) : Int)] := fun n h => by rw [resF_end (by omega)]
  intro k
  induction k with
  | zero =>
    intro n hk h1 h2
    refine sy_goK dx9 (vc_enL b w _ _ _ _) ?_
    rw [w0, w1, IntWalk.i64_in (((p + n : Nat) : Int) - (p : Nat)) (by omega)]
    refine bc_of (fun h => ⟨by decide, by decide, by decide, ?_⟩) (fun h => ⟨rfl, fin n (by omega)⟩)
    have h := of_decide_eq_true h
    rw [cond_true, decide_eq_false (by omega), bc_f]
    exact fin n (by omega)
  | succ k ih =>
    intro n hk h1 h2
    refine sy_goK dx9 (vc_enL b w _ _ _ _) ?_
    rw [w0, w1, IntWalk.i64_in (((p + n : Nat) : Int) - (p : Nat)) (by omega), IntWalk.i64_in (((p + n : Nat) : Int) + 1) (by omega)]
    refine bc_of (fun h => ⟨by decide, by decide, by decide, ?_⟩) (fun h => ⟨rfl, fin n (by have := of_decide_eq_false h; omega)⟩)
    have h := of_decide_eq_true h
    rw [cond_true]
    refine bc_of (fun h3 => ⟨by decide, by decide, by decide, bc_of (fun h4 => ?_) (fun h4 => ?_)⟩) (fun h3 => fin n (by have h3 : ¬ ((p + n : Nat) : Int) - (p : Nat) < (m : Int) := of_decide_eq_false h3; omega))
    · have h3 : ((p + n : Nat) : Int) - (p : Nat) < (m : Int) := of_decide_eq_true h3
      have h4 : (l : Int) ≤ ((p + n : Nat) : Int) - (p : Nat) := of_decide_eq_true h4
      rw [IntWalk.i64_in (((p + n : Nat) : Int) - 4) (by omega), IntWalk.i64_in (((p + n : Nat) : Int) - 3) (by omega), IntWalk.i64_in (((p + n : Nat) : Int) - 2) (by omega), IntWalk.i64_in (((p + n : Nat) : Int) - 1) (by omega)]
      have hs := sum4_eq (b := b.drop p) (n := n) (by omega) (by omega)
      have g : ∀ j : Nat, j ≤ 4 → 1 ≤ j → ∀ (hj : n - j < (b.drop p).length), gt (Sh.int .u8) b (((p + n : Nat) : Int) - (j : Nat)).toNat = (b.drop p)[n - j] := by
        intro j hj4 hj1 hj
        have e1 : (((p + n : Nat) : Int) - (j : Nat)).toNat = p + (n - j) := by omega
        rw [e1, List.getElem_drop]
        exact gtE (by omega)
      have bd : ∀ j : Nat, ∀ (hj : n - j < (b.drop p).length), 0 ≤ (b.drop p)[n - j] ∧ (b.drop p)[n - j] < 256 := fun j hj => bytes_drop hb2 p _ (List.getElem_mem hj)
      have g4 := g 4 (by omega) (by omega) (by omega)
      have g3 := g 3 (by omega) (by omega) (by omega)
      have g2 := g 2 (by omega) (by omega) (by omega)
      have g1 := g 1 (by omega) (by omega) (by omega)
      have b4 := bd 4 (by omega)
      have b3 := bd 3 (by omega)
      have b2 := bd 2 (by omega)
      have b1 := bd 1 (by omega)
      rw [show (((4 : Nat) : Int)) = 4 from rfl] at g4
      rw [show (((3 : Nat) : Int)) = 3 from rfl] at g3
      rw [show (((2 : Nat) : Int)) = 2 from rfl] at g2
      rw [show (((1 : Nat) : Int)) = 1 from rfl] at g1
      rw [g4, g3, g2, g1]
      generalize hx4 : (b.drop p)[n - 4]'(by omega) = x4 at *
      generalize hx3 : (b.drop p)[n - 3]'(by omega) = x3 at *
      generalize hx2 : (b.drop p)[n - 2]'(by omega) = x2 at *
      generalize hx1 : (b.drop p)[n - 1]'(by omega) = x1 at *
      rw [IntWalk.i64_in x4 (by omega), IntWalk.i64_in x3 (by omega), IntWalk.i64_in x2 (by omega), IntWalk.i64_in x1 (by omega), IntWalk.i64_in (x4 + x3) (by omega), IntWalk.i64_in (x4 + x3 + x2) (by omega), IntWalk.i64_in (x4 + x3 + x2 + x1) (by omega), ← hs, cond_true]
      refine ⟨by omega, by omega, by omega, by omega, by omega, by omega, by omega, by omega, by decide, bc_of (fun hc => ?_) (fun hc => ?_)⟩
      · have hc : isCut (b.drop p) n = true := hc
        rw [resF_at (by omega) (by omega), if_pos hc]
      · have hc : isCut (b.drop p) n = false := hc
        rw [resF_at (by omega) (by omega), if_neg (by rw [hc]; decide)]
        exact ih (n + 1) (by omega) (by omega) (by omega)
    · have h3 : ((p + n : Nat) : Int) - (p : Nat) < (m : Int) := of_decide_eq_true h3
      have h4 : ¬ (l : Int) ≤ ((p + n : Nat) : Int) - (p : Nat) := of_decide_eq_false h4
      rw [resF_skip (by omega) (by omega)]
      exact ⟨rfl, ih (n + 1) (by omega) (by omega) (by omega)⟩
theorem en_run (b : List Int) (p : Int) (w : List Int) (hp : preEn b p w) : sy tt G0 D9 Try.f29.ntmps Try.f29.results.toList (QC ctEn (b, p, w, ())) (Px.Good Try.prog tt G0 29 Try.f29.ntmps Try.f29.results.toList (QC ctEn (b, p, w, ()))) 1000 [.code (bodyOf Try.f29)] (entry [slB, iI, paS] (b, p, w, ())) := by
  rw [vc_en]
  obtain ⟨⟨h1, h2⟩, hb, hl⟩ := hp
  have hlim : 4 ≤ (pr2 w).1 ∧ (pr2 w).1 ≤ (pr2 w).2 ∧ (pr2 w).2 ≤ 4096 := of_decide_eq_true hl
  obtain ⟨p, rfl⟩ := Int.eq_ofNat_of_zero_le h1
  have hb1 := hb.1
  rw [IntWalk.i64_in ((p : Int) + 1) (by omega)]
  have k := en_loop (w := w) (p := p) (l := (pr2 w).1.toNat) (m := (pr2 w).2.toNat) hb (by omega) ⟨by omega, by omega⟩ (by omega) _ 1 (Nat.le_refl _) (by omega) (by omega)
  refine (k.post fun rs blk hq => QC.flat ?_ rfl (by rw [hq]; rfl)).only ⟨rfl, rfl, rfl, rfl, trivial⟩ ⟨rfl, trivial⟩
  rw [hq, resF, if_pos (by omega)]
  show [SV.int .i64 (endV b p w)] = _
  rw [endV, Int.toNat_natCast, Int.natCast_add]
theorem en_held : Held Try.prog G0 29 ctEn := Held.run dx9 (fn := Try.f29) rfl rfl ⟨by decide, by decide⟩ fun x hp => en_run x.1 x.2.1 x.2.2.1 hp
def prePi (b : List Int) (r : Int × Int) : Prop := 0 ≤ r.1 ∧ r.1 ≤ r.2 ∧ r.2 ≤ b.length
def ctPi : Ctr := ⟨[slB, rgS], fun x => prePi x.1 x.2.1, fun x => [.sl (.int .u8) (Px.part x.1 (some (x.2.1 : Int × Int).1) (some (x.2.1 : Int × Int).2))], fun _ => []⟩
theorem pi_run (b : List Int) (r : Int × Int) (hp : prePi b r) (R : List Item → PS → Prop) : sy tt G0 [] Try.f24.ntmps Try.f24.results.toList (QC ctPi (b, r, ())) R 1000 [.code (bodyOf Try.f24)] (entry [slB, rgS] (b, r, ())) := by
  rw [vc_piece]
  exact ⟨hp.1, hp.2.1, hp.2.2, QC.flat rfl rfl rfl⟩
theorem pi_held : Held Try.prog G0 24 ctPi := Held.run cx0 (fn := Try.f24) rfl rfl ⟨by decide, by decide⟩ fun x hp => pi_run x.1 x.2.1 hp _
abbrev D11 : CV := (29, .inl ctEn) :: (24, .inl ctPi) :: D9
theorem dx11 : CxOK Try.prog tt G0 D11 := (dx9.cons pi_held (fn := Try.f24) rfl rfl rfl).cons en_held (fn := Try.f29) rfl rfl rfl
end Go.Proofs.Ytpdhohkamhmjkaa
namespace Go.Proofs.Ytpdhohkamhmjkaa
open Go.Px Go.Ax
set_option maxRecDepth 100000
theorem vc_rb (b w : List Int) (Q : List SV → List (Nat × LB) → Prop) (R : List Item → PS → Prop) : sy tt G0 D11 Try.f15.ntmps Try.f15.results.toList Q R 1000 [.code (bodyOf Try.f15)] (entry [.sl (.int .u8), .arr 2 (.int .i64)] (b, w, ())) =
    (ctRefLim.pre (w, ()) ∧
 bc (!limR (pr2 w).fst (pr2 w).snd)
 (Q [SV.nils, SV.int IntKind.i64 (1 : Int)] [((3 : Nat), LB.var [SV.arr (2 : Nat) (Sh.int IntKind.i64) w])])
 (R (hd Try.f15 (0 : Nat))
 {
 env :=
 [((0 : Nat), SV.sl (Sh.int IntKind.u8) b), ((1 : Nat), SV.arr (2 : Nat) (Sh.int IntKind.i64) w),
 ((3 : Nat), SV.ptr (3 : Nat) (0 : Nat)), ((4 : Nat), SV.nils), ((5 : Nat), SV.int IntKind.i64 (0 : Int)),
 ((6 : Nat), SV.win true ((Sh.int IntKind.i64).pair (Sh.int IntKind.i64)) (12 : Nat) (0 : Nat) (0 : Nat)),
 ((7 : Nat), SV.int IntKind.i64 (0 : Int)), ((9 : Nat), SV.arr (2 : Nat) (Sh.int IntKind.i64) w),
 ((10 : Nat), SV.bool (limR (pr2 w).fst (pr2 w).snd)), ((11 : Nat), SV.bool !limR (pr2 w).fst (pr2 w).snd),
 ((12 : Nat), SV.win true ((Sh.int IntKind.i64).pair (Sh.int IntKind.i64)) (12 : Nat) (0 : Nat) (0 : Nat))],
 blk :=
 [((3 : Nat), LB.var [SV.arr (2 : Nat) (Sh.int IntKind.i64) w]),
 ((12 : Nat),
 LB.row (48 : Nat) ((Sh.int IntKind.i64).pair (Sh.int IntKind.i64))
 (List.replicate (0 : Nat) ((Sh.int IntKind.i64).pair (Sh.int IntKind.i64)).dflt))] })) := by kernel_rfl
theorem vc_rbL (b w : List Int) (o : List (Int × Int)) (p : Int) (Q : List SV → List (Nat × LB) → Prop) (R : List Item → PS → Prop) : sy tt G0 D11 Try.f15.ntmps Try.f15.results.toList Q R 1000 (hd Try.f15 0) ⟨[(0, .sl (.int .u8) b), (3, .ptr 3 0), (6, .win true (.pair (.int .i64) (.int .i64)) 12 0 o.length), (7, .int .i64 p)], [(3, .var [.arr 2 (.int .i64) w]), (12, .row 48 (.pair (.int .i64) (.int .i64)) o)]⟩ =
    (bc (decide (p < (↑b.length : Int)))
 (ctEn.pre (b, p, w, ()) ∧
 (0 : Nat) + (1 : Nat) ≤
 ((List.replicate (1 : Nat) ((Sh.int IntKind.i64).pair (Sh.int IntKind.i64)).dflt).set (0 : Nat)
 (p, endV b p w)).length ∧
 o.length = o.length ∧
 (0 : Nat) = (0 : Nat) ∧
 o.length +
 (winL
 ((fun self => self.6)
 (mkT (2 : Nat) (16 : Nat) true (TK.struct [((0 : Nat), (3 : TypeId)), ((1 : Nat), (3 : TypeId))])
 ((Sh.int IntKind.i64).pair (Sh.int IntKind.i64)) (some IntKind.i64)))
 (0 : Nat) (1 : Nat)
 ((List.replicate (1 : Nat) ((Sh.int IntKind.i64).pair (Sh.int IntKind.i64)).dflt).set (0 : Nat)
 (p, endV b p w))).length <
 (2 : Nat) ^ (30 : Nat) ∧
 (16 : Nat) ≤ (2 : Nat) ^ (10 : Nat) ∧
 R (hd Try.f15 (0 : Nat))
 {
 env :=
 [((0 : Nat), SV.sl (Sh.int IntKind.u8) b), ((3 : Nat), SV.ptr (3 : Nat) (0 : Nat)),
 ((6 : Nat),
 SV.win true ((Sh.int IntKind.i64).pair (Sh.int IntKind.i64)) (26 : Nat) (0 : Nat)
 (o.length +
 (winL
 ((fun self => self.6)
 (mkT (2 : Nat) (16 : Nat) true
 (TK.struct [((0 : Nat), (3 : TypeId)), ((1 : Nat), (3 : TypeId))])
 ((Sh.int IntKind.i64).pair (Sh.int IntKind.i64)) (some IntKind.i64)))
 (0 : Nat) (1 : Nat)
 ((List.replicate (1 : Nat) ((Sh.int IntKind.i64).pair (Sh.int IntKind.i64)).dflt).set
 (0 : Nat) (p, endV b p w))).length)),
 ((7 : Nat), SV.int IntKind.i64 (endV b p w)), ((8 : Nat), SV.int IntKind.i64 (endV b p w)),
 ((13 : Nat), SV.int IntKind.i64 p), ((14 : Nat), SV.sl (Sh.int IntKind.u8) b),
 ((15 : Nat), SV.int IntKind.i64 (↑b.length : Int)),
 ((16 : Nat), SV.bool (decide (p < (↑b.length : Int)))), ((17 : Nat), SV.sl (Sh.int IntKind.u8) b),
 ((18 : Nat), SV.int IntKind.i64 p), ((19 : Nat), SV.arr (2 : Nat) (Sh.int IntKind.i64) w),
 ((20 : Nat), SV.int IntKind.i64 (endV b p w)), ((21 : Nat), SV.dead),
 ((22 : Nat), SV.int IntKind.i64 p), ((23 : Nat), SV.int IntKind.i64 (endV b p w)),
 ((24 : Nat), SV.agg [SV.int IntKind.i64 p, SV.int IntKind.i64 (endV b p w)]),
 ((25 : Nat),
 SV.win true ((Sh.int IntKind.i64).pair (Sh.int IntKind.i64)) (25 : Nat) (0 : Nat) (1 : Nat)),
 ((26 : Nat),
 SV.win true ((Sh.int IntKind.i64).pair (Sh.int IntKind.i64)) (26 : Nat) (0 : Nat)
 (o.length +
 (winL
 ((fun self => self.6)
 (mkT (2 : Nat) (16 : Nat) true
 (TK.struct [((0 : Nat), (3 : TypeId)), ((1 : Nat), (3 : TypeId))])
 ((Sh.int IntKind.i64).pair (Sh.int IntKind.i64)) (some IntKind.i64)))
 (0 : Nat) (1 : Nat)
 ((List.replicate (1 : Nat) ((Sh.int IntKind.i64).pair (Sh.int IntKind.i64)).dflt).set
 (0 : Nat) (p, endV b p w))).length)),
 ((27 : Nat), SV.int IntKind.i64 (endV b p w))],
 blk :=
 [((3 : Nat), LB.var [SV.arr (2 : Nat) (Sh.int IntKind.i64) w]),
 ((25 : Nat),
 LB.row (48 : Nat) ((Sh.int IntKind.i64).pair (Sh.int IntKind.i64))
 ((List.replicate (1 : Nat) ((Sh.int IntKind.i64).pair (Sh.int IntKind.i64)).dflt).set
 (0 : Nat) (p, endV b p w))),
 ((26 : Nat),
 LB.row (48 : Nat) ((Sh.int IntKind.i64).pair (Sh.int IntKind.i64))
 (o ++
 winL ((Sh.int IntKind.i64).pair (Sh.int IntKind.i64)) (0 : Nat) (1 : Nat)
 ((List.replicate (1 : Nat) ((Sh.int IntKind.i64).pair (Sh.int IntKind.i64)).dflt).set
 (0 : Nat) (p, endV b p w))))] })
 (Q
 [SV.win true ((Sh.int IntKind.i64).pair (Sh.int IntKind.i64)) (12 : Nat) (0 : Nat) o.length,
 SV.int IntKind.i64 (0 : Int)]
 [((3 : Nat), LB.var [SV.arr (2 : Nat) (Sh.int IntKind.i64) w]),
 ((12 : Nat), LB.row (48 : Nat) ((Sh.int IntKind.i64).pair (Sh.int IntKind.i64)) o)])) := by kernel_rfl
end Go.Proofs.Ytpdhohkamhmjkaa
namespace Go.Proofs.Ytpdhohkamhmjkaa
open Go.Px Go.Ax
attribute [local irreducible] Go.Px.sy Go.Px.syE
def ctRb : Ctr := ⟨[slB, paS], fun x => preT x.1, fun x => [.win true rgS 0 0 (List.length (blkO x.1 (pr2 x.2.1).1 (pr2 x.2.1).2)), .int .i64 (errO (pr2 x.2.1).1 (pr2 x.2.1).2)], fun x => [.row 48 rgS (blkO x.1 (pr2 x.2.1).1 (pr2 x.2.1).2)]⟩
theorem rb_loop {b w : List Int} {l m : Nat} (hb : preT b) (hl : limR (pr2 w).1 (pr2 w).2 = true) (hw : (pr2 w).1 = (l : Int) ∧ (pr2 w).2 = (m : Int)) (hlm : 4 ≤ l ∧ l ≤ m ∧ m ≤ 4096) : ∀ (k p : Nat) (o : List (Int × Int)), b.length - p ≤ k → p ≤ b.length → o.length ≤ p → o ++ blksF b l m k p = blks b l m →
    GD 15 Try.f15 (QC ctRb (b, w, ())) (hd Try.f15 0) ⟨[(0, .sl (.int .u8) b), (3, .ptr 3 0), (6, .win true rgS 12 0 o.length), (7, .int .i64 (p : Nat))], [(3, .var [.arr 2 (.int .i64) w]), (12, .row 48 rgS o)]⟩ := by
  have hb1 := hb.1
  have he : errO (pr2 w).1 (pr2 w).2 = 0 := by rw [errO, hl]; rfl
  have hO : blkO b (pr2 w).1 (pr2 w).2 = blks b l m := by rw [blkO, hl, hw.1, hw.2]; rfl
  have fin : ∀ (p k : Nat) (o : List (Int × Int)), ¬ p < b.length → o ++ blksF b l m k p = blks b l m → QC ctRb (b, w, ()) [.win true rgS 12 0 o.length, .int .i64 0] [(3, .var [.arr 2 (.int .i64) w]), (12, .row 48 rgS o)] := by
    intro p k o hp h
    have e : blksF b l m k p = [] := by
      cases k with
      | zero => rfl
      | succ k => rw [blksF, if_neg hp]
    rw [e, List.append_nil] at h
    refine QC.row1 (e := rgS) (et := 48) (xs := o) (n := 0) ?_ ?_ rfl rfl rfl
    · show [SV.win true rgS 0 0 (blkO b (pr2 w).1 (pr2 w).2).length, SV.int .i64 (errO (pr2 w).1 (pr2 w).2)] = _
      rw [he, hO, h]
    · show [LB.row 48 rgS (blkO b (pr2 w).1 (pr2 w).2)] = _
      rw [hO, h]
  intro k
  induction k with
  | zero =>
    intro p o hk hp ho h
    refine sy_go dx11 (vc_rbL b w o p _ _) ?_
    rw [decide_eq_false (by omega), bc_f]
    exact fin p 0 o (by omega) h
  | succ k ih =>
    intro p o hk hp ho h
    refine sy_go dx11 (vc_rbL b w o p _ _) ?_
    by_cases hlt : p < b.length
    · have hdl : (b.drop p).length = b.length - p := List.length_drop
      have hf := firstLen_bd (b := b.drop p) (l := l) (m := m) (by omega) (by omega)
      have ev : endV b p w = ((p + firstLen (b.drop p) l m : Nat) : Int) := by
        rw [endV, hw.1, hw.2]; simp only [Int.toNat_natCast]; omega
      rw [decide_eq_true (show (p : Int) < (b.length : Int) by omega), bc_t, ev]
      refine ⟨(show preEn b p w from ⟨⟨by omega, by omega⟩, hb, hl⟩), Nat.le_refl _, rfl, rfl, ?_, by decide, ?_⟩
      · show o.length + 1 < 2 ^ 30
        omega
      · rw [blksF, if_pos hlt] at h
        have k2 := ih (p + firstLen (b.drop p) l m) (o ++ [((p : Int), ((p + firstLen (b.drop p) l m : Nat) : Int))]) (by omega) (by omega) (by rw [List.length_append, List.length_singleton]; omega) (by rw [List.append_assoc]; exact h)
        refine Good.onlyR k2 [(12, 26)] rfl ⟨rfl, rfl, ?_, rfl, trivial⟩ ⟨rfl, rfl, trivial⟩
        show some (SV.win true rgS 26 0 (o.length + 1)) = some (SV.win true rgS 26 0 (o ++ [((p : Int), ((p + firstLen (b.drop p) l m : Nat) : Int))]).length)
        rw [List.length_append, List.length_singleton]
    · rw [decide_eq_false (by omega), bc_f]
      exact fin p _ o hlt h
theorem rb_run (b w : List Int) (hp : preT b) : sy tt G0 D11 Try.f15.ntmps Try.f15.results.toList (QC ctRb (b, w, ())) (Px.Good Try.prog tt G0 15 Try.f15.ntmps Try.f15.results.toList (QC ctRb (b, w, ()))) 1000 [.code (bodyOf Try.f15)] (entry [slB, paS] (b, w, ())) := by
  rw [vc_rb]
  refine ⟨trivial, bc_of (fun h => ?_) (fun h => ?_)⟩
  · have h : limR (pr2 w).1 (pr2 w).2 = false := by simpa using h
    have e1 : blkO b (pr2 w).1 (pr2 w).2 = [] := by rw [blkO, h]; rfl
    have e2 : errO (pr2 w).1 (pr2 w).2 = 1 := by rw [errO, h]; rfl
    refine QC.nil1 (e := rgS) (et := 48) ?_ ?_ (by decide)
    · show [SV.win true rgS 0 0 (blkO b (pr2 w).1 (pr2 w).2).length, SV.int .i64 (errO (pr2 w).1 (pr2 w).2)] = _
      rw [e1, e2]; rfl
    · show [LB.row 48 rgS (blkO b (pr2 w).1 (pr2 w).2)] = _
      rw [e1]
  · have h : limR (pr2 w).1 (pr2 w).2 = true := by simpa using h
    have hlim : 4 ≤ (pr2 w).1 ∧ (pr2 w).1 ≤ (pr2 w).2 ∧ (pr2 w).2 ≤ 4096 := of_decide_eq_true h
    exact (rb_loop (l := (pr2 w).1.toNat) (m := (pr2 w).2.toNat) hp h ⟨by omega, by omega⟩ (by omega) b.length 0 [] (by omega) (Nat.zero_le _) (Nat.le_refl _) rfl).only ⟨rfl, rfl, rfl, rfl, trivial⟩ ⟨rfl, rfl, trivial⟩
theorem rb_held : Held Try.prog G0 15 ctRb := Held.run dx11 (fn := Try.f15) rfl rfl ⟨by decide, by decide⟩ fun x hp => rb_run x.1 x.2.1 hp
abbrev D12 : CV := (15, .inl ctRb) :: D11
theorem dx12 : CxOK Try.prog tt G0 D12 := dx11.cons rb_held (fn := Try.f15) rfl rfl rfl
end Go.Proofs.Ytpdhohkamhmjkaa
namespace Go.Proofs.Ytpdhohkamhmjkaa
open Go.Px Go.Ax
set_option maxRecDepth 100000
theorem vc_rc (b w : List Int) (Q : List SV → List (Nat × LB) → Prop) (R : List Item → PS → Prop) : sy tt G0 D12 Try.f13.ntmps Try.f13.results.toList Q R 1000 [.code (bodyOf Try.f13)] (entry [.sl (.int .u8), .arr 2 (.int .i64)] (b, w, ())) =
    (ctRb.pre (b, w, ()) ∧
 R (hd Try.f13 (0 : Nat))
 {
 env :=
 [((0 : Nat), SV.sl (Sh.int IntKind.u8) b), ((1 : Nat), SV.arr (2 : Nat) (Sh.int IntKind.i64) w),
 ((3 : Nat), SV.ptr (3 : Nat) (0 : Nat)), ((4 : Nat), SV.nils), ((5 : Nat), SV.int IntKind.i64 (0 : Int)),
 ((6 : Nat),
 SV.win true ((Sh.int IntKind.i64).pair (Sh.int IntKind.i64)) (1053248 : Nat) (0 : Nat)
 (blkO b (pr2 w).fst (pr2 w).snd).length),
 ((7 : Nat), SV.int IntKind.i64 (errO (pr2 w).fst (pr2 w).snd)),
 ((8 : Nat), SV.win true (Sh.int IntKind.i64) (16 : Nat) (0 : Nat) (0 : Nat)),
 ((9 : Nat), SV.int IntKind.i64 (0 : Int)),
 ((10 : Nat),
 SV.tup
 [SV.win true ((Sh.int IntKind.i64).pair (Sh.int IntKind.i64)) (1053248 : Nat) (0 : Nat)
 (blkO b (pr2 w).fst (pr2 w).snd).length,
 SV.int IntKind.i64 (errO (pr2 w).fst (pr2 w).snd)]),
 ((11 : Nat), SV.sl (Sh.int IntKind.u8) b), ((12 : Nat), SV.arr (2 : Nat) (Sh.int IntKind.i64) w),
 ((13 : Nat),
 SV.tup
 [SV.win true ((Sh.int IntKind.i64).pair (Sh.int IntKind.i64)) (1053248 : Nat) (0 : Nat)
 (blkO b (pr2 w).fst (pr2 w).snd).length,
 SV.int IntKind.i64 (errO (pr2 w).fst (pr2 w).snd)]),
 ((14 : Nat),
 SV.win true ((Sh.int IntKind.i64).pair (Sh.int IntKind.i64)) (1053248 : Nat) (0 : Nat)
 (blkO b (pr2 w).fst (pr2 w).snd).length),
 ((15 : Nat), SV.int IntKind.i64 (errO (pr2 w).fst (pr2 w).snd)),
 ((16 : Nat), SV.win true (Sh.int IntKind.i64) (16 : Nat) (0 : Nat) (0 : Nat))],
 blk :=
 [((3 : Nat), LB.var [SV.arr (2 : Nat) (Sh.int IntKind.i64) w]),
 ((16 : Nat), LB.row (3 : Nat) (Sh.int IntKind.i64) (List.replicate (0 : Nat) (Sh.int IntKind.i64).dflt)),
 ((1053248 : Nat),
 LB.row (48 : Nat) ((Sh.int IntKind.i64).pair (Sh.int IntKind.i64)) (blkO b (pr2 w).fst (pr2 w).snd))] }) := by kernel_rfl
theorem vc_rcL (r : List (Int × Int)) (o : List Int) (i e : Int) (Q : List SV → List (Nat × LB) → Prop) (R : List Item → PS → Prop) : sy tt G0 D12 Try.f13.ntmps Try.f13.results.toList Q (fun it S => R it (keepS [6, 7, 8, 9, 31] [16, 1053248, 31] S)) 1000 (hd Try.f13 0) ⟨[(6, .win true (.pair (.int .i64) (.int .i64)) 1053248 0 r.length), (7, .int .i64 e), (8, .win true (.int .i64) 16 0 o.length), (9, .int .i64 i)], [(16, .row 3 (.int .i64) o), (1053248, .row 48 (.pair (.int .i64) (.int .i64)) r)]⟩ =
    (bc (decide (IntKind.i64.wrap (i + (1 : Int)) < (↑r.length : Int)))
 ((0 : Int) ≤ i ∧
 i < (↑r.length : Int) ∧
 (0 : Nat) + i.toNat < r.length ∧
 (0 : Nat) + (1 : Nat) ≤
 ((List.replicate (1 : Nat) (Sh.int IntKind.i64).dflt).set (0 : Nat)
 (gt ((Sh.int IntKind.i64).pair (Sh.int IntKind.i64)) r ((0 : Nat) + i.toNat)).snd).length ∧
 o.length = o.length ∧
 (0 : Nat) = (0 : Nat) ∧
 o.length +
 (winL
 ((fun self => self.6)
 (mkT (1 : Nat) (8 : Nat) false (TK.int IntKind.i64) (Sh.int IntKind.i64) none))
 (0 : Nat) (1 : Nat)
 ((List.replicate (1 : Nat) (Sh.int IntKind.i64).dflt).set (0 : Nat)
 (gt ((Sh.int IntKind.i64).pair (Sh.int IntKind.i64)) r ((0 : Nat) + i.toNat)).snd)).length <
 (2 : Nat) ^ (30 : Nat) ∧
 (8 : Nat) ≤ (2 : Nat) ^ (10 : Nat) ∧
 R (hd Try.f13 (0 : Nat))
 {
 env :=
 [((6 : Nat),
 SV.win true ((Sh.int IntKind.i64).pair (Sh.int IntKind.i64)) (1053248 : Nat) (0 : Nat)
 r.length),
 ((7 : Nat), SV.int IntKind.i64 e),
 ((8 : Nat),
 SV.win true (Sh.int IntKind.i64) (31 : Nat) (0 : Nat)
 (o.length +
 (winL
 ((fun self => self.6)
 (mkT (1 : Nat) (8 : Nat) false (TK.int IntKind.i64) (Sh.int IntKind.i64) none))
 (0 : Nat) (1 : Nat)
 ((List.replicate (1 : Nat) (Sh.int IntKind.i64).dflt).set (0 : Nat)
 (gt ((Sh.int IntKind.i64).pair (Sh.int IntKind.i64)) r
 ((0 : Nat) + i.toNat)).snd)).length)),
 ((9 : Nat), SV.int IntKind.i64 (IntKind.i64.wrap (i + (1 : Int)))),
 ((31 : Nat),
 SV.win true (Sh.int IntKind.i64) (31 : Nat) (0 : Nat)
 (o.length +
 (winL
 ((fun self => self.6)
 (mkT (1 : Nat) (8 : Nat) false (TK.int IntKind.i64) (Sh.int IntKind.i64) none))
 (0 : Nat) (1 : Nat)
 ((List.replicate (1 : Nat) (Sh.int IntKind.i64).dflt).set (0 : Nat)
 (gt ((Sh.int IntKind.i64).pair (Sh.int IntKind.i64)) r
 ((0 : Nat) + i.toNat)).snd)).length))],
 blk :=
 [((31 : Nat),
 LB.row (3 : Nat) (Sh.int IntKind.i64)
 (o ++
 winL (Sh.int IntKind.i64) (0 : Nat) (1 : Nat)
 ((List.replicate (1 : Nat) (Sh.int IntKind.i64).dflt).set (0 : Nat)
 (gt ((Sh.int IntKind.i64).pair (Sh.int IntKind.i64)) r
 ((0 : Nat) + i.toNat)).snd))),
 ((1053248 : Nat), LB.row (48 : Nat) ((Sh.int IntKind.i64).pair (Sh.int IntKind.i64)) r)] })
 (Q [SV.win true (Sh.int IntKind.i64) (16 : Nat) (0 : Nat) o.length, SV.int IntKind.i64 e]
 [((16 : Nat), LB.row (3 : Nat) (Sh.int IntKind.i64) o),
 ((1053248 : Nat), LB.row (48 : Nat) ((Sh.int IntKind.i64).pair (Sh.int IntKind.i64)) r)])) := by kernel_rfl
theorem vc_rm (x : List (List Int)) (w : List Int) (Q : List SV → List (Nat × LB) → Prop) (R : List Item → PS → Prop) : sy tt G0 D12 Try.f17.ntmps Try.f17.results.toList Q R 1000 [.code (bodyOf Try.f17)] (entry [.arr 2 (.sl (.int .u8)), .arr 2 (.int .i64)] (x, w, ())) =
    ((0 : Int) ≤ (0 : Int) ∧
 (0 : Int) < (↑(2 : Nat) : Int) ∧
 Int.toNat (0 : Int) < (2 : Nat) ∧
 ctRb.pre (gt (Sh.int IntKind.u8).sl x (Int.toNat (0 : Int)), w, ()) ∧
 (0 : Int) ≤ (1 : Int) ∧
 (1 : Int) < (↑(2 : Nat) : Int) ∧
 Int.toNat (1 : Int) < (2 : Nat) ∧
 ctRb.pre (gt (Sh.int IntKind.u8).sl x (Int.toNat (1 : Int)), w, ()) ∧
 R (hd Try.f17 (0 : Nat))
 {
 env :=
 [((0 : Nat), SV.arr (2 : Nat) (Sh.int IntKind.u8).sl x),
 ((1 : Nat), SV.arr (2 : Nat) (Sh.int IntKind.i64) w), ((2 : Nat), SV.ptr (2 : Nat) (0 : Nat)),
 ((3 : Nat), SV.ptr (3 : Nat) (0 : Nat)), ((4 : Nat), SV.nils),
 ((5 : Nat), SV.int IntKind.i64 (0 : Int)),
 ((6 : Nat),
 SV.win true ((Sh.int IntKind.i64).pair (Sh.int IntKind.i64)) (1069632 : Nat) (0 : Nat)
 (blkO (gt (Sh.int IntKind.u8).sl x (Int.toNat (0 : Int))) (pr2 w).fst (pr2 w).snd).length),
 ((7 : Nat), SV.int IntKind.i64 (errO (pr2 w).fst (pr2 w).snd)),
 ((8 : Nat),
 SV.win true ((Sh.int IntKind.i64).pair (Sh.int IntKind.i64)) (1098304 : Nat) (0 : Nat)
 (blkO (gt (Sh.int IntKind.u8).sl x (Int.toNat (1 : Int))) (pr2 w).fst (pr2 w).snd).length),
 ((9 : Nat), SV.int IntKind.i64 (errO (pr2 w).fst (pr2 w).snd)),
 ((10 : Nat),
 SV.win true (Sh.arr (2 : Nat) (Sh.int IntKind.i64)) (27 : Nat) (0 : Nat) (0 : Nat)),
 ((11 : Nat), SV.int IntKind.i64 (0 : Int)),
 ((13 : Nat),
 SV.tup
 [SV.win true ((Sh.int IntKind.i64).pair (Sh.int IntKind.i64)) (1069632 : Nat) (0 : Nat)
 (blkO (gt (Sh.int IntKind.u8).sl x (Int.toNat (0 : Int))) (pr2 w).fst
 (pr2 w).snd).length,
 SV.int IntKind.i64 (errO (pr2 w).fst (pr2 w).snd)]),
 ((14 : Nat), SV.aep (Sh.int IntKind.u8).sl (2 : Nat) (0 : Nat) (0 : Nat) (0 : Nat)),
 ((15 : Nat), SV.sl (Sh.int IntKind.u8) (gt (Sh.int IntKind.u8).sl x (Int.toNat (0 : Int)))),
 ((16 : Nat), SV.arr (2 : Nat) (Sh.int IntKind.i64) w),
 ((17 : Nat),
 SV.tup
 [SV.win true ((Sh.int IntKind.i64).pair (Sh.int IntKind.i64)) (1069632 : Nat) (0 : Nat)
 (blkO (gt (Sh.int IntKind.u8).sl x (Int.toNat (0 : Int))) (pr2 w).fst
 (pr2 w).snd).length,
 SV.int IntKind.i64 (errO (pr2 w).fst (pr2 w).snd)]),
 ((18 : Nat),
 SV.win true ((Sh.int IntKind.i64).pair (Sh.int IntKind.i64)) (1069632 : Nat) (0 : Nat)
 (blkO (gt (Sh.int IntKind.u8).sl x (Int.toNat (0 : Int))) (pr2 w).fst (pr2 w).snd).length),
 ((19 : Nat), SV.int IntKind.i64 (errO (pr2 w).fst (pr2 w).snd)),
 ((20 : Nat),
 SV.tup
 [SV.win true ((Sh.int IntKind.i64).pair (Sh.int IntKind.i64)) (1098304 : Nat) (0 : Nat)
 (blkO (gt (Sh.int IntKind.u8).sl x (Int.toNat (1 : Int))) (pr2 w).fst
 (pr2 w).snd).length,
 SV.int IntKind.i64 (errO (pr2 w).fst (pr2 w).snd)]),
 ((21 : Nat), SV.aep (Sh.int IntKind.u8).sl (2 : Nat) (0 : Nat) (1 : Nat) (0 : Nat)),
 ((22 : Nat), SV.sl (Sh.int IntKind.u8) (gt (Sh.int IntKind.u8).sl x (Int.toNat (1 : Int)))),
 ((23 : Nat), SV.arr (2 : Nat) (Sh.int IntKind.i64) w),
 ((24 : Nat),
 SV.tup
 [SV.win true ((Sh.int IntKind.i64).pair (Sh.int IntKind.i64)) (1098304 : Nat) (0 : Nat)
 (blkO (gt (Sh.int IntKind.u8).sl x (Int.toNat (1 : Int))) (pr2 w).fst
 (pr2 w).snd).length,
 SV.int IntKind.i64 (errO (pr2 w).fst (pr2 w).snd)]),
 ((25 : Nat),
 SV.win true ((Sh.int IntKind.i64).pair (Sh.int IntKind.i64)) (1098304 : Nat) (0 : Nat)
 (blkO (gt (Sh.int IntKind.u8).sl x (Int.toNat (1 : Int))) (pr2 w).fst (pr2 w).snd).length),
 ((26 : Nat), SV.int IntKind.i64 (errO (pr2 w).fst (pr2 w).snd)),
 ((27 : Nat),
 SV.win true (Sh.arr (2 : Nat) (Sh.int IntKind.i64)) (27 : Nat) (0 : Nat) (0 : Nat))],
 blk :=
 [((2 : Nat), LB.var [SV.arr (2 : Nat) (Sh.int IntKind.u8).sl x]),
 ((3 : Nat), LB.var [SV.arr (2 : Nat) (Sh.int IntKind.i64) w]),
 ((27 : Nat),
 LB.row (26 : Nat) (Sh.arr (2 : Nat) (Sh.int IntKind.i64))
 (List.replicate (0 : Nat) (Sh.arr (2 : Nat) (Sh.int IntKind.i64)).dflt)),
 ((1069632 : Nat),
 LB.row (48 : Nat) ((Sh.int IntKind.i64).pair (Sh.int IntKind.i64))
 (blkO (gt (Sh.int IntKind.u8).sl x (Int.toNat (0 : Int))) (pr2 w).fst (pr2 w).snd)),
 ((1098304 : Nat),
 LB.row (48 : Nat) ((Sh.int IntKind.i64).pair (Sh.int IntKind.i64))
 (blkO (gt (Sh.int IntKind.u8).sl x (Int.toNat (1 : Int))) (pr2 w).fst (pr2 w).snd))] }) := by kernel_rfl
end Go.Proofs.Ytpdhohkamhmjkaa
namespace Go.Proofs.Ytpdhohkamhmjkaa
open Go.Px Go.Ax
attribute [local irreducible] Go.Px.sy Go.Px.syE
def ctRc : Ctr := ⟨[slB, paS], fun x => preT x.1, fun x => [.win true iI 0 0 (List.length (cutO x.1 (pr2 x.2.1).1 (pr2 x.2.1).2)), .int .i64 (errO (pr2 x.2.1).1 (pr2 x.2.1).2)], fun x => [.row 3 iI (cutO x.1 (pr2 x.2.1).1 (pr2 x.2.1).2)]⟩
/-- The ends of the ranges but the last. -/
def endsL (r : List (Int × Int)) : List Int := (r.take (r.length - 1)).map (·.2)
theorem endsL_cons {r : Int × Int} {rs : List (Int × Int)} (h : rs ≠ []) : endsL (r :: rs) = r.2 :: endsL rs := by
  cases rs with
  | nil => exact absurd rfl h
  | cons s rs => rfl
theorem blksF_ne {b : List Int} {l m : Nat} {k p : Nat} (hk : b.length - p ≤ k) (hp : p < b.length) : blksF b l m k p ≠ [] := by
  cases k with
  | zero => omega
  | succ k => rw [blksF, if_pos hp]; simp
theorem cuts_ends (b : List Int) {l m : Nat} (h : 4 ≤ l ∧ l ≤ m) : ∀ k p, b.length - p ≤ k → cutsL b.length (blksF b l m k p) = endsL (blksF b l m k p)
  | 0, _, _ => rfl
  | k + 1, p, hk => by
    rw [blksF]
    by_cases hp : p < b.length
    · have hf := firstLen_bd (b := b.drop p) h (by rw [List.length_drop]; omega)
      rw [List.length_drop] at hf
      rw [if_pos hp, cutsL]
      by_cases he : p + firstLen (b.drop p) l m = b.length
      · rw [if_pos (show ((p + firstLen (b.drop p) l m : Nat) : Int) = b.length by omega)]
        have : blksF b l m k (p + firstLen (b.drop p) l m) = [] := by
          cases k with
          | zero => rfl
          | succ k => rw [blksF, if_neg (by omega)]
        rw [this]; rfl
      · rw [if_neg (show ¬ ((p + firstLen (b.drop p) l m : Nat) : Int) = b.length by omega), endsL_cons (blksF_ne (by omega) (by omega)), cuts_ends b h k _ (by omega)]
    · rw [if_neg hp]; rfl
theorem cutO_eq (b : List Int) (l m : Int) : cutO b l m = endsL (blkO b l m) := by
  unfold cutO blkO
  cases hl : limR l m with
  | false => rfl
  | true =>
    have hlim : 4 ≤ l ∧ l ≤ m ∧ m ≤ 4096 := of_decide_eq_true hl
    rw [if_pos rfl]
    exact cuts_ends b (by omega) _ _ (by omega)
theorem rc_loop {b w : List Int} (hb : preT b) : ∀ (k i : Nat) (o : List Int), (blkO b (pr2 w).1 (pr2 w).2).length - 1 - i ≤ k → i ≤ (blkO b (pr2 w).1 (pr2 w).2).length - 1 → o = ((blkO b (pr2 w).1 (pr2 w).2).take i).map (·.2) →
    GD 13 Try.f13 (QC ctRc (b, w, ())) (hd Try.f13 0) ⟨[(6, .win true rgS 1053248 0 (blkO b (pr2 w).1 (pr2 w).2).length), (7, .int .i64 (errO (pr2 w).1 (pr2 w).2)), (8, .win true iI 16 0 o.length), (9, .int .i64 (i : Nat))], [(16, .row 3 iI o), (1053248, .row 48 rgS (blkO b (pr2 w).1 (pr2 w).2))]⟩ := by
  have hlen : (blkO b (pr2 w).1 (pr2 w).2).length ≤ b.length := by
    unfold blkO
    cases hl : limR (pr2 w).1 (pr2 w).2 with
    | false => exact Nat.zero_le _
    | true =>
      have hlim : 4 ≤ (pr2 w).1 ∧ (pr2 w).1 ≤ (pr2 w).2 ∧ (pr2 w).2 ≤ 4096 := of_decide_eq_true hl
      exact blksF_len b _ _ (by omega) _ _
  have hb1 := hb.1
  generalize hr : blkO b (pr2 w).1 (pr2 w).2 = r at *
  have fin : ∀ (i : Nat) (o : List Int), ¬ i + 1 < r.length → i ≤ r.length - 1 → o = (r.take i).map (·.2) → QC ctRc (b, w, ()) [.win true iI 16 0 o.length, .int .i64 (errO (pr2 w).1 (pr2 w).2)] [(16, .row 3 iI o), (1053248, .row 48 rgS r)] := by
    intro i o h1 h2 h
    have e : o = cutO b (pr2 w).1 (pr2 w).2 := by rw [h, cutO_eq, hr, endsL, show i = r.length - 1 by omega]
    subst e
    exact QC.row1 (e := iI) (et := 3) (xs := cutO b (pr2 w).1 (pr2 w).2) (n := errO (pr2 w).1 (pr2 w).2) rfl rfl rfl rfl rfl
  intro k
  induction k with
  | zero =>
    intro i o hk hi ho
    refine sy_goK dx12 (vc_rcL r o i _ _ _) ?_
    rw [IntWalk.i64_in ((i : Int) + 1) (by omega), decide_eq_false (by omega), bc_f]
    exact fin i o (by omega) hi ho
  | succ k ih =>
    intro i o hk hi ho
    refine sy_goK dx12 (vc_rcL r o i _ _ _) ?_
    rw [IntWalk.i64_in ((i : Int) + 1) (by omega)]
    by_cases h : i + 1 < r.length
    · have hir : i < r.length := by omega
      have e1 : gt rgS r (0 + (i : Int).toNat) = r[i] := by rw [Nat.zero_add]; exact gtE hir
      have hol : o.length = i := by rw [ho, List.length_map, List.length_take]; omega
      rw [decide_eq_true (by omega), bc_t, e1]
      refine ⟨by omega, by omega, by omega, Nat.le_refl _, rfl, rfl, ?_, by decide, ?_⟩
      · show o.length + 1 < 2 ^ 30
        omega
      · have ho2 : o ++ [r[i].2] = (r.take (i + 1)).map (·.2) := by
          rw [ho, List.take_succ_eq_append_getElem hir, List.map_append]; rfl
        refine Good.onlyR (ih (i + 1) _ (by omega) (by omega) ho2) [(16, 31)] rfl ⟨rfl, rfl, ?_, rfl, trivial⟩ ⟨rfl, rfl, trivial⟩
        show some (SV.win true iI 31 0 (o.length + 1)) = some (SV.win true iI 31 0 (o ++ [r[i].2]).length)
        rw [List.length_append, List.length_singleton]
    · rw [decide_eq_false (by omega), bc_f]
      exact fin i o h hi ho
theorem rc_run (b w : List Int) (hp : preT b) : sy tt G0 D12 Try.f13.ntmps Try.f13.results.toList (QC ctRc (b, w, ())) (Px.Good Try.prog tt G0 13 Try.f13.ntmps Try.f13.results.toList (QC ctRc (b, w, ()))) 1000 [.code (bodyOf Try.f13)] (entry [slB, paS] (b, w, ())) := by
  rw [vc_rc]
  exact ⟨hp, (rc_loop hp _ 0 [] (Nat.le_refl _) (Nat.zero_le _) rfl).only ⟨rfl, rfl, rfl, rfl, trivial⟩ ⟨rfl, rfl, trivial⟩⟩
theorem rc_held : Held Try.prog G0 13 ctRc := Held.run dx12 (fn := Try.f13) rfl rfl ⟨by decide, by decide⟩ fun x hp => rc_run x.1 x.2.1 hp
end Go.Proofs.Ytpdhohkamhmjkaa
namespace Go.Proofs.Ytpdhohkamhmjkaa
open Go.Px Go.Ax
attribute [local irreducible] Go.Px.sy Go.Px.syE
/-- The ranges cover all without gaps, and have the right lengths. -/
def chn (n l m : Int) : Int → List (Int × Int) → Prop
  | p, [] => p = n
  | p, r :: rs => r.1 = p ∧ 1 ≤ r.2 - r.1 ∧ r.2 - r.1 ≤ m ∧ (rs ≠ [] → l ≤ r.2 - r.1) ∧ chn n l m r.2 rs
theorem firstLen_ge {c : List Int} {l m : Nat} (h : 4 ≤ l ∧ l ≤ m) (hc : firstLen c l m < c.length) : l ≤ firstLen c l m := by
  unfold firstLen at hc ⊢
  split
  · rename_i h1
    rw [if_pos h1] at hc
    omega
  · exact (scanB_bd _ _ _).1
theorem chn_blks (b : List Int) {l m : Nat} (h : 4 ≤ l ∧ l ≤ m) : ∀ k p, b.length - p ≤ k → p ≤ b.length → chn b.length l m p (blksF b l m k p)
  | 0, p, h1, h2 => by show (p : Int) = b.length; omega
  | k + 1, p, h1, h2 => by
    rw [blksF]
    by_cases hp : p < b.length
    · have hdl : (b.drop p).length = b.length - p := List.length_drop
      have hf := firstLen_bd (b := b.drop p) h (by omega)
      rw [if_pos hp]
      refine ⟨rfl, ?_, ?_, fun hne => ?_, chn_blks b h k _ (by omega) (by omega)⟩
      · show (1 : Int) ≤ ((p + firstLen (b.drop p) l m : Nat) : Int) - (p : Nat)
        omega
      · show ((p + firstLen (b.drop p) l m : Nat) : Int) - (p : Nat) ≤ (m : Int)
        omega
      · show (l : Int) ≤ ((p + firstLen (b.drop p) l m : Nat) : Int) - (p : Nat)
        by_cases hq : p + firstLen (b.drop p) l m < b.length
        · have := firstLen_ge h (c := b.drop p) (by omega)
          omega
        · exfalso
          apply hne
          cases k with
          | zero => rfl
          | succ k => rw [blksF, if_neg hq]
    · rw [if_neg hp]
      show (p : Int) = b.length
      omega
theorem endsL_len (r : List (Int × Int)) : (endsL r).length = r.length - 1 := by
  unfold endsL
  rw [List.length_map, List.length_take]; omega
theorem endsL_at {r : List (Int × Int)} {i : Nat} (h : i + 1 < r.length) : ∃ hi : i < (endsL r).length, (endsL r)[i] = r[i].2 := by
  refine ⟨by rw [endsL_len]; omega, ?_⟩
  simp only [endsL, List.getElem_map, List.getElem_take]
theorem l4_loop {b w : List Int} {r : List (Int × Int)} (hw : 4 ≤ (pr2 w).1 ∧ (pr2 w).2 ≤ 4096) (hr : r.length < 1048576) : ∀ (k i : Nat) (p : Int), r.length - i ≤ k → i ≤ r.length → 0 ≤ p → chn b.length (pr2 w).1 (pr2 w).2 p (r.drop i) → (∀ q ∈ r, 0 ≤ q.1 ∧ q.2 ≤ b.length) →
    GD 4 Try.f4 QT (hd Try.f4 0) ⟨[(0, .sl (.int .u8) b), (5, .bool true), (6, .ptr 6 0), (7, .win true rgS 1098304 0 r.length), (9, .win true iI 1135168 0 (endsL r).length), (11, .int .i64 p), (12, .int .i64 (i : Nat))], [(6, .var [.arr 2 (.int .i64) w]), (1098304, .row 48 rgS r), (1135168, .row 3 iI (endsL r))]⟩ := by
  have fin : ∀ (i : Nat) (p : Int), ¬ i < r.length → chn b.length (pr2 w).1 (pr2 w).2 p (r.drop i) → p = b.length := by
    intro i p h1 h2
    rw [List.drop_eq_nil_of_le (by omega)] at h2
    exact h2
  have g0 : gt (Sh.int .i64) w (Int.toNat 0) = (pr2 w).1 := rfl
  have g1 : gt (Sh.int .i64) w (Int.toNat 1) = (pr2 w).2 := rfl
  intro k
  induction k with
  | zero =>
    intro i p hk hi hp hc hq
    refine sy_goK dx9 (vc_l4L b w (endsL r) r p i _ _) ?_
    rw [decide_eq_false (by omega), bc_f, decide_eq_true (fin i p (by omega) hc), bc_t]
    rfl
  | succ k ih =>
    intro i p hk hi hp hc hq
    refine sy_goK dx9 (vc_l4L b w (endsL r) r p i _ _) ?_
    by_cases h : i < r.length
    · have e1 : gt rgS r (0 + (i : Int).toNat) = r[i] := by rw [Nat.zero_add]; exact gtE h
      have hqi := hq r[i] (List.getElem_mem h)
      rw [dropc h] at hc
      obtain ⟨c1, c2, c3, c4, c5⟩ := hc
      have k2 := ih (i + 1) r[i].2 (by omega) (by omega) (by omega) c5 hq
      rw [decide_eq_true (show (i : Int) < (r.length : Int) by omega), bc_t, e1, g0, g1, IntWalk.i64_in ((i : Int) + 1) (by omega), IntWalk.i64_in (r[i].2 - r[i].1) (by omega), c1]
      rw [decide_eq_false (fun q => q rfl), bc_f, cond_false, decide_eq_false (show ¬ r[i].2 - p < 1 by omega), bc_f, cond_false, decide_eq_false (show ¬ (pr2 w).2 < r[i].2 - p by omega), bc_f]
      have t1 : (0 : Int) ≤ i ∧ (i : Int) < (r.length : Int) ∧ 0 + (i : Int).toNat < r.length := ⟨by omega, by omega, by omega⟩
      refine ⟨t1.1, t1.2.1, t1.2.2, t1.1, t1.2.1, t1.2.2, t1.1, t1.2.1, t1.2.2, by decide, by decide, by decide, bc_of (fun hl => ⟨by decide, by decide, by decide, ?_⟩) (fun hl => ⟨rfl, t1.1, t1.2.1, t1.2.2, k2⟩)⟩
      have hl := of_decide_eq_true hl
      have hne : r.drop (i + 1) ≠ [] := by
        intro q
        have := congrArg List.length q
        rw [List.length_drop] at this
        simp at this
        omega
      have c4' := c4 hne
      obtain ⟨d1, d2⟩ := endsL_at (r := r) (i := i) (by omega)
      have e2 : gt (Sh.int .i64) (endsL r) (0 + (i : Int).toNat) = r[i].2 := by rw [Nat.zero_add, ← d2]; exact gtE d1
      rw [decide_eq_false (show ¬ r[i].2 - p < (pr2 w).1 by omega), bc_f, e2, cond_false, cond_true, cond_false, decide_eq_false (fun q => q rfl), bc_f]
      exact ⟨by omega, by omega, by omega, t1.1, t1.2.1, t1.2.2, t1.1, t1.2.1, t1.2.2, k2⟩
    · rw [decide_eq_false (by omega), bc_f, decide_eq_true (fin i p h hc), bc_t]
      rfl
def ctL4 : Ctr := ⟨[slB, .arr 2 (.int .u8)], fun x => bytesOK x.1 ∧ preMade x.2.1, fun _ => [.bool true], fun _ => []⟩
theorem l4_run (b w : List Int) (hp : bytesOK b) (hw : preMade w) : sy tt G0 D9 Try.f4.ntmps Try.f4.results.toList (QC ctL4 (b, w, ())) (Px.Good Try.prog tt G0 4 Try.f4.ntmps Try.f4.results.toList (QC ctL4 (b, w, ()))) 1000 [.code (bodyOf Try.f4)] (entry [slB, .arr 2 (.int .u8)] (b, w, ())) := by
  rw [vc_l4]
  have hl := made_lim hw
  have he : errO (pr2 (madeL w)).1 (pr2 (madeL w)).2 = 0 := by rw [errO, hl]; rfl
  refine ⟨trivial, hw, bc_of (fun h => QC.flat rfl rfl rfl) (fun h => ?_)⟩
  have h : ¬ (400 : Int) < b.length := of_decide_eq_false h
  have hb : preT b := ⟨by omega, hp⟩
  have g0 : gt (Sh.int .i64) (madeL w) (Int.toNat 0) = (pr2 (madeL w)).1 := rfl
  have g1 : gt (Sh.int .i64) (madeL w) (Int.toNat 1) = (pr2 (madeL w)).2 := rfl
  have hlim : 4 ≤ (pr2 (madeL w)).1 ∧ (pr2 (madeL w)).1 ≤ (pr2 (madeL w)).2 ∧ (pr2 (madeL w)).2 ≤ 4096 := of_decide_eq_true hl
  have hO : blkO b (pr2 (madeL w)).1 (pr2 (madeL w)).2 = blksF b (pr2 (madeL w)).1.toNat (pr2 (madeL w)).2.toNat b.length 0 := by rw [blkO, hl, if_pos rfl, blks]
  have hc := chn_blks b (l := (pr2 (madeL w)).1.toNat) (m := (pr2 (madeL w)).2.toNat) (by omega) b.length 0 (by omega) (Nat.zero_le _)
  rw [← hO, show (((pr2 (madeL w)).1.toNat : Nat) : Int) = (pr2 (madeL w)).1 by omega, show (((pr2 (madeL w)).2.toNat : Nat) : Int) = (pr2 (madeL w)).2 by omega] at hc
  have hin : ∀ q ∈ blkO b (pr2 (madeL w)).1 (pr2 (madeL w)).2, 0 ≤ q.1 ∧ q.2 ≤ b.length := fun q hq => by
    rw [hO] at hq
    have := blksF_in (b := b) (l := (pr2 (madeL w)).1.toNat) (m := (pr2 (madeL w)).2.toNat) (by omega) _ _ q hq
    omega
  have hlen : (blkO b (pr2 (madeL w)).1 (pr2 (madeL w)).2).length ≤ b.length := by rw [hO]; exact blksF_len b _ _ (by omega) _ _
  have hz : decide (((blkO b (pr2 (madeL w)).1 (pr2 (madeL w)).2).length : Int) = 0) = decide ((b.length : Int) = 0) := by
    rw [decide_eq_decide]
    constructor
    · intro q
      have : blkO b (pr2 (madeL w)).1 (pr2 (madeL w)).2 = [] := List.eq_nil_of_length_eq_zero (by omega)
      rw [this] at hc
      have hc : (0 : Int) = b.length := hc
      omega
    · intro q; omega
  refine ⟨hb, by decide, by decide, by decide, by decide, by decide, by decide, hb, ?_⟩
  rw [g0, g1, he, cutO_eq, endsL_len, hz]
  rw [decide_eq_false (show ¬ (0 : Int) ≠ 0 by simp), bc_f, cond_false, bc_f, cond_false, IntWalk.i64_in (((blkO b (pr2 (madeL w)).1 (pr2 (madeL w)).2).length : Int) - 1) (by omega), decide_eq_false (show ¬ (((blkO b (pr2 (madeL w)).1 (pr2 (madeL w)).2).length - 1 : Nat) : Int) ≠ max (((blkO b (pr2 (madeL w)).1 (pr2 (madeL w)).2).length : Int) - 1) 0 by omega), bc_f, cond_false, show (!decide ((b.length : Int) = 0) == decide ((b.length : Int) = 0)) = false by cases decide ((b.length : Int) = 0) <;> rfl, bc_f]
  exact ((l4_loop (r := blkO b (pr2 (madeL w)).1 (pr2 (madeL w)).2) ⟨by omega, by omega⟩ (by omega) _ 0 0 (Nat.le_refl _) (Nat.zero_le _) (Int.le_refl _) hc hin).post fun rs blk hq => QC.flat (by rw [hq]; rfl) rfl (by rw [hq]; rfl)).only ⟨rfl, rfl, rfl, rfl, by rw [endsL_len]; rfl, rfl, rfl, trivial⟩ ⟨rfl, rfl, rfl, trivial⟩
theorem l4_held : Held Try.prog G0 4 ctL4 := Held.run dx9 (fn := Try.f4) rfl rfl ⟨by decide, by decide⟩ fun x hp => l4_run x.1 x.2.1 hp.1 hp.2
end Go.Proofs.Ytpdhohkamhmjkaa
