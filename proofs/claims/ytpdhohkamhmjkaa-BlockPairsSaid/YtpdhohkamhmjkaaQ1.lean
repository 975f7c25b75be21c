/-
  A part of the proof: what pieces of the program give; conditions: those of each theorem.
-/
import Derived.Test.YtpdhohkamhmjkaaQ0
import Derived.Test.YtpdhohkamhmjkaaHD
import Derived.KernelRfl
set_option linter.unusedVariables false
namespace Go.Proofs.Ytpdhohkamhmjkaa
open Go.Px Go.Ax
set_option maxRecDepth 100000
theorem vc_lb (b w : List Int) (Q : List SV → List (Nat × LB) → Prop) (R : List Item → PS → Prop) : sy tt G0 D8 Try.f14.ntmps Try.f14.results.toList Q R 1000 [.code (bodyOf Try.f14)] (entry [.sl (.int .u8), .arr 2 (.int .i64)] (b, w, ())) =
    ((0 : Int) ≤ (0 : Int) ∧
 (0 : Int) < (↑(2 : Nat) : Int) ∧
 Int.toNat (0 : Int) < (2 : Nat) ∧
 (0 : Int) ≤ (1 : Int) ∧
 (1 : Int) < (↑(2 : Nat) : Int) ∧
 Int.toNat (1 : Int) < (2 : Nat) ∧
 ctBlk.pre
 (b, gt (Sh.int IntKind.i64) w (Int.toNat (0 : Int)), gt (Sh.int IntKind.i64) w (Int.toNat (1 : Int)),
 ()) ∧
 Q
 [SV.win true ((Sh.int IntKind.i64).pair (Sh.int IntKind.i64)) (1045056 : Nat) (0 : Nat)
 (blkO b (gt (Sh.int IntKind.i64) w (Int.toNat (0 : Int)))
 (gt (Sh.int IntKind.i64) w (Int.toNat (1 : Int)))).length,
 SV.int IntKind.i64
 (errO (gt (Sh.int IntKind.i64) w (Int.toNat (0 : Int)))
 (gt (Sh.int IntKind.i64) w (Int.toNat (1 : Int))))]
 [((3 : Nat), LB.var [SV.arr (2 : Nat) (Sh.int IntKind.i64) w]),
 ((1045056 : Nat),
 LB.row (48 : Nat) ((Sh.int IntKind.i64).pair (Sh.int IntKind.i64))
 (blkO b (gt (Sh.int IntKind.i64) w (Int.toNat (0 : Int)))
 (gt (Sh.int IntKind.i64) w (Int.toNat (1 : Int)))))]) := by kernel_rfl
theorem vc_san  (Q : List SV → List (Nat × LB) → Prop) (R : List Item → PS → Prop) : sy tt G0 D8 Try.f11.ntmps Try.f11.results.toList Q R 1000 [.code (bodyOf Try.f11)] (entry [] ()) =
    ((0 : Int) ≤ (10 : Int) ∧
 (10 : Int) ≤ (10 : Int) ∧
 (10 : Int) < (2 : Int) ^ (24 : Nat) ∧
 (↑(1 : Nat) : Int) * (10 : Int) ≤ (2 : Int) ^ (48 : Nat) ∧
 (0 : Nat) + Int.toNat (10 : Int) ≤ (List.replicate (Int.toNat (10 : Int)) (Sh.int IntKind.u8).dflt).length ∧
 ctCut.pre
 (winL (Sh.int IntKind.u8) (0 : Nat) (Int.toNat (10 : Int))
 (List.replicate (Int.toNat (10 : Int)) (Sh.int IntKind.u8).dflt),
 (4 : Int), (8 : Int), ()) ∧
 (0 : Nat) + (10 : Nat) ≤
 (((((((((((List.replicate (10 : Nat) (Sh.int IntKind.u8).dflt).set (0 : Nat) (1 : Int)).set (1 : Nat)
 (1 : Int)).set
 (2 : Nat) (1 : Int)).set
 (3 : Nat) (1 : Int)).set
 (4 : Nat) (1 : Int)).set
 (5 : Nat) (1 : Int)).set
 (6 : Nat) (1 : Int)).set
 (7 : Nat) (1 : Int)).set
 (8 : Nat) (1 : Int)).set
 (9 : Nat) (1 : Int)).length ∧
 ctCut.pre
 (winL (Sh.int IntKind.u8) (0 : Nat) (10 : Nat)
 (((((((((((List.replicate (10 : Nat) (Sh.int IntKind.u8).dflt).set (0 : Nat) (1 : Int)).set
 (1 : Nat) (1 : Int)).set
 (2 : Nat) (1 : Int)).set
 (3 : Nat) (1 : Int)).set
 (4 : Nat) (1 : Int)).set
 (5 : Nat) (1 : Int)).set
 (6 : Nat) (1 : Int)).set
 (7 : Nat) (1 : Int)).set
 (8 : Nat) (1 : Int)).set
 (9 : Nat) (1 : Int)),
 (4 : Int), (8 : Int), ()) ∧
 (0 : Nat) + (5 : Nat) ≤
 ((((((List.replicate (5 : Nat) (Sh.int IntKind.u8).dflt).set (0 : Nat) (1 : Int)).set (1 : Nat)
 (2 : Int)).set
 (2 : Nat) (3 : Int)).set
 (3 : Nat) (10 : Int)).set
 (4 : Nat) (9 : Int)).length ∧
 ctBlk.pre
 (winL (Sh.int IntKind.u8) (0 : Nat) (5 : Nat)
 ((((((List.replicate (5 : Nat) (Sh.int IntKind.u8).dflt).set (0 : Nat) (1 : Int)).set
 (1 : Nat) (2 : Int)).set
 (2 : Nat) (3 : Int)).set
 (3 : Nat) (10 : Int)).set
 (4 : Nat) (9 : Int)),
 (4 : Int), (8 : Int), ()) ∧
 (0 : Int) ≤ (4 : Int) ∧
 (4 : Int) ≤ (4 : Int) ∧
 (4 : Int) < (2 : Int) ^ (24 : Nat) ∧
 (↑(1 : Nat) : Int) * (4 : Int) ≤ (2 : Int) ^ (48 : Nat) ∧
 (0 : Int) ≤ (8 : Int) ∧
 (8 : Int) ≤ (8 : Int) ∧
 (8 : Int) < (2 : Int) ^ (24 : Nat) ∧
 (↑(1 : Nat) : Int) * (8 : Int) ≤ (2 : Int) ^ (48 : Nat) ∧
 (0 : Nat) + Int.toNat (4 : Int) ≤
 (List.replicate (Int.toNat (4 : Int)) (Sh.int IntKind.u8).dflt).length ∧
 (0 : Nat) + Int.toNat (8 : Int) ≤
 (List.replicate (Int.toNat (8 : Int)) (Sh.int IntKind.u8).dflt).length ∧
 ctMa.pre
 (winL (Sh.int IntKind.u8) (0 : Nat) (Int.toNat (4 : Int))
 (List.replicate (Int.toNat (4 : Int)) (Sh.int IntKind.u8).dflt),
 winL (Sh.int IntKind.u8) (0 : Nat) (Int.toNat (8 : Int))
 (List.replicate (Int.toNat (8 : Int)) (Sh.int IntKind.u8).dflt),
 (4 : Int), (8 : Int), ()) ∧
 (0 : Nat) + (10 : Nat) ≤
 (((((((((((List.replicate (10 : Nat) (Sh.int IntKind.u8).dflt).set
 (0 : Nat) (1 : Int)).set
 (1 : Nat) (1 : Int)).set
 (2 : Nat) (1 : Int)).set
 (3 : Nat) (1 : Int)).set
 (4 : Nat) (1 : Int)).set
 (5 : Nat) (1 : Int)).set
 (6 : Nat) (1 : Int)).set
 (7 : Nat) (1 : Int)).set
 (8 : Nat) (1 : Int)).set
 (9 : Nat) (1 : Int)).length ∧
 ctCut.pre
 (winL (Sh.int IntKind.u8) (0 : Nat) (10 : Nat)
 (((((((((((List.replicate (10 : Nat) (Sh.int IntKind.u8).dflt).set
 (0 : Nat) (1 : Int)).set
 (1 : Nat) (1 : Int)).set
 (2 : Nat) (1 : Int)).set
 (3 : Nat) (1 : Int)).set
 (4 : Nat) (1 : Int)).set
 (5 : Nat) (1 : Int)).set
 (6 : Nat) (1 : Int)).set
 (7 : Nat) (1 : Int)).set
 (8 : Nat) (1 : Int)).set
 (9 : Nat) (1 : Int)),
 (3 : Int), (8 : Int), ()) ∧
 (0 : Nat) + (10 : Nat) ≤
 (((((((((((List.replicate (10 : Nat) (Sh.int IntKind.u8).dflt).set
 (0 : Nat) (1 : Int)).set
 (1 : Nat) (1 : Int)).set
 (2 : Nat) (1 : Int)).set
 (3 : Nat) (1 : Int)).set
 (4 : Nat) (1 : Int)).set
 (5 : Nat) (1 : Int)).set
 (6 : Nat) (1 : Int)).set
 (7 : Nat) (1 : Int)).set
 (8 : Nat) (1 : Int)).set
 (9 : Nat) (1 : Int)).length ∧
 ctCut.pre
 (winL (Sh.int IntKind.u8) (0 : Nat) (10 : Nat)
 (((((((((((List.replicate (10 : Nat)
 (Sh.int
 IntKind.u8).dflt).set
 (0 : Nat) (1 : Int)).set
 (1 : Nat) (1 : Int)).set
 (2 : Nat) (1 : Int)).set
 (3 : Nat) (1 : Int)).set
 (4 : Nat) (1 : Int)).set
 (5 : Nat) (1 : Int)).set
 (6 : Nat) (1 : Int)).set
 (7 : Nat) (1 : Int)).set
 (8 : Nat) (1 : Int)).set
 (9 : Nat) (1 : Int)),
 (8 : Int), (4 : Int), ()) ∧
 ctBlk.pre ([], (4 : Int), (4 : Int), ()) ∧
 (0 : Nat) +
 (cutO
 (winL (Sh.int IntKind.u8) (0 : Nat) (Int.toNat (10 : Int))
 (List.replicate (Int.toNat (10 : Int))
 (Sh.int IntKind.u8).dflt))
 (4 : Int) (8 : Int)).length ≤
 (cutO
 (winL (Sh.int IntKind.u8) (0 : Nat) (Int.toNat (10 : Int))
 (List.replicate (Int.toNat (10 : Int))
 (Sh.int IntKind.u8).dflt))
 (4 : Int) (8 : Int)).length ∧
 (0 : Nat) + (2 : Nat) ≤
 (((List.replicate (2 : Nat) (Sh.int IntKind.i64).dflt).set
 (0 : Nat) (4 : Int)).set
 (1 : Nat) (8 : Int)).length ∧
 ctInts.pre
 (winL (Sh.int IntKind.i64) (0 : Nat)
 (cutO
 (winL (Sh.int IntKind.u8) (0 : Nat)
 (Int.toNat (10 : Int))
 (List.replicate (Int.toNat (10 : Int))
 (Sh.int IntKind.u8).dflt))
 (4 : Int) (8 : Int)).length
 (cutO
 (winL (Sh.int IntKind.u8) (0 : Nat)
 (Int.toNat (10 : Int))
 (List.replicate (Int.toNat (10 : Int))
 (Sh.int IntKind.u8).dflt))
 (4 : Int) (8 : Int)),
 winL (Sh.int IntKind.i64) (0 : Nat) (2 : Nat)
 (((List.replicate (2 : Nat)
 (Sh.int IntKind.i64).dflt).set
 (0 : Nat) (4 : Int)).set
 (1 : Nat) (8 : Int)),
 ()) ∧
 (0 : Nat) +
 (cutO
 (winL (Sh.int IntKind.u8) (0 : Nat) (10 : Nat)
 (((((((((((List.replicate (10 : Nat)
 (Sh.int
 IntKind.u8).dflt).set
 (0 : Nat)
 (1 :
 Int)).set
 (1 : Nat)
 (1 : Int)).set
 (2 : Nat)
 (1 : Int)).set
 (3 : Nat) (1 : Int)).set
 (4 : Nat) (1 : Int)).set
 (5 : Nat) (1 : Int)).set
 (6 : Nat) (1 : Int)).set
 (7 : Nat) (1 : Int)).set
 (8 : Nat) (1 : Int)).set
 (9 : Nat) (1 : Int)))
 (4 : Int) (8 : Int)).length ≤
 (cutO
 (winL (Sh.int IntKind.u8) (0 : Nat) (10 : Nat)
 (((((((((((List.replicate (10 : Nat)
 (Sh.int
 IntKind.u8).dflt).set
 (0 : Nat)
 (1 : Int)).set
 (1 : Nat)
 (1 : Int)).set
 (2 : Nat)
 (1 : Int)).set
 (3 : Nat) (1 : Int)).set
 (4 : Nat) (1 : Int)).set
 (5 : Nat) (1 : Int)).set
 (6 : Nat) (1 : Int)).set
 (7 : Nat) (1 : Int)).set
 (8 : Nat) (1 : Int)).set
 (9 : Nat) (1 : Int)))
 (4 : Int) (8 : Int)).length ∧
 (0 : Nat) + (1 : Nat) ≤
 ((List.replicate (1 : Nat)
 (Sh.int IntKind.i64).dflt).set
 (0 : Nat) (8 : Int)).length ∧
 ctInts.pre
 (winL (Sh.int IntKind.i64) (0 : Nat)
 (cutO
 (winL (Sh.int IntKind.u8) (0 : Nat) (10 : Nat)
 (((((((((((List.replicate (10 : Nat)
 (Sh.int
 IntKind.u8).dflt).set
 (0 :
 Nat)
 (1 :
 Int)).set
 (1 : Nat)
 (1 :
 Int)).set
 (2 : Nat)
 (1 : Int)).set
 (3 : Nat)
 (1 : Int)).set
 (4 : Nat)
 (1 : Int)).set
 (5 : Nat) (1 : Int)).set
 (6 : Nat) (1 : Int)).set
 (7 : Nat) (1 : Int)).set
 (8 : Nat) (1 : Int)).set
 (9 : Nat) (1 : Int)))
 (4 : Int) (8 : Int)).length
 (cutO
 (winL (Sh.int IntKind.u8) (0 : Nat) (10 : Nat)
 (((((((((((List.replicate (10 : Nat)
 (Sh.int
 IntKind.u8).dflt).set
 (0 :
 Nat)
 (1 :
 Int)).set
 (1 : Nat)
 (1 :
 Int)).set
 (2 : Nat)
 (1 : Int)).set
 (3 : Nat)
 (1 : Int)).set
 (4 : Nat) (1 : Int)).set
 (5 : Nat) (1 : Int)).set
 (6 : Nat) (1 : Int)).set
 (7 : Nat) (1 : Int)).set
 (8 : Nat) (1 : Int)).set
 (9 : Nat) (1 : Int)))
 (4 : Int) (8 : Int)),
 winL (Sh.int IntKind.i64) (0 : Nat) (1 : Nat)
 ((List.replicate (1 : Nat)
 (Sh.int IntKind.i64).dflt).set
 (0 : Nat) (8 : Int)),
 ()) ∧
 (0 : Nat) +
 (blkO
 (winL (Sh.int IntKind.u8) (0 : Nat) (5 : Nat)
 ((((((List.replicate (5 : Nat)
 (Sh.int
 IntKind.u8).dflt).set
 (0 : Nat) (1 : Int)).set
 (1 : Nat) (2 : Int)).set
 (2 : Nat) (3 : Int)).set
 (3 : Nat) (10 : Int)).set
 (4 : Nat) (9 : Int)))
 (4 : Int) (8 : Int)).length ≤
 (blkO
 (winL (Sh.int IntKind.u8) (0 : Nat) (5 : Nat)
 ((((((List.replicate (5 : Nat)
 (Sh.int
 IntKind.u8).dflt).set
 (0 : Nat) (1 : Int)).set
 (1 : Nat) (2 : Int)).set
 (2 : Nat) (3 : Int)).set
 (3 : Nat) (10 : Int)).set
 (4 : Nat) (9 : Int)))
 (4 : Int) (8 : Int)).length ∧
 (0 : Nat) + (2 : Nat) ≤
 (((List.replicate (2 : Nat)
 ((Sh.int IntKind.i64).pair
 (Sh.int IntKind.i64)).dflt).set
 (0 : Nat) ((0 : Int), (4 : Int))).set
 (1 : Nat) ((4 : Int), (5 : Int))).length ∧
 ctRngs.pre
 (winL rgS (0 : Nat)
 (blkO
 (winL (Sh.int IntKind.u8) (0 : Nat)
 (5 : Nat)
 ((((((List.replicate (5 : Nat)
 (Sh.int
 IntKind.u8).dflt).set
 (0 : Nat)
 (1 : Int)).set
 (1 : Nat) (2 : Int)).set
 (2 : Nat) (3 : Int)).set
 (3 : Nat) (10 : Int)).set
 (4 : Nat) (9 : Int)))
 (4 : Int) (8 : Int)).length
 (blkO
 (winL (Sh.int IntKind.u8) (0 : Nat)
 (5 : Nat)
 ((((((List.replicate (5 : Nat)
 (Sh.int
 IntKind.u8).dflt).set
 (0 : Nat)
 (1 : Int)).set
 (1 : Nat) (2 : Int)).set
 (2 : Nat) (3 : Int)).set
 (3 : Nat) (10 : Int)).set
 (4 : Nat) (9 : Int)))
 (4 : Int) (8 : Int)),
 winL rgS (0 : Nat) (2 : Nat)
 (((List.replicate (2 : Nat)
 ((Sh.int IntKind.i64).pair
 (Sh.int
 IntKind.i64)).dflt).set
 (0 : Nat) ((0 : Int), (4 : Int))).set
 (1 : Nat) ((4 : Int), (5 : Int))),
 ()) ∧
 (0 : Nat) +
 (matO
 (winL (Sh.int IntKind.u8) (0 : Nat)
 (Int.toNat (4 : Int))
 (List.replicate (Int.toNat (4 : Int))
 (Sh.int IntKind.u8).dflt))
 (winL (Sh.int IntKind.u8) (0 : Nat)
 (Int.toNat (8 : Int))
 (List.replicate (Int.toNat (8 : Int))
 (Sh.int IntKind.u8).dflt))
 (4 : Int) (8 : Int)).length ≤
 (matO
 (winL (Sh.int IntKind.u8) (0 : Nat)
 (Int.toNat (4 : Int))
 (List.replicate (Int.toNat (4 : Int))
 (Sh.int IntKind.u8).dflt))
 (winL (Sh.int IntKind.u8) (0 : Nat)
 (Int.toNat (8 : Int))
 (List.replicate (Int.toNat (8 : Int))
 (Sh.int IntKind.u8).dflt))
 (4 : Int) (8 : Int)).length ∧
 (0 : Nat) + (2 : Nat) ≤
 (((List.replicate (2 : Nat)
 (Sh.arr (2 : Nat)
 (Sh.int
 IntKind.i64)).dflt).set
 (0 : Nat)
 ((List.set
 (Sh.arr (2 : Nat)
 (Sh.int IntKind.i64)).dflt
 (0 : Nat) (0 : Int)).set
 (1 : Nat) (0 : Int))).set
 (1 : Nat)
 ((List.set
 (Sh.arr (2 : Nat)
 (Sh.int IntKind.i64)).dflt
 (0 : Nat) (0 : Int)).set
 (1 : Nat) (1 : Int))).length ∧
 ctPrs.pre
 (winL paS (0 : Nat)
 (matO
 (winL (Sh.int IntKind.u8)
 (0 : Nat) (Int.toNat (4 : Int))
 (List.replicate
 (Int.toNat (4 : Int))
 (Sh.int IntKind.u8).dflt))
 (winL (Sh.int IntKind.u8)
 (0 : Nat) (Int.toNat (8 : Int))
 (List.replicate
 (Int.toNat (8 : Int))
 (Sh.int IntKind.u8).dflt))
 (4 : Int) (8 : Int)).length
 (matO
 (winL (Sh.int IntKind.u8) (0 : Nat)
 (Int.toNat (4 : Int))
 (List.replicate
 (Int.toNat (4 : Int))
 (Sh.int IntKind.u8).dflt))
 (winL (Sh.int IntKind.u8) (0 : Nat)
 (Int.toNat (8 : Int))
 (List.replicate
 (Int.toNat (8 : Int))
 (Sh.int IntKind.u8).dflt))
 (4 : Int) (8 : Int)),
 winL paS (0 : Nat) (2 : Nat)
 (((List.replicate (2 : Nat)
 (Sh.arr (2 : Nat)
 (Sh.int
 IntKind.i64)).dflt).set
 (0 : Nat)
 ((List.set
 (Sh.arr (2 : Nat)
 (Sh.int
 IntKind.i64)).dflt
 (0 : Nat) (0 : Int)).set
 (1 : Nat) (0 : Int))).set
 (1 : Nat)
 ((List.set
 (Sh.arr (2 : Nat)
 (Sh.int IntKind.i64)).dflt
 (0 : Nat) (0 : Int)).set
 (1 : Nat) (1 : Int))),
 ()) ∧
 Q
 [SV.bool
 (bif true then
 decide
 ((↑(blkO [] (4 : Int)
 (4 : Int)).length :
 Int) =
 (0 : Int))
 else false)]
 [((17 : Nat),
 LB.row (5 : Nat) (Sh.int IntKind.u8)
 (((((((((((List.replicate (10 : Nat)
 (Sh.int
 IntKind.u8).dflt).set
 (0 :
 Nat)
 (1 :
 Int)).set
 (1 :
 Nat)
 (1 :
 Int)).set
 (2 :
 Nat)
 (1 :
 Int)).set
 (3 : Nat)
 (1 :
 Int)).set
 (4 : Nat)
 (1 : Int)).set
 (5 : Nat)
 (1 : Int)).set
 (6 : Nat)
 (1 : Int)).set
 (7 : Nat) (1 : Int)).set
 (8 : Nat) (1 : Int)).set
 (9 : Nat) (1 : Int))),
 ((19 : Nat),
 LB.row (5 : Nat) (Sh.int IntKind.u8)
 (List.replicate
 (Int.toNat (10 : Int))
 (Sh.int IntKind.u8).dflt)),
 ((29 : Nat),
 LB.row (5 : Nat) (Sh.int IntKind.u8)
 ((((((List.replicate (5 : Nat)
 (Sh.int
 IntKind.u8).dflt).set
 (0 : Nat)
 (1 : Int)).set
 (1 : Nat)
 (2 : Int)).set
 (2 : Nat) (3 : Int)).set
 (3 : Nat) (10 : Int)).set
 (4 : Nat) (9 : Int))),
 ((34 : Nat),
 LB.row (5 : Nat) (Sh.int IntKind.u8)
 (List.replicate
 (Int.toNat (4 : Int))
 (Sh.int IntKind.u8).dflt)),
 ((35 : Nat),
 LB.row (5 : Nat) (Sh.int IntKind.u8)
 (List.replicate
 (Int.toNat (8 : Int))
 (Sh.int IntKind.u8).dflt)),
 ((57 : Nat),
 LB.row (3 : Nat) (Sh.int IntKind.i64)
 (((List.replicate (2 : Nat)
 (Sh.int
 IntKind.i64).dflt).set
 (0 : Nat) (4 : Int)).set
 (1 : Nat) (8 : Int))),
 ((66 : Nat),
 LB.row (3 : Nat) (Sh.int IntKind.i64)
 ((List.replicate (1 : Nat)
 (Sh.int IntKind.i64).dflt).set
 (0 : Nat) (8 : Int))),
 ((78 : Nat),
 LB.row (48 : Nat)
 ((Sh.int IntKind.i64).pair
 (Sh.int IntKind.i64))
 (((List.replicate (2 : Nat)
 ((Sh.int IntKind.i64).pair
 (Sh.int
 IntKind.i64)).dflt).set
 (0 : Nat)
 ((0 : Int), (4 : Int))).set
 (1 : Nat)
 ((4 : Int), (5 : Int)))),
 ((89 : Nat),
 LB.row (26 : Nat)
 (Sh.arr (2 : Nat)
 (Sh.int IntKind.i64))
 (((List.replicate (2 : Nat)
 (Sh.arr (2 : Nat)
 (Sh.int
 IntKind.i64)).dflt).set
 (0 : Nat)
 ((List.set
 (Sh.arr (2 : Nat)
 (Sh.int
 IntKind.i64)).dflt
 (0 : Nat) (0 : Int)).set
 (1 : Nat) (0 : Int))).set
 (1 : Nat)
 ((List.set
 (Sh.arr (2 : Nat)
 (Sh.int
 IntKind.i64)).dflt
 (0 : Nat) (0 : Int)).set
 (1 : Nat) (1 : Int)))),
 ((1081920 : Nat),
 LB.row (3 : Nat) (Sh.int IntKind.i64)
 (cutO
 (winL (Sh.int IntKind.u8)
 (0 : Nat) (Int.toNat (10 : Int))
 (List.replicate
 (Int.toNat (10 : Int))
 (Sh.int IntKind.u8).dflt))
 (4 : Int) (8 : Int))),
 ((1102400 : Nat),
 LB.row (3 : Nat) (Sh.int IntKind.i64)
 (cutO
 (winL (Sh.int IntKind.u8)
 (0 : Nat) (10 : Nat)
 (((((((((((List.replicate
 (10 :
 Nat)
 (Sh.int
 IntKind.u8).dflt).set
 (0 :
 Nat)
 (1 :
 Int)).set
 (1 :
 Nat)
 (1 :
 Int)).set
 (2 :
 Nat)
 (1 :
 Int)).set
 (3 :
 Nat)
 (1 :
 Int)).set
 (4 : Nat)
 (1 :
 Int)).set
 (5 : Nat)
 (1 : Int)).set
 (6 : Nat)
 (1 : Int)).set
 (7 : Nat)
 (1 : Int)).set
 (8 : Nat) (1 : Int)).set
 (9 : Nat) (1 : Int)))
 (4 : Int) (8 : Int))),
 ((1122880 : Nat),
 LB.row (48 : Nat)
 ((Sh.int IntKind.i64).pair
 (Sh.int IntKind.i64))
 (blkO
 (winL (Sh.int IntKind.u8)
 (0 : Nat) (5 : Nat)
 ((((((List.replicate (5 : Nat)
 (Sh.int
 IntKind.u8).dflt).set
 (0 : Nat)
 (1 : Int)).set
 (1 : Nat)
 (2 : Int)).set
 (2 : Nat)
 (3 : Int)).set
 (3 : Nat) (10 : Int)).set
 (4 : Nat) (9 : Int)))
 (4 : Int) (8 : Int))),
 ((1147456 : Nat),
 LB.row (26 : Nat)
 (Sh.arr (2 : Nat)
 (Sh.int IntKind.i64))
 (matO
 (winL (Sh.int IntKind.u8)
 (0 : Nat) (Int.toNat (4 : Int))
 (List.replicate
 (Int.toNat (4 : Int))
 (Sh.int IntKind.u8).dflt))
 (winL (Sh.int IntKind.u8)
 (0 : Nat) (Int.toNat (8 : Int))
 (List.replicate
 (Int.toNat (8 : Int))
 (Sh.int IntKind.u8).dflt))
 (4 : Int) (8 : Int))),
 ((1167936 : Nat),
 LB.row (3 : Nat) (Sh.int IntKind.i64)
 (cutO
 (winL (Sh.int IntKind.u8)
 (0 : Nat) (10 : Nat)
 (((((((((((List.replicate
 (10 :
 Nat)
 (Sh.int
 IntKind.u8).dflt).set
 (0 :
 Nat)
 (1 :
 Int)).set
 (1 :
 Nat)
 (1 :
 Int)).set
 (2 :
 Nat)
 (1 :
 Int)).set
 (3 :
 Nat)
 (1 :
 Int)).set
 (4 : Nat)
 (1 :
 Int)).set
 (5 : Nat)
 (1 : Int)).set
 (6 : Nat)
 (1 : Int)).set
 (7 : Nat)
 (1 : Int)).set
 (8 : Nat) (1 : Int)).set
 (9 : Nat) (1 : Int)))
 (3 : Int) (8 : Int))),
 ((1188416 : Nat),
 LB.row (3 : Nat) (Sh.int IntKind.i64)
 (cutO
 (winL (Sh.int IntKind.u8)
 (0 : Nat) (10 : Nat)
 (((((((((((List.replicate
 (10 :
 Nat)
 (Sh.int
 IntKind.u8).dflt).set
 (0 :
 Nat)
 (1 :
 Int)).set
 (1 :
 Nat)
 (1 :
 Int)).set
 (2 :
 Nat)
 (1 :
 Int)).set
 (3 :
 Nat)
 (1 :
 Int)).set
 (4 : Nat)
 (1 :
 Int)).set
 (5 : Nat)
 (1 : Int)).set
 (6 : Nat)
 (1 : Int)).set
 (7 : Nat)
 (1 : Int)).set
 (8 : Nat) (1 : Int)).set
 (9 : Nat) (1 : Int)))
 (8 : Int) (4 : Int))),
 ((1204800 : Nat),
 LB.row (48 : Nat)
 ((Sh.int IntKind.i64).pair
 (Sh.int IntKind.i64))
 (blkO [] (4 : Int) (4 : Int)))]) := by kernel_rfl
end Go.Proofs.Ytpdhohkamhmjkaa
namespace Go.Proofs.Ytpdhohkamhmjkaa
open Go.Px Go.Ax
attribute [local irreducible] Go.Px.sy Go.Px.syE
def ctSan : Ctr := ⟨[], fun _ => True, fun _ => [.bool true], fun _ => []⟩
instance (b : List Int) : Decidable (bytesOK b) := inferInstanceAs (Decidable (∀ c ∈ b, 0 ≤ c ∧ c < 256))
instance (n : Nat) : Decidable (preLn n) := inferInstanceAs (Decidable (n < 2 ^ 62))
theorem san_run : sy tt G0 D8 Try.f11.ntmps Try.f11.results.toList (QC ctSan ()) (Px.Good Try.prog tt G0 11 Try.f11.ntmps Try.f11.results.toList (QC ctSan ())) 1000 [.code (bodyOf Try.f11)] (entry [] ()) := by
  rw [vc_san]
  repeat' first
    | exact trivial
    | decide +kernel
    | (refine And.intro ?_ ?_)
    | (show preLn _; decide +kernel)
    | (refine QC.flat ?_ rfl rfl)
  show [SV.bool true] = [SV.bool (bif true then decide (((blkO [] 4 4).length : Int) = 0) else false)]
  rfl
theorem san_held : Held Try.prog G0 11 ctSan := Held.run dx8 (fn := Try.f11) rfl rfl ⟨by decide, by decide⟩ fun x _ => san_run
def ctLb : Ctr := ⟨[slB, paS], fun x => preT x.1, fun x => [.win true rgS 0 0 (List.length (blkO x.1 (pr2 x.2.1).1 (pr2 x.2.1).2)), .int .i64 (errO (pr2 x.2.1).1 (pr2 x.2.1).2)], fun x => [.row 48 rgS (blkO x.1 (pr2 x.2.1).1 (pr2 x.2.1).2)]⟩
theorem lb_run (b w : List Int) (hp : preT b) (R : List Item → PS → Prop) : sy tt G0 D8 Try.f14.ntmps Try.f14.results.toList (QC ctLb (b, w, ())) R 1000 [.code (bodyOf Try.f14)] (entry [slB, paS] (b, w, ())) := by
  rw [vc_lb]
  exact ⟨by decide, by decide, by decide, by decide, by decide, by decide, hp, QC.row1 (e := rgS) (et := 48) (xs := blkO b (pr2 w).1 (pr2 w).2) (n := errO (pr2 w).1 (pr2 w).2) rfl rfl rfl rfl rfl⟩
theorem lb_held : Held Try.prog G0 14 ctLb := Held.run dx8 (fn := Try.f14) rfl rfl ⟨by decide, by decide⟩ fun x hp => lb_run x.1 x.2.1 hp _
abbrev D9 : CV := (11, .inl ctSan) :: (14, .inl ctLb) :: D8
theorem dx9 : CxOK Try.prog tt G0 D9 := (dx8.cons lb_held (fn := Try.f14) rfl rfl rfl).cons san_held (fn := Try.f11) rfl rfl rfl
theorem bytes_of {l : List Int} (h : ∀ n ∈ l, (Lit.int .u8 n).wf = true) : bytesOK l := fun n hn => by
  have := Go.bounds_u8 (h n hn)
  exact ⟨this.1, by omega⟩
theorem hG : Glob G0.raw := ⟨fun g x h => by simp [G0, T.get] at h, fun g x h => by simp [G0, T.get] at h⟩
abbrev H0 : AHeap := ⟨nglob, G0.raw⟩
end Go.Proofs.Ytpdhohkamhmjkaa
namespace Go.Proofs.Ytpdhohkamhmjkaa
open Go.Px Go.Ax
set_option maxRecDepth 100000
theorem vc_en (b w : List Int) (p : Int) (Q : List SV → List (Nat × LB) → Prop) (R : List Item → PS → Prop) : sy tt G0 D9 Try.f29.ntmps Try.f29.results.toList Q R 1000 [.code (bodyOf Try.f29)] (entry [.sl (.int .u8), .int .i64, .arr 2 (.int .i64)] (b, p, w, ())) =
    (R (hd Try.f29 (0 : Nat))
 {
 env :=
 [((0 : Nat), SV.sl (Sh.int IntKind.u8) b), ((1 : Nat), SV.int IntKind.i64 p),
 ((2 : Nat), SV.arr (2 : Nat) (Sh.int IntKind.i64) w), ((5 : Nat), SV.ptr (5 : Nat) (0 : Nat)),
 ((6 : Nat), SV.int IntKind.i64 (0 : Int)), ((7 : Nat), SV.int IntKind.i64 (IntKind.i64.wrap (p + (1 : Int)))),
 ((8 : Nat), SV.int IntKind.i64 p), ((9 : Nat), SV.int IntKind.i64 (IntKind.i64.wrap (p + (1 : Int))))],
 blk := [((5 : Nat), LB.var [SV.arr (2 : Nat) (Sh.int IntKind.i64) w])] }) := by kernel_rfl
theorem vc_enL (b w : List Int) (p i : Int) (Q : List SV → List (Nat × LB) → Prop) (R : List Item → PS → Prop) : sy tt G0 D9 Try.f29.ntmps Try.f29.results.toList Q (fun it S => R it (keepS [0, 1, 5, 7] [5] S)) 1000 (hd Try.f29 0) ⟨[(0, .sl (.int .u8) b), (1, .int .i64 p), (5, .ptr 5 0), (7, .int .i64 i)], [(5, .var [.arr 2 (.int .i64) w])]⟩ =
    (bc (decide (i < (↑b.length : Int)))
 ((0 : Int) ≤ (1 : Int) ∧
 (1 : Int) < (↑(2 : Nat) : Int) ∧
 Int.toNat (1 : Int) < (2 : Nat) ∧
 bc
 (bif true then decide (IntKind.i64.wrap (i - p) < gt (Sh.int IntKind.i64) w (Int.toNat (1 : Int))) else false)
 ((0 : Int) ≤ (0 : Int) ∧
 (0 : Int) < (↑(2 : Nat) : Int) ∧
 Int.toNat (0 : Int) < (2 : Nat) ∧
 bc (decide (gt (Sh.int IntKind.i64) w (Int.toNat (0 : Int)) ≤ IntKind.i64.wrap (i - p)))
 ((0 : Int) ≤ IntKind.i64.wrap (i - (4 : Int)) ∧
 IntKind.i64.wrap (i - (4 : Int)) < (↑b.length : Int) ∧
 (0 : Int) ≤ IntKind.i64.wrap (i - (3 : Int)) ∧
 IntKind.i64.wrap (i - (3 : Int)) < (↑b.length : Int) ∧
 (0 : Int) ≤ IntKind.i64.wrap (i - (2 : Int)) ∧
 IntKind.i64.wrap (i - (2 : Int)) < (↑b.length : Int) ∧
 (0 : Int) ≤ IntKind.i64.wrap (i - (1 : Int)) ∧
 IntKind.i64.wrap (i - (1 : Int)) < (↑b.length : Int) ∧
 (16 : Int) ≠ (0 : Int) ∧
 bc
 (bif true then
 decide
 ((IntKind.i64.wrap
 (IntKind.i64.wrap
 (IntKind.i64.wrap
 (IntKind.i64.wrap
 (gt (Sh.int IntKind.u8) b
 (IntKind.i64.wrap (i - (4 : Int))).toNat) +
 IntKind.i64.wrap
 (gt (Sh.int IntKind.u8) b
 (IntKind.i64.wrap (i - (3 : Int))).toNat)) +
 IntKind.i64.wrap
 (gt (Sh.int IntKind.u8) b
 (IntKind.i64.wrap (i - (2 : Int))).toNat)) +
 IntKind.i64.wrap
 (gt (Sh.int IntKind.u8) b
 (IntKind.i64.wrap (i - (1 : Int))).toNat))).tmod
 (16 : Int) =
 (0 : Int))
 else false)
 (Q [SV.int IntKind.i64 i]
 [((5 : Nat), LB.var [SV.arr (2 : Nat) (Sh.int IntKind.i64) w])])
 (R (hd Try.f29 (0 : Nat))
 {
 env :=
 [((0 : Nat), SV.sl (Sh.int IntKind.u8) b),
 ((1 : Nat), SV.int IntKind.i64 p),
 ((5 : Nat), SV.ptr (5 : Nat) (0 : Nat)),
 ((7 : Nat), SV.int IntKind.i64 (IntKind.i64.wrap (i + (1 : Int))))],
 blk := [((5 : Nat), LB.var [SV.arr (2 : Nat) (Sh.int IntKind.i64) w])] }))
 (false = false ∧
 R (hd Try.f29 (0 : Nat))
 {
 env :=
 [((0 : Nat), SV.sl (Sh.int IntKind.u8) b), ((1 : Nat), SV.int IntKind.i64 p),
 ((5 : Nat), SV.ptr (5 : Nat) (0 : Nat)),
 ((7 : Nat), SV.int IntKind.i64 (IntKind.i64.wrap (i + (1 : Int))))],
 blk := [((5 : Nat), LB.var [SV.arr (2 : Nat) (Sh.int IntKind.i64) w])] }))
 (Q [SV.int IntKind.i64 i] [((5 : Nat), LB.var [SV.arr (2 : Nat) (Sh.int IntKind.i64) w])]))
 (false = false ∧ Q [SV.int IntKind.i64 i] [((5 : Nat), LB.var [SV.arr (2 : Nat) (Sh.int IntKind.i64) w])])) := by kernel_rfl
end Go.Proofs.Ytpdhohkamhmjkaa
namespace Go.Proofs.Ytpdhohkamhmjkaa
open Go.Px Go.Ax
attribute [local irreducible] Go.Px.sy Go.Px.syE
theorem sum4_eq {b : List Int} {n : Nat} (h1 : 4 ≤ n) (h2 : n ≤ b.length) : sum4 b n = b[n - 4] + b[n - 3] + b[n - 2] + b[n - 1] := by
  have e : (b.take n).drop (n - 4) = [b[n - 4], b[n - 3], b[n - 2], b[n - 1]] := by
    refine List.ext_getElem (by rw [List.length_drop, List.length_take]; simp; omega) fun i h3 h4 => ?_
    rw [List.getElem_drop, List.getElem_take]
    simp only [List.length_cons, List.length_nil] at h4
    match i, h4 with
    | 0, _ => rfl
    | 1, _ => simp only [List.getElem_cons_succ, List.getElem_cons_zero]; congr 1; omega
    | 2, _ => simp only [List.getElem_cons_succ, List.getElem_cons_zero]; congr 1; omega
    | 3, _ => simp only [List.getElem_cons_succ, List.getElem_cons_zero]; congr 1; omega
  rw [sum4, e]
  simp only [sumL, List.foldl_cons, List.foldl_nil]
  omega
def preEn (b : List Int) (p : Int) (w : List Int) : Prop := (0 ≤ p ∧ p < b.length) ∧ preT b ∧ limR (pr2 w).1 (pr2 w).2 = true
def endV (b : List Int) (p : Int) (w : List Int) : Int := p + (firstLen (b.drop p.toNat) (pr2 w).1.toNat (pr2 w).2.toNat : Nat)
def ctEn : Ctr := ⟨[slB, iI, paS], fun x => preEn x.1 x.2.1 x.2.2.1, fun x => [.int .i64 (endV x.1 x.2.1 x.2.2.1)], fun _ => []⟩
/-- What is left to look for, from a length on. -/
def resF (c : List Int) (l m n : Nat) : Nat := if n < l then firstLen c l m else scanB c (min c.length m - n) n
theorem resF_end {c : List Int} {l m n : Nat} (h : n = min c.length m) : resF c l m n = n := by
  unfold resF firstLen
  split
  · rw [if_pos (by omega)]; omega
  · rw [show min c.length m - n = 0 by omega]; rfl
theorem resF_skip {c : List Int} {l m n : Nat} (h1 : n < l) (h2 : n < min c.length m) : resF c l m n = resF c l m (n + 1) := by
  unfold resF
  rw [if_pos h1]
  split
  · rfl
  · have e : l = n + 1 := by omega
    unfold firstLen
    subst e
    split
    · rw [show min c.length m - (n + 1) = 0 by omega]
      show _ = n + 1
      omega
    · rfl
theorem resF_at {c : List Int} {l m n : Nat} (h1 : ¬ n < l) (h2 : n < min c.length m) : resF c l m n = if isCut c n then n else resF c l m (n + 1) := by
  have a : ¬ n + 1 < l := by omega
  unfold resF
  rw [if_neg h1, if_neg a, show min c.length m - n = (min c.length m - (n + 1)) + 1 by omega, scanB]
theorem en_loop {b w : List Int} {p l m : Nat} (hb : preT b) (hp : p < b.length) (hw : (pr2 w).1 = (l : Int) ∧ (pr2 w).2 = (m : Int)) (hlm : 4 ≤ l ∧ l ≤ m ∧ m ≤ 4096) : ∀ (k n : Nat), min (b.length - p) m - n ≤ k → 1 ≤ n → n ≤ min (b.length - p) m →
    GD 29 Try.f29 (fun rs _ => rs = [.int .i64 (p + resF (b.drop p) l m n : Nat)]) (hd Try.f29 0) ⟨[(0, .sl (.int .u8) b), (1, .int .i64 (p : Nat)), (5, .ptr 5 0), (7, .int .i64 (p + n : Nat))], [(5, .var [.arr 2 (.int .i64) w])]⟩ := by
  have hdl : (b.drop p).length = b.length - p := List.length_drop
  obtain ⟨hb1, hb2⟩ := hb
  have w0 : gt (Sh.int .i64) w (Int.toNat 0) = (l : Int) := hw.1
  have w1 : gt (Sh.int .i64) w (Int.toNat 1) = (m : Int) := hw.2
  have fin : ∀ n, n = min (b.length - p) m → [SV.int .i64 ((p + n : Nat) : Int)] = [SV.int .i64 ((p + resF (b.drop p) l m n : Nat) : Int)] := fun n h => by rw [resF_end (by omega)]
  intro k
  induction k with
  | zero =>
    intro n hk h1 h2
    refine sy_goK dx9 (vc_enL b w _ _ _ _) ?_
    rw [w0, w1, IntWalk.i64_in (((p + n : Nat) : Int) - (p : Nat)) (by omega)]
    refine bc_of (fun h => ⟨by decide, by decide, by decide, ?_⟩) (fun h => ⟨rfl, fin n (by omega)⟩)
    have h := of_decide_eq_true h
    rw [cond_true, decide_eq_false (by omega), bc_f]
    exact fin n (by omega)
  | succ k ih =>
    intro n hk h1 h2
    refine sy_goK dx9 (vc_enL b w _ _ _ _) ?_
    rw [w0, w1, IntWalk.i64_in (((p + n : Nat) : Int) - (p : Nat)) (by omega), IntWalk.i64_in (((p + n : Nat) : Int) + 1) (by omega)]
    refine bc_of (fun h => ⟨by decide, by decide, by decide, ?_⟩) (fun h => ⟨rfl, fin n (by have := of_decide_eq_false h; omega)⟩)
    have h := of_decide_eq_true h
    rw [cond_true]
    refine bc_of (fun h3 => ⟨by decide, by decide, by decide, bc_of (fun h4 => ?_) (fun h4 => ?_)⟩) (fun h3 => fin n (by have h3 : ¬ ((p + n : Nat) : Int) - (p : Nat) < (m : Int) := of_decide_eq_false h3; omega))
    · have h3 : ((p + n : Nat) : Int) - (p : Nat) < (m : Int) := of_decide_eq_true h3
      have h4 : (l : Int) ≤ ((p + n : Nat) : Int) - (p : Nat) := of_decide_eq_true h4
      rw [IntWalk.i64_in (((p + n : Nat) : Int) - 4) (by omega), IntWalk.i64_in (((p + n : Nat) : Int) - 3) (by omega), IntWalk.i64_in (((p + n : Nat) : Int) - 2) (by omega), IntWalk.i64_in (((p + n : Nat) : Int) - 1) (by omega)]
      have hs := sum4_eq (b := b.drop p) (n := n) (by omega) (by omega)
      have g : ∀ j : Nat, j ≤ 4 → 1 ≤ j → ∀ (hj : n - j < (b.drop p).length), gt (Sh.int .u8) b (((p + n : Nat) : Int) - (j : Nat)).toNat = (b.drop p)[n - j] := by
        intro j hj4 hj1 hj
        have e1 : (((p + n : Nat) : Int) - (j : Nat)).toNat = p + (n - j) := by omega
        rw [e1, List.getElem_drop]
        exact gtE (by omega)
      have bd : ∀ j : Nat, ∀ (hj : n - j < (b.drop p).length), 0 ≤ (b.drop p)[n - j] ∧ (b.drop p)[n - j] < 256 := fun j hj => bytes_drop hb2 p _ (List.getElem_mem hj)
      have g4 := g 4 (by omega) (by omega) (by omega)
      have g3 := g 3 (by omega) (by omega) (by omega)
      have g2 := g 2 (by omega) (by omega) (by omega)
      have g1 := g 1 (by omega) (by omega) (by omega)
      have b4 := bd 4 (by omega)
      have b3 := bd 3 (by omega)
      have b2 := bd 2 (by omega)
      have b1 := bd 1 (by omega)
      rw [show (((4 : Nat) : Int)) = 4 from rfl] at g4
      rw [show (((3 : Nat) : Int)) = 3 from rfl] at g3
      rw [show (((2 : Nat) : Int)) = 2 from rfl] at g2
      rw [show (((1 : Nat) : Int)) = 1 from rfl] at g1
      rw [g4, g3, g2, g1]
      generalize hx4 : (b.drop p)[n - 4]'(by omega) = x4 at *
      generalize hx3 : (b.drop p)[n - 3]'(by omega) = x3 at *
      generalize hx2 : (b.drop p)[n - 2]'(by omega) = x2 at *
      generalize hx1 : (b.drop p)[n - 1]'(by omega) = x1 at *
      rw [IntWalk.i64_in x4 (by omega), IntWalk.i64_in x3 (by omega), IntWalk.i64_in x2 (by omega), IntWalk.i64_in x1 (by omega), IntWalk.i64_in (x4 + x3) (by omega), IntWalk.i64_in (x4 + x3 + x2) (by omega), IntWalk.i64_in (x4 + x3 + x2 + x1) (by omega), ← hs, cond_true]
      refine ⟨by omega, by omega, by omega, by omega, by omega, by omega, by omega, by omega, by decide, bc_of (fun hc => ?_) (fun hc => ?_)⟩
      · have hc : isCut (b.drop p) n = true := hc
        rw [resF_at (by omega) (by omega), if_pos hc]
      · have hc : isCut (b.drop p) n = false := hc
        rw [resF_at (by omega) (by omega), if_neg (by rw [hc]; decide)]
        exact ih (n + 1) (by omega) (by omega) (by omega)
    · have h3 : ((p + n : Nat) : Int) - (p : Nat) < (m : Int) := of_decide_eq_true h3
      have h4 : ¬ (l : Int) ≤ ((p + n : Nat) : Int) - (p : Nat) := of_decide_eq_false h4
      rw [resF_skip (by omega) (by omega)]
      exact ⟨rfl, ih (n + 1) (by omega) (by omega) (by omega)⟩
theorem en_run (b : List Int) (p : Int) (w : List Int) (hp : preEn b p w) : sy tt G0 D9 Try.f29.ntmps Try.f29.results.toList (QC ctEn (b, p, w, ())) (Px.Good Try.prog tt G0 29 Try.f29.ntmps Try.f29.results.toList (QC ctEn (b, p, w, ()))) 1000 [.code (bodyOf Try.f29)] (entry [slB, iI, paS] (b, p, w, ())) := by
  rw [vc_en]
  obtain ⟨⟨h1, h2⟩, hb, hl⟩ := hp
  have hlim : 4 ≤ (pr2 w).1 ∧ (pr2 w).1 ≤ (pr2 w).2 ∧ (pr2 w).2 ≤ 4096 := of_decide_eq_true hl
  obtain ⟨p, rfl⟩ := Int.eq_ofNat_of_zero_le h1
  have hb1 := hb.1
  rw [IntWalk.i64_in ((p : Int) + 1) (by omega)]
  have k := en_loop (w := w) (p := p) (l := (pr2 w).1.toNat) (m := (pr2 w).2.toNat) hb (by omega) ⟨by omega, by omega⟩ (by omega) _ 1 (Nat.le_refl _) (by omega) (by omega)
  refine (k.post fun rs blk hq => QC.flat ?_ rfl (by rw [hq]; rfl)).only ⟨rfl, rfl, rfl, rfl, trivial⟩ ⟨rfl, trivial⟩
  rw [hq, resF, if_pos (by omega)]
  show [SV.int .i64 (endV b p w)] = _
  rw [endV, Int.toNat_natCast, Int.natCast_add]
theorem en_held : Held Try.prog G0 29 ctEn := Held.run dx9 (fn := Try.f29) rfl rfl ⟨by decide, by decide⟩ fun x hp => en_run x.1 x.2.1 x.2.2.1 hp
def prePi (b : List Int) (r : Int × Int) : Prop := 0 ≤ r.1 ∧ r.1 ≤ r.2 ∧ r.2 ≤ b.length
def ctPi : Ctr := ⟨[slB, rgS], fun x => prePi x.1 x.2.1, fun x => [.sl (.int .u8) (Px.part x.1 (some (x.2.1 : Int × Int).1) (some (x.2.1 : Int × Int).2))], fun _ => []⟩
theorem pi_run (b : List Int) (r : Int × Int) (hp : prePi b r) (R : List Item → PS → Prop) : sy tt G0 [] Try.f24.ntmps Try.f24.results.toList (QC ctPi (b, r, ())) R 1000 [.code (bodyOf Try.f24)] (entry [slB, rgS] (b, r, ())) := by
  rw [vc_piece]
  exact ⟨hp.1, hp.2.1, hp.2.2, QC.flat rfl rfl rfl⟩
theorem pi_held : Held Try.prog G0 24 ctPi := Held.run cx0 (fn := Try.f24) rfl rfl ⟨by decide, by decide⟩ fun x hp => pi_run x.1 x.2.1 hp _
abbrev D11 : CV := (29, .inl ctEn) :: (24, .inl ctPi) :: D9
theorem dx11 : CxOK Try.prog tt G0 D11 := (dx9.cons pi_held (fn := Try.f24) rfl rfl rfl).cons en_held (fn := Try.f29) rfl rfl rfl
end Go.Proofs.Ytpdhohkamhmjkaa
namespace Go.Proofs.Ytpdhohkamhmjkaa
open Go.Px Go.Ax
set_option maxRecDepth 100000
theorem vc_rb (b w : List Int) (Q : List SV → List (Nat × LB) → Prop) (R : List Item → PS → Prop) : sy tt G0 D11 Try.f15.ntmps Try.f15.results.toList Q R 1000 [.code (bodyOf Try.f15)] (entry [.sl (.int .u8), .arr 2 (.int .i64)] (b, w, ())) =
    (ctRefLim.pre (w, ()) ∧
 bc (!limR (pr2 w).fst (pr2 w).snd)
 (Q [SV.nils, SV.int IntKind.i64 (1 : Int)] [((3 : Nat), LB.var [SV.arr (2 : Nat) (Sh.int IntKind.i64) w])])
 (R (hd Try.f15 (0 : Nat))
 {
 env :=
 [((0 : Nat), SV.sl (Sh.int IntKind.u8) b), ((1 : Nat), SV.arr (2 : Nat) (Sh.int IntKind.i64) w),
 ((3 : Nat), SV.ptr (3 : Nat) (0 : Nat)), ((4 : Nat), SV.nils), ((5 : Nat), SV.int IntKind.i64 (0 : Int)),
 ((6 : Nat), SV.win true ((Sh.int IntKind.i64).pair (Sh.int IntKind.i64)) (12 : Nat) (0 : Nat) (0 : Nat)),
 ((7 : Nat), SV.int IntKind.i64 (0 : Int)), ((9 : Nat), SV.arr (2 : Nat) (Sh.int IntKind.i64) w),
 ((10 : Nat), SV.bool (limR (pr2 w).fst (pr2 w).snd)), ((11 : Nat), SV.bool !limR (pr2 w).fst (pr2 w).snd),
 ((12 : Nat), SV.win true ((Sh.int IntKind.i64).pair (Sh.int IntKind.i64)) (12 : Nat) (0 : Nat) (0 : Nat))],
 blk :=
 [((3 : Nat), LB.var [SV.arr (2 : Nat) (Sh.int IntKind.i64) w]),
 ((12 : Nat),
 LB.row (48 : Nat) ((Sh.int IntKind.i64).pair (Sh.int IntKind.i64))
 (List.replicate (0 : Nat) ((Sh.int IntKind.i64).pair (Sh.int IntKind.i64)).dflt))] })) := by kernel_rfl
theorem vc_rbL (b w : List Int) (o : List (Int × Int)) (p : Int) (Q : List SV → List (Nat × LB) → Prop) (R : List Item → PS → Prop) : sy tt G0 D11 Try.f15.ntmps Try.f15.results.toList Q R 1000 (hd Try.f15 0) ⟨[(0, .sl (.int .u8) b), (3, .ptr 3 0), (6, .win true (.pair (.int .i64) (.int .i64)) 12 0 o.length), (7, .int .i64 p)], [(3, .var [.arr 2 (.int .i64) w]), (12, .row 48 (.pair (.int .i64) (.int .i64)) o)]⟩ =
    (bc (decide (p < (↑b.length : Int)))
 (ctEn.pre (b, p, w, ()) ∧
 (0 : Nat) + (1 : Nat) ≤
 ((List.replicate (1 : Nat) ((Sh.int IntKind.i64).pair (Sh.int IntKind.i64)).dflt).set (0 : Nat)
 (p, endV b p w)).length ∧
 o.length = o.length ∧
 (0 : Nat) = (0 : Nat) ∧
 o.length +
 (winL
 ((fun self => self.6)
 (mkT (2 : Nat) (16 : Nat) true (TK.struct [((0 : Nat), (3 : TypeId)), ((1 : Nat), (3 : TypeId))])
 ((Sh.int IntKind.i64).pair (Sh.int IntKind.i64)) (some IntKind.i64)))
 (0 : Nat) (1 : Nat)
 ((List.replicate (1 : Nat) ((Sh.int IntKind.i64).pair (Sh.int IntKind.i64)).dflt).set (0 : Nat)
 (p, endV b p w))).length <
 (2 : Nat) ^ (30 : Nat) ∧
 (16 : Nat) ≤ (2 : Nat) ^ (10 : Nat) ∧
 R (hd Try.f15 (0 : Nat))
 {
 env :=
 [((0 : Nat), SV.sl (Sh.int IntKind.u8) b), ((3 : Nat), SV.ptr (3 : Nat) (0 : Nat)),
 ((6 : Nat),
 SV.win true ((Sh.int IntKind.i64).pair (Sh.int IntKind.i64)) (26 : Nat) (0 : Nat)
 (o.length +
 (winL
 ((fun self => self.6)
 (mkT (2 : Nat) (16 : Nat) true
 (TK.struct [((0 : Nat), (3 : TypeId)), ((1 : Nat), (3 : TypeId))])
 ((Sh.int IntKind.i64).pair (Sh.int IntKind.i64)) (some IntKind.i64)))
 (0 : Nat) (1 : Nat)
 ((List.replicate (1 : Nat) ((Sh.int IntKind.i64).pair (Sh.int IntKind.i64)).dflt).set
 (0 : Nat) (p, endV b p w))).length)),
 ((7 : Nat), SV.int IntKind.i64 (endV b p w)), ((8 : Nat), SV.int IntKind.i64 (endV b p w)),
 ((13 : Nat), SV.int IntKind.i64 p), ((14 : Nat), SV.sl (Sh.int IntKind.u8) b),
 ((15 : Nat), SV.int IntKind.i64 (↑b.length : Int)),
 ((16 : Nat), SV.bool (decide (p < (↑b.length : Int)))), ((17 : Nat), SV.sl (Sh.int IntKind.u8) b),
 ((18 : Nat), SV.int IntKind.i64 p), ((19 : Nat), SV.arr (2 : Nat) (Sh.int IntKind.i64) w),
 ((20 : Nat), SV.int IntKind.i64 (endV b p w)), ((21 : Nat), SV.dead),
 ((22 : Nat), SV.int IntKind.i64 p), ((23 : Nat), SV.int IntKind.i64 (endV b p w)),
 ((24 : Nat), SV.agg [SV.int IntKind.i64 p, SV.int IntKind.i64 (endV b p w)]),
 ((25 : Nat),
 SV.win true ((Sh.int IntKind.i64).pair (Sh.int IntKind.i64)) (25 : Nat) (0 : Nat) (1 : Nat)),
 ((26 : Nat),
 SV.win true ((Sh.int IntKind.i64).pair (Sh.int IntKind.i64)) (26 : Nat) (0 : Nat)
 (o.length +
 (winL
 ((fun self => self.6)
 (mkT (2 : Nat) (16 : Nat) true
 (TK.struct [((0 : Nat), (3 : TypeId)), ((1 : Nat), (3 : TypeId))])
 ((Sh.int IntKind.i64).pair (Sh.int IntKind.i64)) (some IntKind.i64)))
 (0 : Nat) (1 : Nat)
 ((List.replicate (1 : Nat) ((Sh.int IntKind.i64).pair (Sh.int IntKind.i64)).dflt).set
 (0 : Nat) (p, endV b p w))).length)),
 ((27 : Nat), SV.int IntKind.i64 (endV b p w))],
 blk :=
 [((3 : Nat), LB.var [SV.arr (2 : Nat) (Sh.int IntKind.i64) w]),
 ((25 : Nat),
 LB.row (48 : Nat) ((Sh.int IntKind.i64).pair (Sh.int IntKind.i64))
 ((List.replicate (1 : Nat) ((Sh.int IntKind.i64).pair (Sh.int IntKind.i64)).dflt).set
 (0 : Nat) (p, endV b p w))),
 ((26 : Nat),
 LB.row (48 : Nat) ((Sh.int IntKind.i64).pair (Sh.int IntKind.i64))
 (o ++
 winL ((Sh.int IntKind.i64).pair (Sh.int IntKind.i64)) (0 : Nat) (1 : Nat)
 ((List.replicate (1 : Nat) ((Sh.int IntKind.i64).pair (Sh.int IntKind.i64)).dflt).set
 (0 : Nat) (p, endV b p w))))] })
 (Q
 [SV.win true ((Sh.int IntKind.i64).pair (Sh.int IntKind.i64)) (12 : Nat) (0 : Nat) o.length,
 SV.int IntKind.i64 (0 : Int)]
 [((3 : Nat), LB.var [SV.arr (2 : Nat) (Sh.int IntKind.i64) w]),
 ((12 : Nat), LB.row (48 : Nat) ((Sh.int IntKind.i64).pair (Sh.int IntKind.i64)) o)])) := by kernel_rfl
end Go.Proofs.Ytpdhohkamhmjkaa
namespace Go.Proofs.Ytpdhohkamhmjkaa
open Go.Px Go.Ax
attribute [local irreducible] Go.Px.sy Go.Px.syE
def ctRb : Ctr := ⟨[slB, paS], fun x => preT x.1, fun x => [.win true rgS 0 0 (List.length (blkO x.1 (pr2 x.2.1).1 (pr2 x.2.1).2)), .int .i64 (errO (pr2 x.2.1).1 (pr2 x.2.1).2)], fun x => [.row 48 rgS (blkO x.1 (pr2 x.2.1).1 (pr2 x.2.1).2)]⟩
theorem rb_loop {b w : List Int} {l m : Nat} (hb : preT b) (hl : limR (pr2 w).1 (pr2 w).2 = true) (hw : (pr2 w).1 = (l : Int) ∧ (pr2 w).2 = (m : Int)) (hlm : 4 ≤ l ∧ l ≤ m ∧ m ≤ 4096) : ∀ (k p : Nat) (o : List (Int × Int)), b.length - p ≤ k → p ≤ b.length → o.length ≤ p → o ++ blksF b l m k p = blks b l m →
    GD 15 Try.f15 (QC ctRb (b, w, ())) (hd Try.f15 0) ⟨[(0, .sl (.int .u8) b), (3, .ptr 3 0), (6, .win true rgS 12 0 o.length), (7, .int .i64 (p : Nat))], [(3, .var [.arr 2 (.int .i64) w]), (12, .row 48 rgS o)]⟩ := by
  have hb1 := hb.1
  have he : errO (pr2 w).1 (pr2 w).2 = 0 := by rw [errO, hl]; rfl
  have hO : blkO b (pr2 w).1 (pr2 w).2 = blks b l m := by rw [blkO, hl, hw.1, hw.2]; rfl
  have fin : ∀ (p k : Nat) (o : List (Int × Int)), ¬ p < b.length → o ++ blksF b l m k p = blks b l m → QC ctRb (b, w, ()) [.win true rgS 12 0 o.length, .int .i64 0] [(3, .var [.arr 2 (.int .i64) w]), (12, .row 48 rgS o)] := by
    intro p k o hp h
    have e : blksF b l m k p = [] := by
      cases k with
      | zero => rfl
      | succ k => rw [blksF, if_neg hp]
    rw [e, List.append_nil] at h
    refine QC.row1 (e := rgS) (et := 48) (xs := o) (n := 0) ?_ ?_ rfl rfl rfl
    · show [SV.win true rgS 0 0 (blkO b (pr2 w).1 (pr2 w).2).length, SV.int .i64 (errO (pr2 w).1 (pr2 w).2)] = _
      rw [he, hO, h]
    · show [LB.row 48 rgS (blkO b (pr2 w).1 (pr2 w).2)] = _
      rw [hO, h]
  intro k
  induction k with
  | zero =>
    intro p o hk hp ho h
    refine sy_go dx11 (vc_rbL b w o p _ _) ?_
    rw [decide_eq_false (by omega), bc_f]
    exact fin p 0 o (by omega) h
  | succ k ih =>
    intro p o hk hp ho h
    refine sy_go dx11 (vc_rbL b w o p _ _) ?_
    by_cases hlt : p < b.length
    · have hdl : (b.drop p).length = b.length - p := List.length_drop
      have hf := firstLen_bd (b := b.drop p) (l := l) (m := m) (by omega) (by omega)
      have ev : endV b p w = ((p + firstLen (b.drop p) l m : Nat) : Int) := by
        rw [endV, hw.1, hw.2]; simp only [Int.toNat_natCast]; omega
      rw [decide_eq_true (show (p : Int) < (b.length : Int) by omega), bc_t, ev]
      refine ⟨(show preEn b p w from ⟨⟨by omega, by omega⟩, hb, hl⟩), Nat.le_refl _, rfl, rfl, ?_, by decide, ?_⟩
      · show o.length + 1 < 2 ^ 30
        omega
      · rw [blksF, if_pos hlt] at h
        have k2 := ih (p + firstLen (b.drop p) l m) (o ++ [((p : Int), ((p + firstLen (b.drop p) l m : Nat) : Int))]) (by omega) (by omega) (by rw [List.length_append, List.length_singleton]; omega) (by rw [List.append_assoc]; exact h)
        refine Good.onlyR k2 [(12, 26)] rfl ⟨rfl, rfl, ?_, rfl, trivial⟩ ⟨rfl, rfl, trivial⟩
        show some (SV.win true rgS 26 0 (o.length + 1)) = some (SV.win true rgS 26 0 (o ++ [((p : Int), ((p + firstLen (b.drop p) l m : Nat) : Int))]).length)
        rw [List.length_append, List.length_singleton]
    · rw [decide_eq_false (by omega), bc_f]
      exact fin p _ o hlt h
theorem rb_run (b w : List Int) (hp : preT b) : sy tt G0 D11 Try.f15.ntmps Try.f15.results.toList (QC ctRb (b, w, ())) (Px.Good Try.prog tt G0 15 Try.f15.ntmps Try.f15.results.toList (QC ctRb (b, w, ()))) 1000 [.code (bodyOf Try.f15)] (entry [slB, paS] (b, w, ())) := by
  rw [vc_rb]
  refine ⟨trivial, bc_of (fun h => ?_) (fun h => ?_)⟩
  · have h : limR (pr2 w).1 (pr2 w).2 = false := by simpa using h
    have e1 : blkO b (pr2 w).1 (pr2 w).2 = [] := by rw [blkO, h]; rfl
    have e2 : errO (pr2 w).1 (pr2 w).2 = 1 := by rw [errO, h]; rfl
    refine QC.nil1 (e := rgS) (et := 48) ?_ ?_ (by decide)
    · show [SV.win true rgS 0 0 (blkO b (pr2 w).1 (pr2 w).2).length, SV.int .i64 (errO (pr2 w).1 (pr2 w).2)] = _
      rw [e1, e2]; rfl
    · show [LB.row 48 rgS (blkO b (pr2 w).1 (pr2 w).2)] = _
      rw [e1]
  · have h : limR (pr2 w).1 (pr2 w).2 = true := by simpa using h
    have hlim : 4 ≤ (pr2 w).1 ∧ (pr2 w).1 ≤ (pr2 w).2 ∧ (pr2 w).2 ≤ 4096 := of_decide_eq_true h
    exact (rb_loop (l := (pr2 w).1.toNat) (m := (pr2 w).2.toNat) hp h ⟨by omega, by omega⟩ (by omega) b.length 0 [] (by omega) (Nat.zero_le _) (Nat.le_refl _) rfl).only ⟨rfl, rfl, rfl, rfl, trivial⟩ ⟨rfl, rfl, trivial⟩
theorem rb_held : Held Try.prog G0 15 ctRb := Held.run dx11 (fn := Try.f15) rfl rfl ⟨by decide, by decide⟩ fun x hp => rb_run x.1 x.2.1 hp
abbrev D12 : CV := (15, .inl ctRb) :: D11
theorem dx12 : CxOK Try.prog tt G0 D12 := dx11.cons rb_held (fn := Try.f15) rfl rfl rfl
end Go.Proofs.Ytpdhohkamhmjkaa
namespace Go.Proofs.Ytpdhohkamhmjkaa
open Go.Px Go.Ax
set_option maxRecDepth 100000
theorem vc_rc (b w : List Int) (Q : List SV → List (Nat × LB) → Prop) (R : List Item → PS → Prop) : sy tt G0 D12 Try.f13.ntmps Try.f13.results.toList Q R 1000 [.code (bodyOf Try.f13)] (entry [.sl (.int .u8), .arr 2 (.int .i64)] (b, w, ())) =
    (ctRb.pre (b, w, ()) ∧
 R (hd Try.f13 (0 : Nat))
 {
 env :=
 [((0 : Nat), SV.sl (Sh.int IntKind.u8) b), ((1 : Nat), SV.arr (2 : Nat) (Sh.int IntKind.i64) w),
 ((3 : Nat), SV.ptr (3 : Nat) (0 : Nat)), ((4 : Nat), SV.nils), ((5 : Nat), SV.int IntKind.i64 (0 : Int)),
 ((6 : Nat),
 SV.win true ((Sh.int IntKind.i64).pair (Sh.int IntKind.i64)) (1053248 : Nat) (0 : Nat)
 (blkO b (pr2 w).fst (pr2 w).snd).length),
 ((7 : Nat), SV.int IntKind.i64 (errO (pr2 w).fst (pr2 w).snd)),
 ((8 : Nat), SV.win true (Sh.int IntKind.i64) (16 : Nat) (0 : Nat) (0 : Nat)),
 ((9 : Nat), SV.int IntKind.i64 (0 : Int)),
 ((10 : Nat),
 SV.tup
 [SV.win true ((Sh.int IntKind.i64).pair (Sh.int IntKind.i64)) (1053248 : Nat) (0 : Nat)
 (blkO b (pr2 w).fst (pr2 w).snd).length,
 SV.int IntKind.i64 (errO (pr2 w).fst (pr2 w).snd)]),
 ((11 : Nat), SV.sl (Sh.int IntKind.u8) b), ((12 : Nat), SV.arr (2 : Nat) (Sh.int IntKind.i64) w),
 ((13 : Nat),
 SV.tup
 [SV.win true ((Sh.int IntKind.i64).pair (Sh.int IntKind.i64)) (1053248 : Nat) (0 : Nat)
 (blkO b (pr2 w).fst (pr2 w).snd).length,
 SV.int IntKind.i64 (errO (pr2 w).fst (pr2 w).snd)]),
 ((14 : Nat),
 SV.win true ((Sh.int IntKind.i64).pair (Sh.int IntKind.i64)) (1053248 : Nat) (0 : Nat)
 (blkO b (pr2 w).fst (pr2 w).snd).length),
 ((15 : Nat), SV.int IntKind.i64 (errO (pr2 w).fst (pr2 w).snd)),
 ((16 : Nat), SV.win true (Sh.int IntKind.i64) (16 : Nat) (0 : Nat) (0 : Nat))],
 blk :=
 [((3 : Nat), LB.var [SV.arr (2 : Nat) (Sh.int IntKind.i64) w]),
 ((16 : Nat), LB.row (3 : Nat) (Sh.int IntKind.i64) (List.replicate (0 : Nat) (Sh.int IntKind.i64).dflt)),
 ((1053248 : Nat),
 LB.row (48 : Nat) ((Sh.int IntKind.i64).pair (Sh.int IntKind.i64)) (blkO b (pr2 w).fst (pr2 w).snd))] }) := by kernel_rfl
theorem vc_rcL (r : List (Int × Int)) (o : List Int) (i e : Int) (Q : List SV → List (Nat × LB) → Prop) (R : List Item → PS → Prop) : sy tt G0 D12 Try.f13.ntmps Try.f13.results.toList Q (fun it S => R it (keepS [6, 7, 8, 9, 31] [16, 1053248, 31] S)) 1000 (hd Try.f13 0) ⟨[(6, .win true (.pair (.int .i64) (.int .i64)) 1053248 0 r.length), (7, .int .i64 e), (8, .win true (.int .i64) 16 0 o.length), (9, .int .i64 i)], [(16, .row 3 (.int .i64) o), (1053248, .row 48 (.pair (.int .i64) (.int .i64)) r)]⟩ =
    (bc (decide (IntKind.i64.wrap (i + (1 : Int)) < (↑r.length : Int)))
 ((0 : Int) ≤ i ∧
 i < (↑r.length : Int) ∧
 (0 : Nat) + i.toNat < r.length ∧
 (0 : Nat) + (1 : Nat) ≤
 ((List.replicate (1 : Nat) (Sh.int IntKind.i64).dflt).set (0 : Nat)
 (gt ((Sh.int IntKind.i64).pair (Sh.int IntKind.i64)) r ((0 : Nat) + i.toNat)).snd).length ∧
 o.length = o.length ∧
 (0 : Nat) = (0 : Nat) ∧
 o.length +
 (winL
 ((fun self => self.6)
 (mkT (1 : Nat) (8 : Nat) false (TK.int IntKind.i64) (Sh.int IntKind.i64) none))
 (0 : Nat) (1 : Nat)
 ((List.replicate (1 : Nat) (Sh.int IntKind.i64).dflt).set (0 : Nat)
 (gt ((Sh.int IntKind.i64).pair (Sh.int IntKind.i64)) r ((0 : Nat) + i.toNat)).snd)).length <
 (2 : Nat) ^ (30 : Nat) ∧
 (8 : Nat) ≤ (2 : Nat) ^ (10 : Nat) ∧
 R (hd Try.f13 (0 : Nat))
 {
 env :=
 [((6 : Nat),
 SV.win true ((Sh.int IntKind.i64).pair (Sh.int IntKind.i64)) (1053248 : Nat) (0 : Nat)
 r.length),
 ((7 : Nat), SV.int IntKind.i64 e),
 ((8 : Nat),
 SV.win true (Sh.int IntKind.i64) (31 : Nat) (0 : Nat)
 (o.length +
 (winL
 ((fun self => self.6)
 (mkT (1 : Nat) (8 : Nat) false (TK.int IntKind.i64) (Sh.int IntKind.i64) none))
 (0 : Nat) (1 : Nat)
 ((List.replicate (1 : Nat) (Sh.int IntKind.i64).dflt).set (0 : Nat)
 (gt ((Sh.int IntKind.i64).pair (Sh.int IntKind.i64)) r
 ((0 : Nat) + i.toNat)).snd)).length)),
 ((9 : Nat), SV.int IntKind.i64 (IntKind.i64.wrap (i + (1 : Int)))),
 ((31 : Nat),
 SV.win true (Sh.int IntKind.i64) (31 : Nat) (0 : Nat)
 (o.length +
 (winL
 ((fun self => self.6)
 (mkT (1 : Nat) (8 : Nat) false (TK.int IntKind.i64) (Sh.int IntKind.i64) none))
 (0 : Nat) (1 : Nat)
 ((List.replicate (1 : Nat) (Sh.int IntKind.i64).dflt).set (0 : Nat)
 (gt ((Sh.int IntKind.i64).pair (Sh.int IntKind.i64)) r
 ((0 : Nat) + i.toNat)).snd)).length))],
 blk :=
 [((31 : Nat),
 LB.row (3 : Nat) (Sh.int IntKind.i64)
 (o ++
 winL (Sh.int IntKind.i64) (0 : Nat) (1 : Nat)
 ((List.replicate (1 : Nat) (Sh.int IntKind.i64).dflt).set (0 : Nat)
 (gt ((Sh.int IntKind.i64).pair (Sh.int IntKind.i64)) r
 ((0 : Nat) + i.toNat)).snd))),
 ((1053248 : Nat), LB.row (48 : Nat) ((Sh.int IntKind.i64).pair (Sh.int IntKind.i64)) r)] })
 (Q [SV.win true (Sh.int IntKind.i64) (16 : Nat) (0 : Nat) o.length, SV.int IntKind.i64 e]
 [((16 : Nat), LB.row (3 : Nat) (Sh.int IntKind.i64) o),
 ((1053248 : Nat), LB.row (48 : Nat) ((Sh.int IntKind.i64).pair (Sh.int IntKind.i64)) r)])) := by kernel_rfl
theorem vc_rm (x : List (List Int)) (w : List Int) (Q : List SV → List (Nat × LB) → Prop) (R : List Item → PS → Prop) : sy tt G0 D12 Try.f17.ntmps Try.f17.results.toList Q R 1000 [.code (bodyOf Try.f17)] (entry [.arr 2 (.sl (.int .u8)), .arr 2 (.int .i64)] (x, w, ())) =
    ((0 : Int) ≤ (0 : Int) ∧
 (0 : Int) < (↑(2 : Nat) : Int) ∧
 Int.toNat (0 : Int) < (2 : Nat) ∧
 ctRb.pre (gt (Sh.int IntKind.u8).sl x (Int.toNat (0 : Int)), w, ()) ∧
 (0 : Int) ≤ (1 : Int) ∧
 (1 : Int) < (↑(2 : Nat) : Int) ∧
 Int.toNat (1 : Int) < (2 : Nat) ∧
 ctRb.pre (gt (Sh.int IntKind.u8).sl x (Int.toNat (1 : Int)), w, ()) ∧
 R (hd Try.f17 (0 : Nat))
 {
 env :=
 [((0 : Nat), SV.arr (2 : Nat) (Sh.int IntKind.u8).sl x),
 ((1 : Nat), SV.arr (2 : Nat) (Sh.int IntKind.i64) w), ((2 : Nat), SV.ptr (2 : Nat) (0 : Nat)),
 ((3 : Nat), SV.ptr (3 : Nat) (0 : Nat)), ((4 : Nat), SV.nils),
 ((5 : Nat), SV.int IntKind.i64 (0 : Int)),
 ((6 : Nat),
 SV.win true ((Sh.int IntKind.i64).pair (Sh.int IntKind.i64)) (1069632 : Nat) (0 : Nat)
 (blkO (gt (Sh.int IntKind.u8).sl x (Int.toNat (0 : Int))) (pr2 w).fst (pr2 w).snd).length),
 ((7 : Nat), SV.int IntKind.i64 (errO (pr2 w).fst (pr2 w).snd)),
 ((8 : Nat),
 SV.win true ((Sh.int IntKind.i64).pair (Sh.int IntKind.i64)) (1098304 : Nat) (0 : Nat)
 (blkO (gt (Sh.int IntKind.u8).sl x (Int.toNat (1 : Int))) (pr2 w).fst (pr2 w).snd).length),
 ((9 : Nat), SV.int IntKind.i64 (errO (pr2 w).fst (pr2 w).snd)),
 ((10 : Nat),
 SV.win true (Sh.arr (2 : Nat) (Sh.int IntKind.i64)) (27 : Nat) (0 : Nat) (0 : Nat)),
 ((11 : Nat), SV.int IntKind.i64 (0 : Int)),
 ((13 : Nat),
 SV.tup
 [SV.win true ((Sh.int IntKind.i64).pair (Sh.int IntKind.i64)) (1069632 : Nat) (0 : Nat)
 (blkO (gt (Sh.int IntKind.u8).sl x (Int.toNat (0 : Int))) (pr2 w).fst
 (pr2 w).snd).length,
 SV.int IntKind.i64 (errO (pr2 w).fst (pr2 w).snd)]),
 ((14 : Nat), SV.aep (Sh.int IntKind.u8).sl (2 : Nat) (0 : Nat) (0 : Nat) (0 : Nat)),
 ((15 : Nat), SV.sl (Sh.int IntKind.u8) (gt (Sh.int IntKind.u8).sl x (Int.toNat (0 : Int)))),
 ((16 : Nat), SV.arr (2 : Nat) (Sh.int IntKind.i64) w),
 ((17 : Nat),
 SV.tup
 [SV.win true ((Sh.int IntKind.i64).pair (Sh.int IntKind.i64)) (1069632 : Nat) (0 : Nat)
 (blkO (gt (Sh.int IntKind.u8).sl x (Int.toNat (0 : Int))) (pr2 w).fst
 (pr2 w).snd).length,
 SV.int IntKind.i64 (errO (pr2 w).fst (pr2 w).snd)]),
 ((18 : Nat),
 SV.win true ((Sh.int IntKind.i64).pair (Sh.int IntKind.i64)) (1069632 : Nat) (0 : Nat)
 (blkO (gt (Sh.int IntKind.u8).sl x (Int.toNat (0 : Int))) (pr2 w).fst (pr2 w).snd).length),
 ((19 : Nat), SV.int IntKind.i64 (errO (pr2 w).fst (pr2 w).snd)),
 ((20 : Nat),
 SV.tup
 [SV.win true ((Sh.int IntKind.i64).pair (Sh.int IntKind.i64)) (1098304 : Nat) (0 : Nat)
 (blkO (gt (Sh.int IntKind.u8).sl x (Int.toNat (1 : Int))) (pr2 w).fst
 (pr2 w).snd).length,
 SV.int IntKind.i64 (errO (pr2 w).fst (pr2 w).snd)]),
 ((21 : Nat), SV.aep (Sh.int IntKind.u8).sl (2 : Nat) (0 : Nat) (1 : Nat) (0 : Nat)),
 ((22 : Nat), SV.sl (Sh.int IntKind.u8) (gt (Sh.int IntKind.u8).sl x (Int.toNat (1 : Int)))),
 ((23 : Nat), SV.arr (2 : Nat) (Sh.int IntKind.i64) w),
 ((24 : Nat),
 SV.tup
 [SV.win true ((Sh.int IntKind.i64).pair (Sh.int IntKind.i64)) (1098304 : Nat) (0 : Nat)
 (blkO (gt (Sh.int IntKind.u8).sl x (Int.toNat (1 : Int))) (pr2 w).fst
 (pr2 w).snd).length,
 SV.int IntKind.i64 (errO (pr2 w).fst (pr2 w).snd)]),
 ((25 : Nat),
 SV.win true ((Sh.int IntKind.i64).pair (Sh.int IntKind.i64)) (1098304 : Nat) (0 : Nat)
 (blkO (gt (Sh.int IntKind.u8).sl x (Int.toNat (1 : Int))) (pr2 w).fst (pr2 w).snd).length),
 ((26 : Nat), SV.int IntKind.i64 (errO (pr2 w).fst (pr2 w).snd)),
 ((27 : Nat),
 SV.win true (Sh.arr (2 : Nat) (Sh.int IntKind.i64)) (27 : Nat) (0 : Nat) (0 : Nat))],
 blk :=
 [((2 : Nat), LB.var [SV.arr (2 : Nat) (Sh.int IntKind.u8).sl x]),
 ((3 : Nat), LB.var [SV.arr (2 : Nat) (Sh.int IntKind.i64) w]),
 ((27 : Nat),
 LB.row (26 : Nat) (Sh.arr (2 : Nat) (Sh.int IntKind.i64))
 (List.replicate (0 : Nat) (Sh.arr (2 : Nat) (Sh.int IntKind.i64)).dflt)),
 ((1069632 : Nat),
 LB.row (48 : Nat) ((Sh.int IntKind.i64).pair (Sh.int IntKind.i64))
 (blkO (gt (Sh.int IntKind.u8).sl x (Int.toNat (0 : Int))) (pr2 w).fst (pr2 w).snd)),
 ((1098304 : Nat),
 LB.row (48 : Nat) ((Sh.int IntKind.i64).pair (Sh.int IntKind.i64))
 (blkO (gt (Sh.int IntKind.u8).sl x (Int.toNat (1 : Int))) (pr2 w).fst (pr2 w).snd))] }) := by kernel_rfl
end Go.Proofs.Ytpdhohkamhmjkaa
namespace Go.Proofs.Ytpdhohkamhmjkaa
open Go.Px Go.Ax
set_option maxRecDepth 100000
theorem vc_rmK (x : List (List Int)) (r s : List (Int × Int)) (o : List (List Int)) (k e : Int) (Q : List SV → List (Nat × LB) → Prop) (R : List Item → PS → Prop) : sy tt G0 D12 Try.f17.ntmps Try.f17.results.toList Q (fun it S => R it (keepS [2, 6, 7, 8, 10, 11, 12, 60] [2, 27, 60, 1069632, 1098304] S)) 1000 (hd Try.f17 0) ⟨[(2, .ptr 2 0), (6, .win true (.pair (.int .i64) (.int .i64)) 1069632 0 r.length), (7, .int .i64 e), (8, .win true (.pair (.int .i64) (.int .i64)) 1098304 0 s.length), (10, .win true (.arr 2 (.int .i64)) 27 0 o.length), (11, .int .i64 k)], [(2, .var [.arr 2 (.sl (.int .u8)) x]), (27, .row 26 (.arr 2 (.int .i64)) o), (1069632, .row 48 (.pair (.int .i64) (.int .i64)) r), (1098304, .row 48 (.pair (.int .i64) (.int .i64)) s)]⟩ =
    (bc (decide (k < (↑s.length : Int)))
 (R (hd Try.f17 (1 : Nat))
 {
 env :=
 [((2 : Nat), SV.ptr (2 : Nat) (0 : Nat)),
 ((6 : Nat), SV.win true ((Sh.int IntKind.i64).pair (Sh.int IntKind.i64)) (1069632 : Nat) (0 : Nat) r.length),
 ((7 : Nat), SV.int IntKind.i64 e),
 ((8 : Nat), SV.win true ((Sh.int IntKind.i64).pair (Sh.int IntKind.i64)) (1098304 : Nat) (0 : Nat) s.length),
 ((10 : Nat), SV.win true (Sh.arr (2 : Nat) (Sh.int IntKind.i64)) (27 : Nat) (0 : Nat) o.length),
 ((11 : Nat), SV.int IntKind.i64 k), ((12 : Nat), SV.int IntKind.i64 (0 : Int))],
 blk :=
 [((2 : Nat), LB.var [SV.arr (2 : Nat) (Sh.int IntKind.u8).sl x]),
 ((27 : Nat), LB.row (26 : Nat) (Sh.arr (2 : Nat) (Sh.int IntKind.i64)) o),
 ((1069632 : Nat), LB.row (48 : Nat) ((Sh.int IntKind.i64).pair (Sh.int IntKind.i64)) r),
 ((1098304 : Nat), LB.row (48 : Nat) ((Sh.int IntKind.i64).pair (Sh.int IntKind.i64)) s)] })
 (Q [SV.win true (Sh.arr (2 : Nat) (Sh.int IntKind.i64)) (27 : Nat) (0 : Nat) o.length, SV.int IntKind.i64 e]
 [((2 : Nat), LB.var [SV.arr (2 : Nat) (Sh.int IntKind.u8).sl x]),
 ((27 : Nat), LB.row (26 : Nat) (Sh.arr (2 : Nat) (Sh.int IntKind.i64)) o),
 ((1069632 : Nat), LB.row (48 : Nat) ((Sh.int IntKind.i64).pair (Sh.int IntKind.i64)) r),
 ((1098304 : Nat), LB.row (48 : Nat) ((Sh.int IntKind.i64).pair (Sh.int IntKind.i64)) s)])) := by kernel_rfl
theorem vc_rmI (x : List (List Int)) (r s : List (Int × Int)) (o : List (List Int)) (k i e : Int) (Q : List SV → List (Nat × LB) → Prop) (R : List Item → PS → Prop) : sy tt G0 D12 Try.f17.ntmps Try.f17.results.toList Q (fun it S => R it (keepS [2, 6, 7, 8, 10, 11, 12, 60] [2, 27, 60, 1069632, 1098304] S)) 1000 (hd Try.f17 1) ⟨[(2, .ptr 2 0), (6, .win true (.pair (.int .i64) (.int .i64)) 1069632 0 r.length), (7, .int .i64 e), (8, .win true (.pair (.int .i64) (.int .i64)) 1098304 0 s.length), (10, .win true (.arr 2 (.int .i64)) 27 0 o.length), (11, .int .i64 k), (12, .int .i64 i)], [(2, .var [.arr 2 (.sl (.int .u8)) x]), (27, .row 26 (.arr 2 (.int .i64)) o), (1069632, .row 48 (.pair (.int .i64) (.int .i64)) r), (1098304, .row 48 (.pair (.int .i64) (.int .i64)) s)]⟩ =
    (bc (decide (i < (↑r.length : Int)))
 ((0 : Int) ≤ (0 : Int) ∧
 (0 : Int) < (↑(2 : Nat) : Int) ∧
 Int.toNat (0 : Int) < (2 : Nat) ∧
 (0 : Int) ≤ i ∧
 i < (↑r.length : Int) ∧
 (0 : Nat) + i.toNat < r.length ∧
 ctPi.pre
 (gt (Sh.int IntKind.u8).sl x (Int.toNat (0 : Int)),
 ((gt ((Sh.int IntKind.i64).pair (Sh.int IntKind.i64)) r ((0 : Nat) + i.toNat)).fst,
 (gt ((Sh.int IntKind.i64).pair (Sh.int IntKind.i64)) r ((0 : Nat) + i.toNat)).snd),
 ()) ∧
 (0 : Int) ≤ (1 : Int) ∧
 (1 : Int) < (↑(2 : Nat) : Int) ∧
 Int.toNat (1 : Int) < (2 : Nat) ∧
 (0 : Int) ≤ k ∧
 k < (↑s.length : Int) ∧
 (0 : Nat) + k.toNat < s.length ∧
 ctPi.pre
 (gt (Sh.int IntKind.u8).sl x (Int.toNat (1 : Int)),
 ((gt ((Sh.int IntKind.i64).pair (Sh.int IntKind.i64)) s ((0 : Nat) + k.toNat)).fst,
 (gt ((Sh.int IntKind.i64).pair (Sh.int IntKind.i64)) s ((0 : Nat) + k.toNat)).snd),
 ()) ∧
 ctSame.pre
 (Px.part (gt (Sh.int IntKind.u8).sl x (Int.toNat (0 : Int)))
 (some
 (gt ((Sh.int IntKind.i64).pair (Sh.int IntKind.i64)) r
 ((0 : Nat) + i.toNat)).fst)
 (some
 (gt ((Sh.int IntKind.i64).pair (Sh.int IntKind.i64)) r
 ((0 : Nat) + i.toNat)).snd),
 Px.part (gt (Sh.int IntKind.u8).sl x (Int.toNat (1 : Int)))
 (some
 (gt ((Sh.int IntKind.i64).pair (Sh.int IntKind.i64)) s
 ((0 : Nat) + k.toNat)).fst)
 (some
 (gt ((Sh.int IntKind.i64).pair (Sh.int IntKind.i64)) s
 ((0 : Nat) + k.toNat)).snd),
 ()) ∧
 bc
 (eqI
 (Px.part (gt (Sh.int IntKind.u8).sl x (Int.toNat (0 : Int)))
 (some
 (gt ((Sh.int IntKind.i64).pair (Sh.int IntKind.i64)) r
 ((0 : Nat) + i.toNat)).fst)
 (some
 (gt ((Sh.int IntKind.i64).pair (Sh.int IntKind.i64)) r
 ((0 : Nat) + i.toNat)).snd))
 (Px.part (gt (Sh.int IntKind.u8).sl x (Int.toNat (1 : Int)))
 (some
 (gt ((Sh.int IntKind.i64).pair (Sh.int IntKind.i64)) s
 ((0 : Nat) + k.toNat)).fst)
 (some
 (gt ((Sh.int IntKind.i64).pair (Sh.int IntKind.i64)) s
 ((0 : Nat) + k.toNat)).snd)))
 ((0 : Nat) + (1 : Nat) ≤
 ((List.replicate (1 : Nat) (Sh.arr (2 : Nat) (Sh.int IntKind.i64)).dflt).set
 (0 : Nat)
 ((List.set (Sh.arr (2 : Nat) (Sh.int IntKind.i64)).dflt (0 : Nat) i).set
 (1 : Nat) k)).length ∧
 o.length = o.length ∧
 (0 : Nat) = (0 : Nat) ∧
 o.length +
 (winL
 ((fun self => self.6)
 (mkT (2 : Nat) (16 : Nat) true (TK.array (2 : Nat) (3 : TypeId))
 (Sh.arr (2 : Nat) (Sh.int IntKind.i64)) (some IntKind.i64)))
 (0 : Nat) (1 : Nat)
 ((List.replicate (1 : Nat)
 (Sh.arr (2 : Nat) (Sh.int IntKind.i64)).dflt).set
 (0 : Nat)
 ((List.set (Sh.arr (2 : Nat) (Sh.int IntKind.i64)).dflt (0 : Nat)
 i).set
 (1 : Nat) k))).length <
 (2 : Nat) ^ (30 : Nat) ∧
 (16 : Nat) ≤ (2 : Nat) ^ (10 : Nat) ∧
 R (hd Try.f17 (0 : Nat))
 {
 env :=
 [((2 : Nat), SV.ptr (2 : Nat) (0 : Nat)),
 ((6 : Nat),
 SV.win true ((Sh.int IntKind.i64).pair (Sh.int IntKind.i64))
 (1069632 : Nat) (0 : Nat) r.length),
 ((7 : Nat), SV.int IntKind.i64 e),
 ((8 : Nat),
 SV.win true ((Sh.int IntKind.i64).pair (Sh.int IntKind.i64))
 (1098304 : Nat) (0 : Nat) s.length),
 ((10 : Nat),
 SV.win true (Sh.arr (2 : Nat) (Sh.int IntKind.i64)) (60 : Nat)
 (0 : Nat)
 (o.length +
 (winL
 ((fun self => self.6)
 (mkT (2 : Nat) (16 : Nat) true
 (TK.array (2 : Nat) (3 : TypeId))
 (Sh.arr (2 : Nat) (Sh.int IntKind.i64))
 (some IntKind.i64)))
 (0 : Nat) (1 : Nat)
 ((List.replicate (1 : Nat)
 (Sh.arr (2 : Nat) (Sh.int IntKind.i64)).dflt).set
 (0 : Nat)
 ((List.set (Sh.arr (2 : Nat) (Sh.int IntKind.i64)).dflt
 (0 : Nat) i).set
 (1 : Nat) k))).length)),
 ((11 : Nat), SV.int IntKind.i64 (IntKind.i64.wrap (k + (1 : Int)))),
 ((12 : Nat), SV.int IntKind.i64 i),
 ((60 : Nat),
 SV.win true (Sh.arr (2 : Nat) (Sh.int IntKind.i64)) (60 : Nat)
 (0 : Nat)
 (o.length +
 (winL
 ((fun self => self.6)
 (mkT (2 : Nat) (16 : Nat) true
 (TK.array (2 : Nat) (3 : TypeId))
 (Sh.arr (2 : Nat) (Sh.int IntKind.i64))
 (some IntKind.i64)))
 (0 : Nat) (1 : Nat)
 ((List.replicate (1 : Nat)
 (Sh.arr (2 : Nat) (Sh.int IntKind.i64)).dflt).set
 (0 : Nat)
 ((List.set (Sh.arr (2 : Nat) (Sh.int IntKind.i64)).dflt
 (0 : Nat) i).set
 (1 : Nat) k))).length))],
 blk :=
 [((2 : Nat), LB.var [SV.arr (2 : Nat) (Sh.int IntKind.u8).sl x]),
 ((60 : Nat),
 LB.row (26 : Nat) (Sh.arr (2 : Nat) (Sh.int IntKind.i64))
 (o ++
 winL (Sh.arr (2 : Nat) (Sh.int IntKind.i64)) (0 : Nat)
 (1 : Nat)
 ((List.replicate (1 : Nat)
 (Sh.arr (2 : Nat) (Sh.int IntKind.i64)).dflt).set
 (0 : Nat)
 ((List.set (Sh.arr (2 : Nat) (Sh.int IntKind.i64)).dflt
 (0 : Nat) i).set
 (1 : Nat) k)))),
 ((1069632 : Nat),
 LB.row (48 : Nat) ((Sh.int IntKind.i64).pair (Sh.int IntKind.i64))
 r),
 ((1098304 : Nat),
 LB.row (48 : Nat) ((Sh.int IntKind.i64).pair (Sh.int IntKind.i64))
 s)] })
 (R (hd Try.f17 (1 : Nat))
 {
 env :=
 [((2 : Nat), SV.ptr (2 : Nat) (0 : Nat)),
 ((6 : Nat),
 SV.win true ((Sh.int IntKind.i64).pair (Sh.int IntKind.i64)) (1069632 : Nat)
 (0 : Nat) r.length),
 ((7 : Nat), SV.int IntKind.i64 e),
 ((8 : Nat),
 SV.win true ((Sh.int IntKind.i64).pair (Sh.int IntKind.i64)) (1098304 : Nat)
 (0 : Nat) s.length),
 ((10 : Nat),
 SV.win true (Sh.arr (2 : Nat) (Sh.int IntKind.i64)) (27 : Nat) (0 : Nat)
 o.length),
 ((11 : Nat), SV.int IntKind.i64 k),
 ((12 : Nat), SV.int IntKind.i64 (IntKind.i64.wrap (i + (1 : Int))))],
 blk :=
 [((2 : Nat), LB.var [SV.arr (2 : Nat) (Sh.int IntKind.u8).sl x]),
 ((27 : Nat), LB.row (26 : Nat) (Sh.arr (2 : Nat) (Sh.int IntKind.i64)) o),
 ((1069632 : Nat),
 LB.row (48 : Nat) ((Sh.int IntKind.i64).pair (Sh.int IntKind.i64)) r),
 ((1098304 : Nat),
 LB.row (48 : Nat) ((Sh.int IntKind.i64).pair (Sh.int IntKind.i64)) s)] }))
 (R (hd Try.f17 (0 : Nat))
 {
 env :=
 [((2 : Nat), SV.ptr (2 : Nat) (0 : Nat)),
 ((6 : Nat), SV.win true ((Sh.int IntKind.i64).pair (Sh.int IntKind.i64)) (1069632 : Nat) (0 : Nat) r.length),
 ((7 : Nat), SV.int IntKind.i64 e),
 ((8 : Nat), SV.win true ((Sh.int IntKind.i64).pair (Sh.int IntKind.i64)) (1098304 : Nat) (0 : Nat) s.length),
 ((10 : Nat), SV.win true (Sh.arr (2 : Nat) (Sh.int IntKind.i64)) (27 : Nat) (0 : Nat) o.length),
 ((11 : Nat), SV.int IntKind.i64 (IntKind.i64.wrap (k + (1 : Int)))), ((12 : Nat), SV.int IntKind.i64 i)],
 blk :=
 [((2 : Nat), LB.var [SV.arr (2 : Nat) (Sh.int IntKind.u8).sl x]),
 ((27 : Nat), LB.row (26 : Nat) (Sh.arr (2 : Nat) (Sh.int IntKind.i64)) o),
 ((1069632 : Nat), LB.row (48 : Nat) ((Sh.int IntKind.i64).pair (Sh.int IntKind.i64)) r),
 ((1098304 : Nat), LB.row (48 : Nat) ((Sh.int IntKind.i64).pair (Sh.int IntKind.i64)) s)] })) := by kernel_rfl
end Go.Proofs.Ytpdhohkamhmjkaa
namespace Go.Proofs.Ytpdhohkamhmjkaa
open Go.Px Go.Ax
attribute [local irreducible] Go.Px.sy Go.Px.syE
def ctRc : Ctr := ⟨[slB, paS], fun x => preT x.1, fun x => [.win true iI 0 0 (List.length (cutO x.1 (pr2 x.2.1).1 (pr2 x.2.1).2)), .int .i64 (errO (pr2 x.2.1).1 (pr2 x.2.1).2)], fun x => [.row 3 iI (cutO x.1 (pr2 x.2.1).1 (pr2 x.2.1).2)]⟩
/-- The ends of the ranges but the last. -/
def endsL (r : List (Int × Int)) : List Int := (r.take (r.length - 1)).map (·.2)
theorem endsL_cons {r : Int × Int} {rs : List (Int × Int)} (h : rs ≠ []) : endsL (r :: rs) = r.2 :: endsL rs := by
  cases rs with
  | nil => exact absurd rfl h
  | cons s rs => rfl
theorem blksF_ne {b : List Int} {l m : Nat} {k p : Nat} (hk : b.length - p ≤ k) (hp : p < b.length) : blksF b l m k p ≠ [] := by
  cases k with
  | zero => omega
  | succ k => rw [blksF, if_pos hp]; simp
theorem cuts_ends (b : List Int) {l m : Nat} (h : 4 ≤ l ∧ l ≤ m) : ∀ k p, b.length - p ≤ k → cutsL b.length (blksF b l m k p) = endsL (blksF b l m k p)
  | 0, _, _ => rfl
  | k + 1, p, hk => by
    rw [blksF]
    by_cases hp : p < b.length
    · have hf := firstLen_bd (b := b.drop p) h (by rw [List.length_drop]; omega)
      rw [List.length_drop] at hf
      rw [if_pos hp, cutsL]
      by_cases he : p + firstLen (b.drop p) l m = b.length
      · rw [if_pos (show ((p + firstLen (b.drop p) l m : Nat) : Int) = b.length by omega)]
        have : blksF b l m k (p + firstLen (b.drop p) l m) = [] := by
          cases k with
          | zero => rfl
          | succ k => rw [blksF, if_neg (by omega)]
        rw [this]; rfl
      · rw [if_neg (show ¬ ((p + firstLen (b.drop p) l m : Nat) : Int) = b.length by omega), endsL_cons (blksF_ne (by omega) (by omega)), cuts_ends b h k _ (by omega)]
    · rw [if_neg hp]; rfl
theorem cutO_eq (b : List Int) (l m : Int) : cutO b l m = endsL (blkO b l m) := by
  unfold cutO blkO
  cases hl : limR l m with
  | false => rfl
  | true =>
    have hlim : 4 ≤ l ∧ l ≤ m ∧ m ≤ 4096 := of_decide_eq_true hl
    rw [if_pos rfl]
    exact cuts_ends b (by omega) _ _ (by omega)
theorem rc_loop {b w : List Int} (hb : preT b) : ∀ (k i : Nat) (o : List Int), (blkO b (pr2 w).1 (pr2 w).2).length - 1 - i ≤ k → i ≤ (blkO b (pr2 w).1 (pr2 w).2).length - 1 → o = ((blkO b (pr2 w).1 (pr2 w).2).take i).map (·.2) →
    GD 13 Try.f13 (QC ctRc (b, w, ())) (hd Try.f13 0) ⟨[(6, .win true rgS 1053248 0 (blkO b (pr2 w).1 (pr2 w).2).length), (7, .int .i64 (errO (pr2 w).1 (pr2 w).2)), (8, .win true iI 16 0 o.length), (9, .int .i64 (i : Nat))], [(16, .row 3 iI o), (1053248, .row 48 rgS (blkO b (pr2 w).1 (pr2 w).2))]⟩ := by
  have hlen : (blkO b (pr2 w).1 (pr2 w).2).length ≤ b.length := by
    unfold blkO
    cases hl : limR (pr2 w).1 (pr2 w).2 with
    | false => exact Nat.zero_le _
    | true =>
      have hlim : 4 ≤ (pr2 w).1 ∧ (pr2 w).1 ≤ (pr2 w).2 ∧ (pr2 w).2 ≤ 4096 := of_decide_eq_true hl
      exact blksF_len b _ _ (by omega) _ _
  have hb1 := hb.1
  generalize hr : blkO b (pr2 w).1 (pr2 w).2 = r at *
  have fin : ∀ (i : Nat) (o : List Int), ¬ i + 1 < r.length → i ≤ r.length - 1 → o = (r.take i).map (·.2) → QC ctRc (b, w, ()) [.win true iI 16 0 o.length, .int .i64 (errO (pr2 w).1 (pr2 w).2)] [(16, .row 3 iI o), (1053248, .row 48 rgS r)] := by
    intro i o h1 h2 h
    have e : o = cutO b (pr2 w).1 (pr2 w).2 := by rw [h, cutO_eq, hr, endsL, show i = r.length - 1 by omega]
    subst e
    exact QC.row1 (e := iI) (et := 3) (xs := cutO b (pr2 w).1 (pr2 w).2) (n := errO (pr2 w).1 (pr2 w).2) rfl rfl rfl rfl rfl
  intro k
  induction k with
  | zero =>
    intro i o hk hi ho
    refine sy_goK dx12 (vc_rcL r o i _ _ _) ?_
    rw [IntWalk.i64_in ((i : Int) + 1) (by omega), decide_eq_false (by omega), bc_f]
    exact fin i o (by omega) hi ho
  | succ k ih =>
    intro i o hk hi ho
    refine sy_goK dx12 (vc_rcL r o i _ _ _) ?_
    rw [IntWalk.i64_in ((i : Int) + 1) (by omega)]
    by_cases h : i + 1 < r.length
    · have hir : i < r.length := by omega
      have e1 : gt rgS r (0 + (i : Int).toNat) = r[i] := by rw [Nat.zero_add]; exact gtE hir
      have hol : o.length = i := by rw [ho, List.length_map, List.length_take]; omega
      rw [decide_eq_true (by omega), bc_t, e1]
      refine ⟨by omega, by omega, by omega, Nat.le_refl _, rfl, rfl, ?_, by decide, ?_⟩
      · show o.length + 1 < 2 ^ 30
        omega
      · have ho2 : o ++ [r[i].2] = (r.take (i + 1)).map (·.2) := by
          rw [ho, List.take_succ_eq_append_getElem hir, List.map_append]; rfl
        refine Good.onlyR (ih (i + 1) _ (by omega) (by omega) ho2) [(16, 31)] rfl ⟨rfl, rfl, ?_, rfl, trivial⟩ ⟨rfl, rfl, trivial⟩
        show some (SV.win true iI 31 0 (o.length + 1)) = some (SV.win true iI 31 0 (o ++ [r[i].2]).length)
        rw [List.length_append, List.length_singleton]
    · rw [decide_eq_false (by omega), bc_f]
      exact fin i o h hi ho
theorem rc_run (b w : List Int) (hp : preT b) : sy tt G0 D12 Try.f13.ntmps Try.f13.results.toList (QC ctRc (b, w, ())) (Px.Good Try.prog tt G0 13 Try.f13.ntmps Try.f13.results.toList (QC ctRc (b, w, ()))) 1000 [.code (bodyOf Try.f13)] (entry [slB, paS] (b, w, ())) := by
  rw [vc_rc]
  exact ⟨hp, (rc_loop hp _ 0 [] (Nat.le_refl _) (Nat.zero_le _) rfl).only ⟨rfl, rfl, rfl, rfl, trivial⟩ ⟨rfl, rfl, trivial⟩⟩
theorem rc_held : Held Try.prog G0 13 ctRc := Held.run dx12 (fn := Try.f13) rfl rfl ⟨by decide, by decide⟩ fun x hp => rc_run x.1 x.2.1 hp
end Go.Proofs.Ytpdhohkamhmjkaa
namespace Go.Proofs.Ytpdhohkamhmjkaa
open Go.Px Go.Ax
attribute [local irreducible] Go.Px.sy Go.Px.syE
def pc (a : List Int) (r : Int × Int) : List Int := Px.part a (some r.1) (some r.2)
/-- The first range with these bytes. -/
def ixF (a key : List Int) : Nat → List (Int × Int) → Option Nat
  | _, [] => none
  | i, r :: rs => if pc a r = key then some i else ixF a key (i + 1) rs
def rmF (a b : List Int) (r : List (Int × Int)) : Nat → List (Int × Int) → List (List Int)
  | _, [] => []
  | k, s :: ss => match ixF a (pc b s) 0 r with
    | some i => [(i : Int), (k : Int)] :: rmF a b r (k + 1) ss
    | none => rmF a b r (k + 1) ss
theorem ixF_ge {a key : List Int} : ∀ {rs : List (Int × Int)} {i j : Nat}, ixF a key i rs = some j → i ≤ j ∧ j < i + rs.length
  | [], _, _, h => by simp [ixF] at h
  | r :: rs, i, j, h => by
    rw [ixF] at h
    split at h
    · cases h; simp
    · have := ixF_ge h
      rw [List.length_cons]; omega
theorem map_toB {x y : List Int} (hx : bytesOK x) (hy : bytesOK y) (h : x.map toB = y.map toB) : x = y := by
  have e : ∀ z : List Int, bytesOK z → (z.map toB).map ofB = z := fun z hz => by
    rw [List.map_map]
    conv => rhs; rw [← List.map_id z]
    exact List.map_congr_left fun n hn => toB_int n (hz n hn).1 (hz n hn).2
  rw [← e x hx, ← e y hy, h]
theorem gM_uM : ∀ (o : MpT) (k k' : List UInt8) (v : Int), gM (uM o k v) k' = if k' = k then some v else gM o k'
  | [], k, k', v => by
    show (match decide (k' = k) with | true => some v | false => none) = _
    by_cases h : k' = k
    · rw [decide_eq_true h, if_pos h]
    · rw [decide_eq_false h, if_neg h]; rfl
  | p :: o, k, k', v => by
    have ih := gM_uM o k k' v
    show gM (match decide (k = p.1) with | true => (k, v) :: o | false => p :: uM o k v) k' = _
    by_cases h : k = p.1
    · rw [decide_eq_true h]
      show (match decide (k' = k) with | true => some v | false => gM o k') = _
      by_cases h2 : k' = k
      · rw [decide_eq_true h2, if_pos h2]
      · rw [decide_eq_false h2, if_neg h2]
        show gM o k' = (match decide (k' = p.1) with | true => some p.2 | false => gM o k')
        rw [decide_eq_false (by rw [← h]; exact h2)]
    · rw [decide_eq_false h]
      show (match decide (k' = p.1) with | true => some p.2 | false => gM (uM o k v) k') = (if k' = k then some v else (match decide (k' = p.1) with | true => some p.2 | false => gM o k'))
      rw [ih]
      by_cases h2 : k' = p.1
      · have hkk : ¬ k' = k := fun e => h (e.symm.trans h2)
        rw [decide_eq_true h2]
        show some p.2 = if k' = k then some v else some p.2
        rw [if_neg hkk]
      · rw [decide_eq_false h2]
theorem gM_mpF {a : List Int} (ha : bytesOK a) {key : List Int} (hk : bytesOK key) : ∀ (rs : List (Int × Int)) (i : Nat) (o : MpT), gM (mpF a i rs o) (key.map toB) = match gM o (key.map toB) with
    | some v => some v
    | none => (ixF a key i rs).map fun (n : Nat) => (n : Int)
  | [], i, o => by
    rw [mpF, ixF]
    cases gM o (key.map toB) <;> rfl
  | r :: rs, i, o => by
    rw [mpF, gM_mpF ha hk rs (i + 1), ixF]
    have hkey : keyR a r = (key.map toB) ↔ pc a r = key := ⟨fun h => map_toB (bytes_part ha _ _) hk h, fun h => by rw [keyR, show Px.part a (some r.1) (some r.2) = key from h]⟩
    cases hg : (gM o (keyR a r)).isSome with
    | true =>
      rw [if_pos rfl]
      by_cases he : pc a r = key
      · rw [if_pos he]
        rw [hkey.2 he] at hg
        obtain ⟨v, hv⟩ := Option.isSome_iff_exists.1 hg
        rw [hv]
      · rw [if_neg he]
    | false =>
      rw [if_neg (by simp), gM_uM]
      by_cases he : pc a r = key
      · rw [if_pos he, if_pos (hkey.2 he).symm]
        rw [hkey.2 he] at hg
        have hn : gM o (key.map toB) = none := by simpa using hg
        rw [hn]; rfl
      · rw [if_neg he, if_neg (fun e => he (hkey.1 e.symm))]
theorem matF_eq {a b : List Int} (ha : bytesOK a) (hb : bytesOK b) (r : List (Int × Int)) : ∀ (ss : List (Int × Int)) (k : Nat), matF b (mpF a 0 r []) k ss = rmF a b r k ss
  | [], _ => rfl
  | s :: ss, k => by
    have h := gM_mpF ha (key := pc b s) (bytes_part hb _ _) r 0 []
    have h2 : gM (mpF a 0 r []) (keyR b s) = (ixF a (pc b s) 0 r).map fun (n : Nat) => (n : Int) := h
    rw [matF, rmF, h2, matF_eq ha hb r ss (k + 1)]
    cases ixF a (pc b s) 0 r <;> rfl
theorem matO_eq {a b : List Int} (ha : bytesOK a) (hb : bytesOK b) (l m : Int) : matO a b l m = rmF a b (blkO a l m) 0 (blkO b l m) := by
  unfold matO blkO
  cases hl : limR l m with
  | false => rfl
  | true => exact matF_eq ha hb _ _ _
theorem blkO_in {b : List Int} {l m : Int} {r : Int × Int} (h : r ∈ blkO b l m) : prePi b r := by
  unfold blkO at h
  cases hl : limR l m with
  | false => rw [hl] at h; simp at h
  | true =>
    have hlim : 4 ≤ l ∧ l ≤ m ∧ m ≤ 4096 := of_decide_eq_true hl
    rw [hl, if_pos rfl] at h
    have := blksF_in (b := b) (l := l.toNat) (m := m.toNat) (by omega) _ _ r h
    exact ⟨by omega, by omega, this.2.2⟩
theorem blkO_len (b : List Int) (l m : Int) : (blkO b l m).length ≤ b.length := by
  unfold blkO
  cases hl : limR l m with
  | false => exact Nat.zero_le _
  | true =>
    have hlim : 4 ≤ l ∧ l ≤ m ∧ m ≤ 4096 := of_decide_eq_true hl
    exact blksF_len b _ _ (by omega) _ _
def x0 (x : List (List Int)) : List Int := gt slB x 0
def x1 (x : List (List Int)) : List Int := gt slB x 1
def ctRm : Ctr := ⟨[.arr 2 slB, paS], fun x => preT (x0 x.1) ∧ preT (x1 x.1), fun x => [.win true paS 0 0 (List.length (matO (x0 x.1) (x1 x.1) (pr2 x.2.1).1 (pr2 x.2.1).2)), .int .i64 (errO (pr2 x.2.1).1 (pr2 x.2.1).2)], fun x => [.row 26 paS (matO (x0 x.1) (x1 x.1) (pr2 x.2.1).1 (pr2 x.2.1).2)]⟩
abbrev rmS0 (x : List (List Int)) (r s : List (Int × Int)) (o : List (List Int)) (k : Nat) (e : Int) : PS := ⟨[(2, .ptr 2 0), (6, .win true rgS 1069632 0 r.length), (7, .int .i64 e), (8, .win true rgS 1098304 0 s.length), (10, .win true paS 27 0 o.length), (11, .int .i64 (k : Nat))], [(2, .var [.arr 2 slB x]), (27, .row 26 paS o), (1069632, .row 48 rgS r), (1098304, .row 48 rgS s)]⟩
abbrev rmS1 (x : List (List Int)) (r s : List (Int × Int)) (o : List (List Int)) (k i : Nat) (e : Int) : PS := ⟨[(2, .ptr 2 0), (6, .win true rgS 1069632 0 r.length), (7, .int .i64 e), (8, .win true rgS 1098304 0 s.length), (10, .win true paS 27 0 o.length), (11, .int .i64 (k : Nat)), (12, .int .i64 (i : Nat))], [(2, .var [.arr 2 slB x]), (27, .row 26 paS o), (1069632, .row 48 rgS r), (1098304, .row 48 rgS s)]⟩
theorem rm_in {x : List (List Int)} {r s : List (Int × Int)} {o : List (List Int)} {k : Nat} {e : Int} {Q : List SV → List (Nat × LB) → Prop} (ha : preT (x0 x)) (hr : ∀ q ∈ r, prePi (x0 x) q) (hs : ∀ q ∈ s, prePi (x1 x) q) (hrl : r.length < 1048576) (hk : k < s.length) (hsl : s.length < 1048576) (ho : o.length ≤ k)
    (h1 : ∀ i, ixF (x0 x) (pc (x1 x) s[k]) 0 r = some i → GD 17 Try.f17 Q (hd Try.f17 0) (rmS0 x r s (o ++ [[(i : Int), (k : Int)]]) (k + 1) e))
    (h2 : ixF (x0 x) (pc (x1 x) s[k]) 0 r = none → GD 17 Try.f17 Q (hd Try.f17 0) (rmS0 x r s o (k + 1) e)) : ∀ (n i : Nat), r.length - i ≤ n → i ≤ r.length → ixF (x0 x) (pc (x1 x) s[k]) 0 r = ixF (x0 x) (pc (x1 x) s[k]) i (r.drop i) →
    GD 17 Try.f17 Q (hd Try.f17 1) (rmS1 x r s o k i e) := by
  intro n
  induction n with
  | zero =>
    intro i hn hi hx
    refine sy_goK dx12 (vc_rmI x r s o k i e _ _) ?_
    rw [List.drop_eq_nil_of_le (by omega), ixF] at hx
    rw [decide_eq_false (by omega), bc_f, IntWalk.i64_in ((k : Int) + 1) (by omega)]
    exact (h2 hx).only ⟨rfl, rfl, rfl, rfl, rfl, rfl, trivial⟩ ⟨rfl, rfl, rfl, rfl, trivial⟩
  | succ n ih =>
    intro i hn hi hx
    refine sy_goK dx12 (vc_rmI x r s o k i e _ _) ?_
    by_cases h : i < r.length
    · have e1 : gt rgS r (0 + (i : Int).toNat) = r[i] := by rw [Nat.zero_add]; exact gtE h
      have e2 : gt rgS s (0 + (k : Int).toNat) = s[k] := by rw [Nat.zero_add]; exact gtE hk
      have p1 : ctPi.pre (x0 x, r[i], ()) := hr _ (List.getElem_mem h)
      have p2 : ctPi.pre (x1 x, s[k], ()) := hs _ (List.getElem_mem hk)
      have p3 : preLn (pc (x0 x) r[i]).length := by
        have := ha.1
        show List.length (((x0 x).take _).drop _) < 2 ^ 62
        rw [List.length_drop, List.length_take]; omega
      rw [decide_eq_true (show (i : Int) < (r.length : Int) by omega), bc_t, e1, e2, IntWalk.i64_in ((k : Int) + 1) (by omega), IntWalk.i64_in ((i : Int) + 1) (by omega)]
      rw [dropc h, ixF] at hx
      refine ⟨by decide, by decide, by decide, by omega, by omega, by omega, p1, by decide, by decide, by decide, by omega, by omega, by omega, p2, p3, bc_of (fun hq => ⟨Nat.le_refl _, rfl, rfl, ?_, by decide, ?_⟩) (fun hq => ?_)⟩
      · show o.length + 1 < 2 ^ 30
        omega
      · have hq : pc (x0 x) r[i] = pc (x1 x) s[k] := of_decide_eq_true hq
        rw [if_pos hq] at hx
        refine Good.onlyR (h1 i hx) [(27, 60)] rfl ⟨rfl, rfl, rfl, rfl, ?_, rfl, trivial⟩ ⟨rfl, rfl, rfl, rfl, trivial⟩
        show some (SV.win true paS 60 0 (o.length + 1)) = some (SV.win true paS 60 0 (o ++ [[(i : Int), (k : Int)]]).length)
        rw [List.length_append, List.length_singleton]
      · have hq : ¬ pc (x0 x) r[i] = pc (x1 x) s[k] := of_decide_eq_false hq
        rw [if_neg hq] at hx
        exact (ih (i + 1) (by omega) (by omega) hx).only ⟨rfl, rfl, rfl, rfl, rfl, rfl, rfl, trivial⟩ ⟨rfl, rfl, rfl, rfl, trivial⟩
    · rw [List.drop_eq_nil_of_le (by omega), ixF] at hx
      rw [decide_eq_false (by omega), bc_f, IntWalk.i64_in ((k : Int) + 1) (by omega)]
      exact (h2 hx).only ⟨rfl, rfl, rfl, rfl, rfl, rfl, trivial⟩ ⟨rfl, rfl, rfl, rfl, trivial⟩
theorem rm_loop {x : List (List Int)} {r s : List (Int × Int)} {e : Int} {Q : List SV → List (Nat × LB) → Prop} (ha : preT (x0 x)) (hr : ∀ q ∈ r, prePi (x0 x) q) (hs : ∀ q ∈ s, prePi (x1 x) q) (hrl : r.length < 1048576) (hsl : s.length < 1048576)
    (hQ : ∀ blk : List (Nat × LB), lk blk 27 = some (.row 26 paS (rmF (x0 x) (x1 x) r 0 s)) → Q [.win true paS 27 0 (rmF (x0 x) (x1 x) r 0 s).length, .int .i64 e] blk) : ∀ (n k : Nat) (o : List (List Int)), s.length - k ≤ n → k ≤ s.length → o.length ≤ k → o ++ rmF (x0 x) (x1 x) r k (s.drop k) = rmF (x0 x) (x1 x) r 0 s →
    GD 17 Try.f17 Q (hd Try.f17 0) (rmS0 x r s o k e) := by
  have fin : ∀ (k : Nat) (o : List (List Int)), ¬ k < s.length → o ++ rmF (x0 x) (x1 x) r k (s.drop k) = rmF (x0 x) (x1 x) r 0 s → Q [.win true paS 27 0 o.length, .int .i64 e] [(2, .var [.arr 2 slB x]), (27, .row 26 paS o), (1069632, .row 48 rgS r), (1098304, .row 48 rgS s)] := by
    intro k o hk h
    rw [List.drop_eq_nil_of_le (by omega), rmF, List.append_nil] at h
    subst h
    exact hQ _ rfl
  intro n
  induction n with
  | zero =>
    intro k o hn hk ho h
    refine sy_goK dx12 (vc_rmK x r s o k e _ _) ?_
    rw [decide_eq_false (by omega), bc_f]
    exact fin k o (by omega) h
  | succ n ih =>
    intro k o hn hk ho h
    refine sy_goK dx12 (vc_rmK x r s o k e _ _) ?_
    by_cases hlt : k < s.length
    · rw [decide_eq_true (show (k : Int) < (s.length : Int) by omega), bc_t]
      rw [dropc hlt, rmF] at h
      refine rm_in ha hr hs hrl hlt hsl ho (fun i hi => ?_) (fun hi => ?_) _ 0 (Nat.le_refl _) (Nat.zero_le _) rfl
      · rw [hi] at h
        exact ih (k + 1) _ (by omega) (by omega) (by rw [List.length_append, List.length_singleton]; omega) (by rw [List.append_assoc]; exact h)
      · rw [hi] at h
        exact ih (k + 1) o (by omega) (by omega) (by omega) h
    · rw [decide_eq_false (by omega), bc_f]
      exact fin k o hlt h
theorem rm_run (x : List (List Int)) (w : List Int) (ha : preT (x0 x)) (hb : preT (x1 x)) : sy tt G0 D12 Try.f17.ntmps Try.f17.results.toList (QC ctRm (x, w, ())) (Px.Good Try.prog tt G0 17 Try.f17.ntmps Try.f17.results.toList (QC ctRm (x, w, ()))) 1000 [.code (bodyOf Try.f17)] (entry [.arr 2 slB, paS] (x, w, ())) := by
  rw [vc_rm]
  refine ⟨by decide, by decide, by decide, ha, by decide, by decide, by decide, hb, ?_⟩
  have l1 := blkO_len (x0 x) (pr2 w).1 (pr2 w).2
  have l2 := blkO_len (x1 x) (pr2 w).1 (pr2 w).2
  have a1 := ha.1
  have b1 := hb.1
  exact (rm_loop (r := blkO (x0 x) (pr2 w).1 (pr2 w).2) (s := blkO (x1 x) (pr2 w).1 (pr2 w).2) (e := errO (pr2 w).1 (pr2 w).2) ha (fun q hq => blkO_in hq) (fun q hq => blkO_in hq) (by omega) (by omega)
    (fun blk hblk => by
      have e := matO_eq ha.2 hb.2 (pr2 w).1 (pr2 w).2
      refine QC.row1 (e := paS) (et := 26) (a := 27) (xs := matO (x0 x) (x1 x) (pr2 w).1 (pr2 w).2) (n := errO (pr2 w).1 (pr2 w).2) rfl rfl ?_ rfl ?_
      · rw [e]
      · rw [e]; exact hblk) _ 0 [] (Nat.le_refl _) (Nat.zero_le _) (Nat.le_refl _) rfl).only ⟨rfl, rfl, rfl, rfl, rfl, rfl, trivial⟩ ⟨rfl, rfl, rfl, rfl, trivial⟩
theorem rm_held : Held Try.prog G0 17 ctRm := Held.run dx12 (fn := Try.f17) rfl rfl ⟨by decide, by decide⟩ fun x hp => rm_run x.1 x.2.1 hp.1 hp.2
abbrev D13 : CV := (17, .inl ctRm) :: (13, .inl ctRc) :: D12
theorem dx13 : CxOK Try.prog tt G0 D13 := (dx12.cons rc_held (fn := Try.f13) rfl rfl rfl).cons rm_held (fn := Try.f17) rfl rfl rfl
end Go.Proofs.Ytpdhohkamhmjkaa
namespace Go.Proofs.Ytpdhohkamhmjkaa
open Go.Px Go.Ax
set_option maxRecDepth 100000
theorem vc_l8 (a b w : List Int) (Q : List SV → List (Nat × LB) → Prop) (R : List Item → PS → Prop) : sy tt G0 D13 Try.f8.ntmps Try.f8.results.toList Q (fun it S => R it (keepS [0, 1, 7, 9, 11, 13, 15, 17, 18] [1151552, 1176128, 1217088, 1258048] S)) 1000 [.code (bodyOf Try.f8)] (entry [.sl (.int .u8), .sl (.int .u8), .arr 2 (.int .u8)] (a, b, w, ())) =
    (ctSan.pre () ∧
 ctMade.pre (w, ()) ∧
 bc (decide ((200 : Int) < (↑a.length : Int)))
 (true = true ∧
 Q [SV.bool true]
 [((5 : Nat), LB.var [SV.arr (2 : Nat) (Sh.int IntKind.u8) w]),
 ((8 : Nat), LB.var [SV.arr (2 : Nat) (Sh.int IntKind.i64) (madeL w)])])
 (bc (bif false then true else decide ((200 : Int) < (↑b.length : Int)))
 (Q [SV.bool true]
 [((5 : Nat), LB.var [SV.arr (2 : Nat) (Sh.int IntKind.u8) w]),
 ((8 : Nat), LB.var [SV.arr (2 : Nat) (Sh.int IntKind.i64) (madeL w)])])
 (ctRb.pre (a, madeL w, ()) ∧
 ctRb.pre (b, madeL w, ()) ∧
 (0 : Int) ≤ (0 : Int) ∧
 (0 : Int) < (↑(2 : Nat) : Int) ∧
 Int.toNat (0 : Int) < (2 : Nat) ∧
 (0 : Int) ≤ (1 : Int) ∧
 (1 : Int) < (↑(2 : Nat) : Int) ∧
 Int.toNat (1 : Int) < (2 : Nat) ∧
 ctMa.pre
 (a, b, gt (Sh.int IntKind.i64) (madeL w) (Int.toNat (0 : Int)),
 gt (Sh.int IntKind.i64) (madeL w) (Int.toNat (1 : Int)), ()) ∧
 (0 : Int) ≤ (0 : Int) ∧
 (0 : Int) < (↑(2 : Nat) : Int) ∧
 Int.toNat (0 : Int) < (2 : Nat) ∧
 (0 : Int) ≤ (1 : Int) ∧
 (1 : Int) < (↑(2 : Nat) : Int) ∧
 Int.toNat (1 : Int) < (2 : Nat) ∧
 ctMa.pre
 (a, a, gt (Sh.int IntKind.i64) (madeL w) (Int.toNat (0 : Int)),
 gt (Sh.int IntKind.i64) (madeL w) (Int.toNat (1 : Int)), ()) ∧
 bc
 (decide
 (errO (gt (Sh.int IntKind.i64) (madeL w) (Int.toNat (0 : Int)))
 (gt (Sh.int IntKind.i64) (madeL w) (Int.toNat (1 : Int))) ≠
 (0 : Int)))
 (true = true ∧
 true = true ∧
 true = true ∧
 Q [SV.bool false]
 [((5 : Nat), LB.var [SV.arr (2 : Nat) (Sh.int IntKind.u8) w]),
 ((8 : Nat),
 LB.var [SV.arr (2 : Nat) (Sh.int IntKind.i64) (madeL w)]),
 ((1151552 : Nat),
 LB.row (48 : Nat) ((Sh.int IntKind.i64).pair (Sh.int IntKind.i64))
 (blkO a (pr2 (madeL w)).fst (pr2 (madeL w)).snd)),
 ((1176128 : Nat),
 LB.row (48 : Nat) ((Sh.int IntKind.i64).pair (Sh.int IntKind.i64))
 (blkO b (pr2 (madeL w)).fst (pr2 (madeL w)).snd)),
 ((1217088 : Nat),
 LB.row (26 : Nat) (Sh.arr (2 : Nat) (Sh.int IntKind.i64))
 (matO a b
 (gt (Sh.int IntKind.i64) (madeL w) (Int.toNat (0 : Int)))
 (gt (Sh.int IntKind.i64) (madeL w) (Int.toNat (1 : Int))))),
 ((1258048 : Nat),
 LB.row (26 : Nat) (Sh.arr (2 : Nat) (Sh.int IntKind.i64))
 (matO a a
 (gt (Sh.int IntKind.i64) (madeL w) (Int.toNat (0 : Int)))
 (gt (Sh.int IntKind.i64) (madeL w) (Int.toNat (1 : Int)))))])
 (bc
 (bif false then true
 else
 decide
 (errO (gt (Sh.int IntKind.i64) (madeL w) (Int.toNat (0 : Int)))
 (gt (Sh.int IntKind.i64) (madeL w) (Int.toNat (1 : Int))) ≠
 (0 : Int)))
 (true = true ∧
 true = true ∧
 Q [SV.bool false]
 [((5 : Nat), LB.var [SV.arr (2 : Nat) (Sh.int IntKind.u8) w]),
 ((8 : Nat),
 LB.var [SV.arr (2 : Nat) (Sh.int IntKind.i64) (madeL w)]),
 ((1151552 : Nat),
 LB.row (48 : Nat) ((Sh.int IntKind.i64).pair (Sh.int IntKind.i64))
 (blkO a (pr2 (madeL w)).fst (pr2 (madeL w)).snd)),
 ((1176128 : Nat),
 LB.row (48 : Nat) ((Sh.int IntKind.i64).pair (Sh.int IntKind.i64))
 (blkO b (pr2 (madeL w)).fst (pr2 (madeL w)).snd)),
 ((1217088 : Nat),
 LB.row (26 : Nat) (Sh.arr (2 : Nat) (Sh.int IntKind.i64))
 (matO a b
 (gt (Sh.int IntKind.i64) (madeL w) (Int.toNat (0 : Int)))
 (gt (Sh.int IntKind.i64) (madeL w) (Int.toNat (1 : Int))))),
 ((1258048 : Nat),
 LB.row (26 : Nat) (Sh.arr (2 : Nat) (Sh.int IntKind.i64))
 (matO a a
 (gt (Sh.int IntKind.i64) (madeL w) (Int.toNat (0 : Int)))
 (gt (Sh.int IntKind.i64) (madeL w) (Int.toNat (1 : Int)))))])
 (bc
 (bif false then true
 else
 decide
 ((↑(blkO b (pr2 (madeL w)).fst (pr2 (madeL w)).snd).length : Int) <
 (↑(matO a b
 (gt (Sh.int IntKind.i64) (madeL w) (Int.toNat (0 : Int)))
 (gt (Sh.int IntKind.i64) (madeL w)
 (Int.toNat (1 : Int)))).length :
 Int)))
 (true = true ∧
 Q [SV.bool false]
 [((5 : Nat), LB.var [SV.arr (2 : Nat) (Sh.int IntKind.u8) w]),
 ((8 : Nat),
 LB.var [SV.arr (2 : Nat) (Sh.int IntKind.i64) (madeL w)]),
 ((1151552 : Nat),
 LB.row (48 : Nat) ((Sh.int IntKind.i64).pair (Sh.int IntKind.i64))
 (blkO a (pr2 (madeL w)).fst (pr2 (madeL w)).snd)),
 ((1176128 : Nat),
 LB.row (48 : Nat) ((Sh.int IntKind.i64).pair (Sh.int IntKind.i64))
 (blkO b (pr2 (madeL w)).fst (pr2 (madeL w)).snd)),
 ((1217088 : Nat),
 LB.row (26 : Nat) (Sh.arr (2 : Nat) (Sh.int IntKind.i64))
 (matO a b
 (gt (Sh.int IntKind.i64) (madeL w) (Int.toNat (0 : Int)))
 (gt (Sh.int IntKind.i64) (madeL w) (Int.toNat (1 : Int))))),
 ((1258048 : Nat),
 LB.row (26 : Nat) (Sh.arr (2 : Nat) (Sh.int IntKind.i64))
 (matO a a
 (gt (Sh.int IntKind.i64) (madeL w) (Int.toNat (0 : Int)))
 (gt (Sh.int IntKind.i64) (madeL w) (Int.toNat (1 : Int)))))])
 (bc
 (bif false then true
 else
 decide
 ((↑(matO a a
 (gt (Sh.int IntKind.i64) (madeL w) (Int.toNat (0 : Int)))
 (gt (Sh.int IntKind.i64) (madeL w)
 (Int.toNat (1 : Int)))).length :
 Int) ≠
 (↑(blkO a (pr2 (madeL w)).fst (pr2 (madeL w)).snd).length : Int)))
 (Q [SV.bool false]
 [((5 : Nat), LB.var [SV.arr (2 : Nat) (Sh.int IntKind.u8) w]),
 ((8 : Nat),
 LB.var [SV.arr (2 : Nat) (Sh.int IntKind.i64) (madeL w)]),
 ((1151552 : Nat),
 LB.row (48 : Nat) ((Sh.int IntKind.i64).pair (Sh.int IntKind.i64))
 (blkO a (pr2 (madeL w)).fst (pr2 (madeL w)).snd)),
 ((1176128 : Nat),
 LB.row (48 : Nat) ((Sh.int IntKind.i64).pair (Sh.int IntKind.i64))
 (blkO b (pr2 (madeL w)).fst (pr2 (madeL w)).snd)),
 ((1217088 : Nat),
 LB.row (26 : Nat) (Sh.arr (2 : Nat) (Sh.int IntKind.i64))
 (matO a b
 (gt (Sh.int IntKind.i64) (madeL w) (Int.toNat (0 : Int)))
 (gt (Sh.int IntKind.i64) (madeL w) (Int.toNat (1 : Int))))),
 ((1258048 : Nat),
 LB.row (26 : Nat) (Sh.arr (2 : Nat) (Sh.int IntKind.i64))
 (matO a a
 (gt (Sh.int IntKind.i64) (madeL w) (Int.toNat (0 : Int)))
 (gt (Sh.int IntKind.i64) (madeL w) (Int.toNat (1 : Int)))))])
 (R (hd Try.f8 (0 : Nat))
 {
 env :=
 [((0 : Nat), SV.sl (Sh.int IntKind.u8) a),
 ((1 : Nat), SV.sl (Sh.int IntKind.u8) b),
 ((7 : Nat), SV.bool true),
 ((9 : Nat),
 SV.win true ((Sh.int IntKind.i64).pair (Sh.int IntKind.i64))
 (1151552 : Nat) (0 : Nat)
 (blkO a (pr2 (madeL w)).fst (pr2 (madeL w)).snd).length),
 ((11 : Nat),
 SV.win true ((Sh.int IntKind.i64).pair (Sh.int IntKind.i64))
 (1176128 : Nat) (0 : Nat)
 (blkO b (pr2 (madeL w)).fst (pr2 (madeL w)).snd).length),
 ((13 : Nat),
 SV.win true (Sh.arr (2 : Nat) (Sh.int IntKind.i64))
 (1217088 : Nat) (0 : Nat)
 (matO a b
 (gt (Sh.int IntKind.i64) (madeL w)
 (Int.toNat (0 : Int)))
 (gt (Sh.int IntKind.i64) (madeL w)
 (Int.toNat (1 : Int)))).length),
 ((15 : Nat),
 SV.win true (Sh.arr (2 : Nat) (Sh.int IntKind.i64))
 (1258048 : Nat) (0 : Nat)
 (matO a a
 (gt (Sh.int IntKind.i64) (madeL w)
 (Int.toNat (0 : Int)))
 (gt (Sh.int IntKind.i64) (madeL w)
 (Int.toNat (1 : Int)))).length),
 ((17 : Nat), SV.int IntKind.i64 (0 : Int)),
 ((18 : Nat), SV.int IntKind.i64 (0 : Int))],
 blk :=
 [((1151552 : Nat),
 LB.row (48 : Nat)
 ((Sh.int IntKind.i64).pair (Sh.int IntKind.i64))
 (blkO a (pr2 (madeL w)).fst (pr2 (madeL w)).snd)),
 ((1176128 : Nat),
 LB.row (48 : Nat)
 ((Sh.int IntKind.i64).pair (Sh.int IntKind.i64))
 (blkO b (pr2 (madeL w)).fst (pr2 (madeL w)).snd)),
 ((1217088 : Nat),
 LB.row (26 : Nat) (Sh.arr (2 : Nat) (Sh.int IntKind.i64))
 (matO a b
 (gt (Sh.int IntKind.i64) (madeL w) (Int.toNat (0 : Int)))
 (gt (Sh.int IntKind.i64) (madeL w)
 (Int.toNat (1 : Int))))),
 ((1258048 : Nat),
 LB.row (26 : Nat) (Sh.arr (2 : Nat) (Sh.int IntKind.i64))
 (matO a a
 (gt (Sh.int IntKind.i64) (madeL w) (Int.toNat (0 : Int)))
 (gt (Sh.int IntKind.i64) (madeL w)
 (Int.toNat (1 : Int)))))] }))))))) := by kernel_rfl
theorem vc_l8K (a b : List Int) (r s : List (Int × Int)) (m u : List (List Int)) (at_ k : Int) (Q : List SV → List (Nat × LB) → Prop) (R : List Item → PS → Prop) : sy tt G0 D13 Try.f8.ntmps Try.f8.results.toList Q (fun it S => R it (keepS [0, 1, 7, 9, 11, 13, 15, 17, 18, 19, 20, 21] [1151552, 1176128, 1217088, 1258048] S)) 1000 (hd Try.f8 0) ⟨[(0, .sl (.int .u8) a), (1, .sl (.int .u8) b), (7, .bool true), (9, .win true (.pair (.int .i64) (.int .i64)) 1151552 0 r.length), (11, .win true (.pair (.int .i64) (.int .i64)) 1176128 0 s.length), (13, .win true (.arr 2 (.int .i64)) 1217088 0 m.length), (15, .win true (.arr 2 (.int .i64)) 1258048 0 u.length), (17, .int .i64 at_), (18, .int .i64 k)], [(1151552, .row 48 (.pair (.int .i64) (.int .i64)) r), (1176128, .row 48 (.pair (.int .i64) (.int .i64)) s), (1217088, .row 26 (.arr 2 (.int .i64)) m), (1258048, .row 26 (.arr 2 (.int .i64)) u)]⟩ =
    (bc (decide (k < (↑s.length : Int)))
 (bc (decide (at_ < (↑m.length : Int)))
 ((0 : Int) ≤ at_ ∧
 at_ < (↑m.length : Int) ∧
 (0 : Int) ≤ (1 : Int) ∧
 (1 : Int) < (↑(2 : Nat) : Int) ∧
 (0 : Nat) + at_.toNat < m.length ∧
 bc
 (bif true then
 decide
 ((gt (Sh.arr (2 : Nat) (Sh.int IntKind.i64)) m
 ((0 : Nat) + at_.toNat))[Int.toNat (1 : Int) * (1 : Nat)]?.getD
 (Sh.int IntKind.i64).dflt =
 k)
 else false)
 ((0 : Int) ≤ at_ ∧
 at_ < (↑m.length : Int) ∧
 (0 : Int) ≤ (0 : Int) ∧
 (0 : Int) < (↑(2 : Nat) : Int) ∧
 (0 : Nat) + at_.toNat < m.length ∧
 bc
 (decide
 ((gt (Sh.arr (2 : Nat) (Sh.int IntKind.i64)) m
 ((0 : Nat) + at_.toNat))[Int.toNat (0 : Int) * (1 : Nat)]?.getD
 (Sh.int IntKind.i64).dflt <
 (0 : Int)))
 (true = true ∧
 true = true ∧
 Q [SV.bool false]
 [((1151552 : Nat),
 LB.row (48 : Nat) ((Sh.int IntKind.i64).pair (Sh.int IntKind.i64)) r),
 ((1176128 : Nat),
 LB.row (48 : Nat) ((Sh.int IntKind.i64).pair (Sh.int IntKind.i64)) s),
 ((1217088 : Nat), LB.row (26 : Nat) (Sh.arr (2 : Nat) (Sh.int IntKind.i64)) m),
 ((1258048 : Nat), LB.row (26 : Nat) (Sh.arr (2 : Nat) (Sh.int IntKind.i64)) u)])
 ((0 : Int) ≤ at_ ∧
 at_ < (↑m.length : Int) ∧
 (0 : Int) ≤ (0 : Int) ∧
 (0 : Int) < (↑(2 : Nat) : Int) ∧
 (0 : Nat) + at_.toNat < m.length ∧
 bc
 (bif false then true
 else
 decide
 ((↑r.length : Int) ≤
 (gt (Sh.arr (2 : Nat) (Sh.int IntKind.i64)) m
 ((0 : Nat) + at_.toNat))[Int.toNat (0 : Int) * (1 : Nat)]?.getD
 (Sh.int IntKind.i64).dflt))
 (true = true ∧
 Q [SV.bool false]
 [((1151552 : Nat),
 LB.row (48 : Nat) ((Sh.int IntKind.i64).pair (Sh.int IntKind.i64)) r),
 ((1176128 : Nat),
 LB.row (48 : Nat) ((Sh.int IntKind.i64).pair (Sh.int IntKind.i64)) s),
 ((1217088 : Nat),
 LB.row (26 : Nat) (Sh.arr (2 : Nat) (Sh.int IntKind.i64)) m),
 ((1258048 : Nat),
 LB.row (26 : Nat) (Sh.arr (2 : Nat) (Sh.int IntKind.i64)) u)])
 ((0 : Int) ≤ at_ ∧
 at_ < (↑m.length : Int) ∧
 (0 : Int) ≤ (0 : Int) ∧
 (0 : Int) < (↑(2 : Nat) : Int) ∧
 (0 : Nat) + at_.toNat < m.length ∧
 (0 : Int) ≤
 (gt (Sh.arr (2 : Nat) (Sh.int IntKind.i64)) m
 ((0 : Nat) +
 at_.toNat))[Int.toNat (0 : Int) * (1 : Nat)]?.getD
 (Sh.int IntKind.i64).dflt ∧
 (gt (Sh.arr (2 : Nat) (Sh.int IntKind.i64)) m
 ((0 : Nat) +
 at_.toNat))[Int.toNat (0 : Int) * (1 : Nat)]?.getD
 (Sh.int IntKind.i64).dflt <
 (↑r.length : Int) ∧
 (0 : Nat) +
 Int.toNat
 ((gt (Sh.arr (2 : Nat) (Sh.int IntKind.i64)) m
 ((0 : Nat) +
 at_.toNat))[Int.toNat (0 : Int) *
 (1 : Nat)]?.getD
 (Sh.int IntKind.i64).dflt) <
 r.length ∧
 ctPi.pre
 (a,
 ((gt ((Sh.int IntKind.i64).pair (Sh.int IntKind.i64)) r
 ((0 : Nat) +
 Int.toNat
 ((gt (Sh.arr (2 : Nat) (Sh.int IntKind.i64)) m
 ((0 : Nat) +
 at_.toNat))[Int.toNat (0 : Int) *
 (1 : Nat)]?.getD
 (Sh.int IntKind.i64).dflt))).fst,
 (gt ((Sh.int IntKind.i64).pair (Sh.int IntKind.i64)) r
 ((0 : Nat) +
 Int.toNat
 ((gt (Sh.arr (2 : Nat) (Sh.int IntKind.i64)) m
 ((0 : Nat) +
 at_.toNat))[Int.toNat (0 : Int) *
 (1 : Nat)]?.getD
 (Sh.int IntKind.i64).dflt))).snd),
 ()) ∧
 (0 : Int) ≤ k ∧
 k < (↑s.length : Int) ∧
 (0 : Nat) + k.toNat < s.length ∧
 ctPi.pre
 (b,
 ((gt
 ((Sh.int IntKind.i64).pair
 (Sh.int IntKind.i64))
 s ((0 : Nat) + k.toNat)).fst,
 (gt
 ((Sh.int IntKind.i64).pair
 (Sh.int IntKind.i64))
 s ((0 : Nat) + k.toNat)).snd),
 ()) ∧
 ctSame.pre
 (Px.part a
 (some
 (gt
 ((Sh.int IntKind.i64).pair
 (Sh.int IntKind.i64))
 r
 ((0 : Nat) +
 Int.toNat
 ((gt
 (Sh.arr (2 : Nat)
 (Sh.int IntKind.i64))
 m
 ((0 : Nat) +
 at_.toNat))[Int.toNat
 (0 : Int) *
 (1 : Nat)]?.getD
 (Sh.int IntKind.i64).dflt))).fst)
 (some
 (gt
 ((Sh.int IntKind.i64).pair
 (Sh.int IntKind.i64))
 r
 ((0 : Nat) +
 Int.toNat
 ((gt
 (Sh.arr (2 : Nat)
 (Sh.int IntKind.i64))
 m
 ((0 : Nat) +
 at_.toNat))[Int.toNat
 (0 : Int) *
 (1 : Nat)]?.getD
 (Sh.int IntKind.i64).dflt))).snd),
 Px.part b
 (some
 (gt
 ((Sh.int IntKind.i64).pair
 (Sh.int IntKind.i64))
 s ((0 : Nat) + k.toNat)).fst)
 (some
 (gt
 ((Sh.int IntKind.i64).pair
 (Sh.int IntKind.i64))
 s ((0 : Nat) + k.toNat)).snd),
 ()) ∧
 bc
 (bif true then
 bif false then true
 else
 !eqI
 (Px.part a
 (some
 (gt
 ((Sh.int IntKind.i64).pair
 (Sh.int IntKind.i64))
 r
 ((0 : Nat) +
 Int.toNat
 ((gt
 (Sh.arr (2 : Nat)
 (Sh.int
 IntKind.i64))
 m
 ((0 : Nat) +
 at_.toNat))[Int.toNat
 (0 : Int) *
 (1 : Nat)]?.getD
 (Sh.int
 IntKind.i64).dflt))).fst)
 (some
 (gt
 ((Sh.int IntKind.i64).pair
 (Sh.int IntKind.i64))
 r
 ((0 : Nat) +
 Int.toNat
 ((gt
 (Sh.arr (2 : Nat)
 (Sh.int
 IntKind.i64))
 m
 ((0 : Nat) +
 at_.toNat))[Int.toNat
 (0 : Int) *
 (1 : Nat)]?.getD
 (Sh.int
 IntKind.i64).dflt))).snd))
 (Px.part b
 (some
 (gt
 ((Sh.int IntKind.i64).pair
 (Sh.int IntKind.i64))
 s ((0 : Nat) + k.toNat)).fst)
 (some
 (gt
 ((Sh.int IntKind.i64).pair
 (Sh.int IntKind.i64))
 s ((0 : Nat) + k.toNat)).snd))
 else false)
 (Q [SV.bool false]
 [((1151552 : Nat),
 LB.row (48 : Nat)
 ((Sh.int IntKind.i64).pair
 (Sh.int IntKind.i64))
 r),
 ((1176128 : Nat),
 LB.row (48 : Nat)
 ((Sh.int IntKind.i64).pair
 (Sh.int IntKind.i64))
 s),
 ((1217088 : Nat),
 LB.row (26 : Nat)
 (Sh.arr (2 : Nat) (Sh.int IntKind.i64))
 m),
 ((1258048 : Nat),
 LB.row (26 : Nat)
 (Sh.arr (2 : Nat) (Sh.int IntKind.i64))
 u)])
 (R (hd Try.f8 (1 : Nat))
 {
 env :=
 [((0 : Nat), SV.sl (Sh.int IntKind.u8) a),
 ((1 : Nat), SV.sl (Sh.int IntKind.u8) b),
 ((7 : Nat), SV.bool true),
 ((9 : Nat),
 SV.win true
 ((Sh.int IntKind.i64).pair
 (Sh.int IntKind.i64))
 (1151552 : Nat) (0 : Nat) r.length),
 ((11 : Nat),
 SV.win true
 ((Sh.int IntKind.i64).pair
 (Sh.int IntKind.i64))
 (1176128 : Nat) (0 : Nat) s.length),
 ((13 : Nat),
 SV.win true
 (Sh.arr (2 : Nat)
 (Sh.int IntKind.i64))
 (1217088 : Nat) (0 : Nat) m.length),
 ((15 : Nat),
 SV.win true
 (Sh.arr (2 : Nat)
 (Sh.int IntKind.i64))
 (1258048 : Nat) (0 : Nat) u.length),
 ((17 : Nat), SV.int IntKind.i64 at_),
 ((18 : Nat), SV.int IntKind.i64 k),
 ((19 : Nat),
 SV.bool
 (bif true then
 decide
 ((gt
 (Sh.arr (2 : Nat)
 (Sh.int IntKind.i64))
 m
 ((0 : Nat) +
 at_.toNat))[Int.toNat
 (1 : Int) *
 (1 : Nat)]?.getD
 (Sh.int IntKind.i64).dflt =
 k)
 else false)),
 ((20 : Nat),
 SV.int IntKind.i64 (0 : Int))],
 blk :=
 [((1151552 : Nat),
 LB.row (48 : Nat)
 ((Sh.int IntKind.i64).pair
 (Sh.int IntKind.i64))
 r),
 ((1176128 : Nat),
 LB.row (48 : Nat)
 ((Sh.int IntKind.i64).pair
 (Sh.int IntKind.i64))
 s),
 ((1217088 : Nat),
 LB.row (26 : Nat)
 (Sh.arr (2 : Nat)
 (Sh.int IntKind.i64))
 m),
 ((1258048 : Nat),
 LB.row (26 : Nat)
 (Sh.arr (2 : Nat)
 (Sh.int IntKind.i64))
 u)] }))))
 (false = false ∧
 R (hd Try.f8 (1 : Nat))
 {
 env :=
 [((0 : Nat), SV.sl (Sh.int IntKind.u8) a), ((1 : Nat), SV.sl (Sh.int IntKind.u8) b),
 ((7 : Nat), SV.bool true),
 ((9 : Nat),
 SV.win true ((Sh.int IntKind.i64).pair (Sh.int IntKind.i64)) (1151552 : Nat) (0 : Nat)
 r.length),
 ((11 : Nat),
 SV.win true ((Sh.int IntKind.i64).pair (Sh.int IntKind.i64)) (1176128 : Nat) (0 : Nat)
 s.length),
 ((13 : Nat),
 SV.win true (Sh.arr (2 : Nat) (Sh.int IntKind.i64)) (1217088 : Nat) (0 : Nat) m.length),
 ((15 : Nat),
 SV.win true (Sh.arr (2 : Nat) (Sh.int IntKind.i64)) (1258048 : Nat) (0 : Nat) u.length),
 ((17 : Nat), SV.int IntKind.i64 at_), ((18 : Nat), SV.int IntKind.i64 k),
 ((19 : Nat),
 SV.bool
 (bif true then
 decide
 ((gt (Sh.arr (2 : Nat) (Sh.int IntKind.i64)) m
 ((0 : Nat) + at_.toNat))[Int.toNat (1 : Int) * (1 : Nat)]?.getD
 (Sh.int IntKind.i64).dflt =
 k)
 else false)),
 ((20 : Nat), SV.int IntKind.i64 (0 : Int))],
 blk :=
 [((1151552 : Nat), LB.row (48 : Nat) ((Sh.int IntKind.i64).pair (Sh.int IntKind.i64)) r),
 ((1176128 : Nat), LB.row (48 : Nat) ((Sh.int IntKind.i64).pair (Sh.int IntKind.i64)) s),
 ((1217088 : Nat), LB.row (26 : Nat) (Sh.arr (2 : Nat) (Sh.int IntKind.i64)) m),
 ((1258048 : Nat), LB.row (26 : Nat) (Sh.arr (2 : Nat) (Sh.int IntKind.i64)) u)] }))
 (false = false ∧
 false = false ∧
 R (hd Try.f8 (1 : Nat))
 {
 env :=
 [((0 : Nat), SV.sl (Sh.int IntKind.u8) a), ((1 : Nat), SV.sl (Sh.int IntKind.u8) b),
 ((7 : Nat), SV.bool true),
 ((9 : Nat),
 SV.win true ((Sh.int IntKind.i64).pair (Sh.int IntKind.i64)) (1151552 : Nat) (0 : Nat) r.length),
 ((11 : Nat),
 SV.win true ((Sh.int IntKind.i64).pair (Sh.int IntKind.i64)) (1176128 : Nat) (0 : Nat) s.length),
 ((13 : Nat), SV.win true (Sh.arr (2 : Nat) (Sh.int IntKind.i64)) (1217088 : Nat) (0 : Nat) m.length),
 ((15 : Nat), SV.win true (Sh.arr (2 : Nat) (Sh.int IntKind.i64)) (1258048 : Nat) (0 : Nat) u.length),
 ((17 : Nat), SV.int IntKind.i64 at_), ((18 : Nat), SV.int IntKind.i64 k), ((19 : Nat), SV.bool false),
 ((20 : Nat), SV.int IntKind.i64 (0 : Int))],
 blk :=
 [((1151552 : Nat), LB.row (48 : Nat) ((Sh.int IntKind.i64).pair (Sh.int IntKind.i64)) r),
 ((1176128 : Nat), LB.row (48 : Nat) ((Sh.int IntKind.i64).pair (Sh.int IntKind.i64)) s),
 ((1217088 : Nat), LB.row (26 : Nat) (Sh.arr (2 : Nat) (Sh.int IntKind.i64)) m),
 ((1258048 : Nat), LB.row (26 : Nat) (Sh.arr (2 : Nat) (Sh.int IntKind.i64)) u)] }))
 (R (hd Try.f8 (2 : Nat))
 {
 env :=
 [((0 : Nat), SV.sl (Sh.int IntKind.u8) a), ((1 : Nat), SV.sl (Sh.int IntKind.u8) b), ((7 : Nat), SV.bool true),
 ((9 : Nat), SV.win true ((Sh.int IntKind.i64).pair (Sh.int IntKind.i64)) (1151552 : Nat) (0 : Nat) r.length),
 ((11 : Nat), SV.win true ((Sh.int IntKind.i64).pair (Sh.int IntKind.i64)) (1176128 : Nat) (0 : Nat) s.length),
 ((13 : Nat), SV.win true (Sh.arr (2 : Nat) (Sh.int IntKind.i64)) (1217088 : Nat) (0 : Nat) m.length),
 ((15 : Nat), SV.win true (Sh.arr (2 : Nat) (Sh.int IntKind.i64)) (1258048 : Nat) (0 : Nat) u.length),
 ((17 : Nat), SV.int IntKind.i64 at_), ((18 : Nat), SV.int IntKind.i64 k),
 ((21 : Nat), SV.int IntKind.i64 (0 : Int))],
 blk :=
 [((1151552 : Nat), LB.row (48 : Nat) ((Sh.int IntKind.i64).pair (Sh.int IntKind.i64)) r),
 ((1176128 : Nat), LB.row (48 : Nat) ((Sh.int IntKind.i64).pair (Sh.int IntKind.i64)) s),
 ((1217088 : Nat), LB.row (26 : Nat) (Sh.arr (2 : Nat) (Sh.int IntKind.i64)) m),
 ((1258048 : Nat), LB.row (26 : Nat) (Sh.arr (2 : Nat) (Sh.int IntKind.i64)) u)] })) := by kernel_rfl
theorem vc_l8I (a b : List Int) (r s : List (Int × Int)) (m u : List (List Int)) (at_ k i : Int) (pd : Bool) (Q : List SV → List (Nat × LB) → Prop) (R : List Item → PS → Prop) : sy tt G0 D13 Try.f8.ntmps Try.f8.results.toList Q (fun it S => R it (keepS [0, 1, 7, 9, 11, 13, 15, 17, 18, 19, 20, 21] [1151552, 1176128, 1217088, 1258048] S)) 1000 (hd Try.f8 1) ⟨[(0, .sl (.int .u8) a), (1, .sl (.int .u8) b), (7, .bool true), (9, .win true (.pair (.int .i64) (.int .i64)) 1151552 0 r.length), (11, .win true (.pair (.int .i64) (.int .i64)) 1176128 0 s.length), (13, .win true (.arr 2 (.int .i64)) 1217088 0 m.length), (15, .win true (.arr 2 (.int .i64)) 1258048 0 u.length), (17, .int .i64 at_), (18, .int .i64 k), (19, .bool pd), (20, .int .i64 i)], [(1151552, .row 48 (.pair (.int .i64) (.int .i64)) r), (1176128, .row 48 (.pair (.int .i64) (.int .i64)) s), (1217088, .row 26 (.arr 2 (.int .i64)) m), (1258048, .row 26 (.arr 2 (.int .i64)) u)]⟩ =
    (bc (decide (i < (↑r.length : Int)))
 (bc (!pd)
 (true = true ∧
 (0 : Int) ≤ i ∧
 i < (↑r.length : Int) ∧
 (0 : Nat) + i.toNat < r.length ∧
 ctPi.pre
 (a,
 ((gt ((Sh.int IntKind.i64).pair (Sh.int IntKind.i64)) r ((0 : Nat) + i.toNat)).fst,
 (gt ((Sh.int IntKind.i64).pair (Sh.int IntKind.i64)) r ((0 : Nat) + i.toNat)).snd),
 ()) ∧
 (0 : Int) ≤ k ∧
 k < (↑s.length : Int) ∧
 (0 : Nat) + k.toNat < s.length ∧
 ctPi.pre
 (b,
 ((gt ((Sh.int IntKind.i64).pair (Sh.int IntKind.i64)) s ((0 : Nat) + k.toNat)).fst,
 (gt ((Sh.int IntKind.i64).pair (Sh.int IntKind.i64)) s ((0 : Nat) + k.toNat)).snd),
 ()) ∧
 ctSame.pre
 (Px.part a
 (some (gt ((Sh.int IntKind.i64).pair (Sh.int IntKind.i64)) r ((0 : Nat) + i.toNat)).fst)
 (some (gt ((Sh.int IntKind.i64).pair (Sh.int IntKind.i64)) r ((0 : Nat) + i.toNat)).snd),
 Px.part b
 (some (gt ((Sh.int IntKind.i64).pair (Sh.int IntKind.i64)) s ((0 : Nat) + k.toNat)).fst)
 (some (gt ((Sh.int IntKind.i64).pair (Sh.int IntKind.i64)) s ((0 : Nat) + k.toNat)).snd),
 ()) ∧
 bc
 (bif true then
 eqI
 (Px.part a
 (some (gt ((Sh.int IntKind.i64).pair (Sh.int IntKind.i64)) r ((0 : Nat) + i.toNat)).fst)
 (some
 (gt ((Sh.int IntKind.i64).pair (Sh.int IntKind.i64)) r ((0 : Nat) + i.toNat)).snd))
 (Px.part b
 (some (gt ((Sh.int IntKind.i64).pair (Sh.int IntKind.i64)) s ((0 : Nat) + k.toNat)).fst)
 (some
 (gt ((Sh.int IntKind.i64).pair (Sh.int IntKind.i64)) s ((0 : Nat) + k.toNat)).snd))
 else false)
 (Q [SV.bool false]
 [((1151552 : Nat), LB.row (48 : Nat) ((Sh.int IntKind.i64).pair (Sh.int IntKind.i64)) r),
 ((1176128 : Nat), LB.row (48 : Nat) ((Sh.int IntKind.i64).pair (Sh.int IntKind.i64)) s),
 ((1217088 : Nat), LB.row (26 : Nat) (Sh.arr (2 : Nat) (Sh.int IntKind.i64)) m),
 ((1258048 : Nat), LB.row (26 : Nat) (Sh.arr (2 : Nat) (Sh.int IntKind.i64)) u)])
 (R (hd Try.f8 (1 : Nat))
 {
 env :=
 [((0 : Nat), SV.sl (Sh.int IntKind.u8) a), ((1 : Nat), SV.sl (Sh.int IntKind.u8) b),
 ((7 : Nat), SV.bool true),
 ((9 : Nat),
 SV.win true ((Sh.int IntKind.i64).pair (Sh.int IntKind.i64)) (1151552 : Nat)
 (0 : Nat) r.length),
 ((11 : Nat),
 SV.win true ((Sh.int IntKind.i64).pair (Sh.int IntKind.i64)) (1176128 : Nat)
 (0 : Nat) s.length),
 ((13 : Nat),
 SV.win true (Sh.arr (2 : Nat) (Sh.int IntKind.i64)) (1217088 : Nat) (0 : Nat)
 m.length),
 ((15 : Nat),
 SV.win true (Sh.arr (2 : Nat) (Sh.int IntKind.i64)) (1258048 : Nat) (0 : Nat)
 u.length),
 ((17 : Nat), SV.int IntKind.i64 at_), ((18 : Nat), SV.int IntKind.i64 k),
 ((19 : Nat), SV.bool pd),
 ((20 : Nat), SV.int IntKind.i64 (IntKind.i64.wrap (i + (1 : Int))))],
 blk :=
 [((1151552 : Nat),
 LB.row (48 : Nat) ((Sh.int IntKind.i64).pair (Sh.int IntKind.i64)) r),
 ((1176128 : Nat),
 LB.row (48 : Nat) ((Sh.int IntKind.i64).pair (Sh.int IntKind.i64)) s),
 ((1217088 : Nat), LB.row (26 : Nat) (Sh.arr (2 : Nat) (Sh.int IntKind.i64)) m),
 ((1258048 : Nat), LB.row (26 : Nat) (Sh.arr (2 : Nat) (Sh.int IntKind.i64)) u)] }))
 ((0 : Int) ≤ at_ ∧
 at_ < (↑m.length : Int) ∧
 (0 : Int) ≤ (0 : Int) ∧
 (0 : Int) < (↑(2 : Nat) : Int) ∧
 (0 : Nat) + at_.toNat < m.length ∧
 bc
 (bif false then true
 else
 decide
 (i <
 (gt (Sh.arr (2 : Nat) (Sh.int IntKind.i64)) m
 ((0 : Nat) + at_.toNat))[Int.toNat (0 : Int) * (1 : Nat)]?.getD
 (Sh.int IntKind.i64).dflt))
 ((0 : Int) ≤ i ∧
 i < (↑r.length : Int) ∧
 (0 : Nat) + i.toNat < r.length ∧
 ctPi.pre
 (a,
 ((gt ((Sh.int IntKind.i64).pair (Sh.int IntKind.i64)) r ((0 : Nat) + i.toNat)).fst,
 (gt ((Sh.int IntKind.i64).pair (Sh.int IntKind.i64)) r ((0 : Nat) + i.toNat)).snd),
 ()) ∧
 (0 : Int) ≤ k ∧
 k < (↑s.length : Int) ∧
 (0 : Nat) + k.toNat < s.length ∧
 ctPi.pre
 (b,
 ((gt ((Sh.int IntKind.i64).pair (Sh.int IntKind.i64)) s ((0 : Nat) + k.toNat)).fst,
 (gt ((Sh.int IntKind.i64).pair (Sh.int IntKind.i64)) s
 ((0 : Nat) + k.toNat)).snd),
 ()) ∧
 ctSame.pre
 (Px.part a
 (some
 (gt ((Sh.int IntKind.i64).pair (Sh.int IntKind.i64)) r
 ((0 : Nat) + i.toNat)).fst)
 (some
 (gt ((Sh.int IntKind.i64).pair (Sh.int IntKind.i64)) r
 ((0 : Nat) + i.toNat)).snd),
 Px.part b
 (some
 (gt ((Sh.int IntKind.i64).pair (Sh.int IntKind.i64)) s
 ((0 : Nat) + k.toNat)).fst)
 (some
 (gt ((Sh.int IntKind.i64).pair (Sh.int IntKind.i64)) s
 ((0 : Nat) + k.toNat)).snd),
 ()) ∧
 bc
 (bif true then
 eqI
 (Px.part a
 (some
 (gt ((Sh.int IntKind.i64).pair (Sh.int IntKind.i64)) r
 ((0 : Nat) + i.toNat)).fst)
 (some
 (gt ((Sh.int IntKind.i64).pair (Sh.int IntKind.i64)) r
 ((0 : Nat) + i.toNat)).snd))
 (Px.part b
 (some
 (gt ((Sh.int IntKind.i64).pair (Sh.int IntKind.i64)) s
 ((0 : Nat) + k.toNat)).fst)
 (some
 (gt ((Sh.int IntKind.i64).pair (Sh.int IntKind.i64)) s
 ((0 : Nat) + k.toNat)).snd))
 else false)
 (Q [SV.bool false]
 [((1151552 : Nat),
 LB.row (48 : Nat) ((Sh.int IntKind.i64).pair (Sh.int IntKind.i64)) r),
 ((1176128 : Nat),
 LB.row (48 : Nat) ((Sh.int IntKind.i64).pair (Sh.int IntKind.i64)) s),
 ((1217088 : Nat), LB.row (26 : Nat) (Sh.arr (2 : Nat) (Sh.int IntKind.i64)) m),
 ((1258048 : Nat), LB.row (26 : Nat) (Sh.arr (2 : Nat) (Sh.int IntKind.i64)) u)])
 (R (hd Try.f8 (1 : Nat))
 {
 env :=
 [((0 : Nat), SV.sl (Sh.int IntKind.u8) a),
 ((1 : Nat), SV.sl (Sh.int IntKind.u8) b), ((7 : Nat), SV.bool true),
 ((9 : Nat),
 SV.win true ((Sh.int IntKind.i64).pair (Sh.int IntKind.i64))
 (1151552 : Nat) (0 : Nat) r.length),
 ((11 : Nat),
 SV.win true ((Sh.int IntKind.i64).pair (Sh.int IntKind.i64))
 (1176128 : Nat) (0 : Nat) s.length),
 ((13 : Nat),
 SV.win true (Sh.arr (2 : Nat) (Sh.int IntKind.i64)) (1217088 : Nat)
 (0 : Nat) m.length),
 ((15 : Nat),
 SV.win true (Sh.arr (2 : Nat) (Sh.int IntKind.i64)) (1258048 : Nat)
 (0 : Nat) u.length),
 ((17 : Nat), SV.int IntKind.i64 at_), ((18 : Nat), SV.int IntKind.i64 k),
 ((19 : Nat), SV.bool pd),
 ((20 : Nat), SV.int IntKind.i64 (IntKind.i64.wrap (i + (1 : Int))))],
 blk :=
 [((1151552 : Nat),
 LB.row (48 : Nat) ((Sh.int IntKind.i64).pair (Sh.int IntKind.i64)) r),
 ((1176128 : Nat),
 LB.row (48 : Nat) ((Sh.int IntKind.i64).pair (Sh.int IntKind.i64)) s),
 ((1217088 : Nat),
 LB.row (26 : Nat) (Sh.arr (2 : Nat) (Sh.int IntKind.i64)) m),
 ((1258048 : Nat),
 LB.row (26 : Nat) (Sh.arr (2 : Nat) (Sh.int IntKind.i64)) u)] }))
 (false = false ∧
 R (hd Try.f8 (1 : Nat))
 {
 env :=
 [((0 : Nat), SV.sl (Sh.int IntKind.u8) a), ((1 : Nat), SV.sl (Sh.int IntKind.u8) b),
 ((7 : Nat), SV.bool true),
 ((9 : Nat),
 SV.win true ((Sh.int IntKind.i64).pair (Sh.int IntKind.i64)) (1151552 : Nat) (0 : Nat)
 r.length),
 ((11 : Nat),
 SV.win true ((Sh.int IntKind.i64).pair (Sh.int IntKind.i64)) (1176128 : Nat) (0 : Nat)
 s.length),
 ((13 : Nat),
 SV.win true (Sh.arr (2 : Nat) (Sh.int IntKind.i64)) (1217088 : Nat) (0 : Nat) m.length),
 ((15 : Nat),
 SV.win true (Sh.arr (2 : Nat) (Sh.int IntKind.i64)) (1258048 : Nat) (0 : Nat) u.length),
 ((17 : Nat), SV.int IntKind.i64 at_), ((18 : Nat), SV.int IntKind.i64 k),
 ((19 : Nat), SV.bool pd),
 ((20 : Nat), SV.int IntKind.i64 (IntKind.i64.wrap (i + (1 : Int))))],
 blk :=
 [((1151552 : Nat), LB.row (48 : Nat) ((Sh.int IntKind.i64).pair (Sh.int IntKind.i64)) r),
 ((1176128 : Nat), LB.row (48 : Nat) ((Sh.int IntKind.i64).pair (Sh.int IntKind.i64)) s),
 ((1217088 : Nat), LB.row (26 : Nat) (Sh.arr (2 : Nat) (Sh.int IntKind.i64)) m),
 ((1258048 : Nat), LB.row (26 : Nat) (Sh.arr (2 : Nat) (Sh.int IntKind.i64)) u)] })))
 (bc pd
 (R (hd Try.f8 (0 : Nat))
 {
 env :=
 [((0 : Nat), SV.sl (Sh.int IntKind.u8) a), ((1 : Nat), SV.sl (Sh.int IntKind.u8) b),
 ((7 : Nat), SV.bool true),
 ((9 : Nat),
 SV.win true ((Sh.int IntKind.i64).pair (Sh.int IntKind.i64)) (1151552 : Nat) (0 : Nat) r.length),
 ((11 : Nat),
 SV.win true ((Sh.int IntKind.i64).pair (Sh.int IntKind.i64)) (1176128 : Nat) (0 : Nat) s.length),
 ((13 : Nat), SV.win true (Sh.arr (2 : Nat) (Sh.int IntKind.i64)) (1217088 : Nat) (0 : Nat) m.length),
 ((15 : Nat), SV.win true (Sh.arr (2 : Nat) (Sh.int IntKind.i64)) (1258048 : Nat) (0 : Nat) u.length),
 ((17 : Nat), SV.int IntKind.i64 (IntKind.i64.wrap (at_ + (1 : Int)))),
 ((18 : Nat), SV.int IntKind.i64 (IntKind.i64.wrap (k + (1 : Int)))), ((19 : Nat), SV.bool pd),
 ((20 : Nat), SV.int IntKind.i64 i)],
 blk :=
 [((1151552 : Nat), LB.row (48 : Nat) ((Sh.int IntKind.i64).pair (Sh.int IntKind.i64)) r),
 ((1176128 : Nat), LB.row (48 : Nat) ((Sh.int IntKind.i64).pair (Sh.int IntKind.i64)) s),
 ((1217088 : Nat), LB.row (26 : Nat) (Sh.arr (2 : Nat) (Sh.int IntKind.i64)) m),
 ((1258048 : Nat), LB.row (26 : Nat) (Sh.arr (2 : Nat) (Sh.int IntKind.i64)) u)] })
 (R (hd Try.f8 (0 : Nat))
 {
 env :=
 [((0 : Nat), SV.sl (Sh.int IntKind.u8) a), ((1 : Nat), SV.sl (Sh.int IntKind.u8) b),
 ((7 : Nat), SV.bool true),
 ((9 : Nat),
 SV.win true ((Sh.int IntKind.i64).pair (Sh.int IntKind.i64)) (1151552 : Nat) (0 : Nat) r.length),
 ((11 : Nat),
 SV.win true ((Sh.int IntKind.i64).pair (Sh.int IntKind.i64)) (1176128 : Nat) (0 : Nat) s.length),
 ((13 : Nat), SV.win true (Sh.arr (2 : Nat) (Sh.int IntKind.i64)) (1217088 : Nat) (0 : Nat) m.length),
 ((15 : Nat), SV.win true (Sh.arr (2 : Nat) (Sh.int IntKind.i64)) (1258048 : Nat) (0 : Nat) u.length),
 ((17 : Nat), SV.int IntKind.i64 at_), ((18 : Nat), SV.int IntKind.i64 (IntKind.i64.wrap (k + (1 : Int)))),
 ((19 : Nat), SV.bool pd), ((20 : Nat), SV.int IntKind.i64 i)],
 blk :=
 [((1151552 : Nat), LB.row (48 : Nat) ((Sh.int IntKind.i64).pair (Sh.int IntKind.i64)) r),
 ((1176128 : Nat), LB.row (48 : Nat) ((Sh.int IntKind.i64).pair (Sh.int IntKind.i64)) s),
 ((1217088 : Nat), LB.row (26 : Nat) (Sh.arr (2 : Nat) (Sh.int IntKind.i64)) m),
 ((1258048 : Nat), LB.row (26 : Nat) (Sh.arr (2 : Nat) (Sh.int IntKind.i64)) u)] }))) := by kernel_rfl
theorem vc_l8U (m u : List (List Int)) (at_ i : Int) (Q : List SV → List (Nat × LB) → Prop) (R : List Item → PS → Prop) : sy tt G0 D13 Try.f8.ntmps Try.f8.results.toList Q (fun it S => R it (keepS [7, 13, 15, 17, 21] [1217088, 1258048] S)) 1000 (hd Try.f8 2) ⟨[(7, .bool true), (13, .win true (.arr 2 (.int .i64)) 1217088 0 m.length), (15, .win true (.arr 2 (.int .i64)) 1258048 0 u.length), (17, .int .i64 at_), (21, .int .i64 i)], [(1217088, .row 26 (.arr 2 (.int .i64)) m), (1258048, .row 26 (.arr 2 (.int .i64)) u)]⟩ =
    (bc (decide (i < (↑u.length : Int)))
 ((0 : Int) ≤ i ∧
 i < (↑u.length : Int) ∧
 (0 : Int) ≤ (1 : Int) ∧
 (1 : Int) < (↑(2 : Nat) : Int) ∧
 (0 : Nat) + i.toNat < u.length ∧
 bc
 (decide
 ((gt (Sh.arr (2 : Nat) (Sh.int IntKind.i64)) u
 ((0 : Nat) + i.toNat))[Int.toNat (1 : Int) * (1 : Nat)]?.getD
 (Sh.int IntKind.i64).dflt ≠
 i))
 (true = true ∧
 Q [SV.bool false]
 [((1217088 : Nat), LB.row (26 : Nat) (Sh.arr (2 : Nat) (Sh.int IntKind.i64)) m),
 ((1258048 : Nat), LB.row (26 : Nat) (Sh.arr (2 : Nat) (Sh.int IntKind.i64)) u)])
 ((0 : Int) ≤ i ∧
 i < (↑u.length : Int) ∧
 (0 : Int) ≤ (0 : Int) ∧
 (0 : Int) < (↑(2 : Nat) : Int) ∧
 (0 : Nat) + i.toNat < u.length ∧
 bc
 (bif false then true
 else
 decide
 (i <
 (gt (Sh.arr (2 : Nat) (Sh.int IntKind.i64)) u
 ((0 : Nat) + i.toNat))[Int.toNat (0 : Int) * (1 : Nat)]?.getD
 (Sh.int IntKind.i64).dflt))
 (Q [SV.bool false]
 [((1217088 : Nat), LB.row (26 : Nat) (Sh.arr (2 : Nat) (Sh.int IntKind.i64)) m),
 ((1258048 : Nat), LB.row (26 : Nat) (Sh.arr (2 : Nat) (Sh.int IntKind.i64)) u)])
 (R (hd Try.f8 (2 : Nat))
 {
 env :=
 [((7 : Nat), SV.bool true),
 ((13 : Nat),
 SV.win true (Sh.arr (2 : Nat) (Sh.int IntKind.i64)) (1217088 : Nat) (0 : Nat)
 m.length),
 ((15 : Nat),
 SV.win true (Sh.arr (2 : Nat) (Sh.int IntKind.i64)) (1258048 : Nat) (0 : Nat)
 u.length),
 ((17 : Nat), SV.int IntKind.i64 at_),
 ((21 : Nat), SV.int IntKind.i64 (IntKind.i64.wrap (i + (1 : Int))))],
 blk :=
 [((1217088 : Nat), LB.row (26 : Nat) (Sh.arr (2 : Nat) (Sh.int IntKind.i64)) m),
 ((1258048 : Nat), LB.row (26 : Nat) (Sh.arr (2 : Nat) (Sh.int IntKind.i64)) u)] })))
 (bc (decide (at_ = (↑m.length : Int)))
 (Q [SV.bool (bif true then true else false)]
 [((1217088 : Nat), LB.row (26 : Nat) (Sh.arr (2 : Nat) (Sh.int IntKind.i64)) m),
 ((1258048 : Nat), LB.row (26 : Nat) (Sh.arr (2 : Nat) (Sh.int IntKind.i64)) u)])
 (false = false ∧
 Q [SV.bool false]
 [((1217088 : Nat), LB.row (26 : Nat) (Sh.arr (2 : Nat) (Sh.int IntKind.i64)) m),
 ((1258048 : Nat), LB.row (26 : Nat) (Sh.arr (2 : Nat) (Sh.int IntKind.i64)) u)]))) := by kernel_rfl
end Go.Proofs.Ytpdhohkamhmjkaa
namespace Go.Proofs.Ytpdhohkamhmjkaa
open Go.Px Go.Ax
set_option maxRecDepth 100000
theorem vc_rg (l : List (Int × Int)) (y : Int) (Q : List SV → List (Nat × LB) → Prop) (R : List Item → PS → Prop) : sy tt G0 D9 Try.f22.ntmps Try.f22.results.toList Q R 1000 [.code (bodyOf Try.f22)] (entry [.sl (.pair (.int .i64) (.int .i64)), .int .i64] (l, y, ())) =
    (R (hd Try.f22 (0 : Nat))
 {
 env :=
 [((0 : Nat), SV.sl ((Sh.int IntKind.i64).pair (Sh.int IntKind.i64)) l), ((1 : Nat), SV.int IntKind.i64 y),
 ((4 : Nat), SV.nils),
 ((5 : Nat), SV.win true ((Sh.int IntKind.i64).pair (Sh.int IntKind.i64)) (7 : Nat) (0 : Nat) (0 : Nat)),
 ((6 : Nat), SV.int IntKind.i64 (0 : Int)),
 ((7 : Nat), SV.win true ((Sh.int IntKind.i64).pair (Sh.int IntKind.i64)) (7 : Nat) (0 : Nat) (0 : Nat))],
 blk :=
 [((7 : Nat),
 LB.row (48 : Nat) ((Sh.int IntKind.i64).pair (Sh.int IntKind.i64))
 (List.replicate (0 : Nat) ((Sh.int IntKind.i64).pair (Sh.int IntKind.i64)).dflt))] }) := by kernel_rfl
theorem vc_rgL (l o : List (Int × Int)) (y i : Int) (Q : List SV → List (Nat × LB) → Prop) (R : List Item → PS → Prop) : sy tt G0 D9 Try.f22.ntmps Try.f22.results.toList Q R 1000 (hd Try.f22 0) ⟨[(0, .sl (.pair (.int .i64) (.int .i64)) l), (1, .int .i64 y), (5, .win true (.pair (.int .i64) (.int .i64)) 7 0 o.length), (6, .int .i64 i)], [(7, .row 48 (.pair (.int .i64) (.int .i64)) o)]⟩ =
    (bc (decide (i < (↑l.length : Int)))
 ((0 : Int) ≤ i ∧
 i < (↑l.length : Int) ∧
 (0 : Int) ≤ i ∧
 i < (↑l.length : Int) ∧
 (0 : Nat) + (1 : Nat) ≤
 ((List.replicate (1 : Nat) ((Sh.int IntKind.i64).pair (Sh.int IntKind.i64)).dflt).set (0 : Nat)
 (IntKind.i64.wrap ((gt ((Sh.int IntKind.i64).pair (Sh.int IntKind.i64)) l i.toNat).fst + y),
 IntKind.i64.wrap
 ((gt ((Sh.int IntKind.i64).pair (Sh.int IntKind.i64)) l i.toNat).snd + y))).length ∧
 o.length = o.length ∧
 (0 : Nat) = (0 : Nat) ∧
 o.length +
 (winL
 ((fun self => self.6)
 (mkT (2 : Nat) (16 : Nat) true
 (TK.struct [((0 : Nat), (3 : TypeId)), ((1 : Nat), (3 : TypeId))])
 ((Sh.int IntKind.i64).pair (Sh.int IntKind.i64)) (some IntKind.i64)))
 (0 : Nat) (1 : Nat)
 ((List.replicate (1 : Nat) ((Sh.int IntKind.i64).pair (Sh.int IntKind.i64)).dflt).set
 (0 : Nat)
 (IntKind.i64.wrap ((gt ((Sh.int IntKind.i64).pair (Sh.int IntKind.i64)) l i.toNat).fst + y),
 IntKind.i64.wrap
 ((gt ((Sh.int IntKind.i64).pair (Sh.int IntKind.i64)) l i.toNat).snd + y)))).length <
 (2 : Nat) ^ (30 : Nat) ∧
 (16 : Nat) ≤ (2 : Nat) ^ (10 : Nat) ∧
 R (hd Try.f22 (0 : Nat))
 {
 env :=
 [((0 : Nat), SV.sl ((Sh.int IntKind.i64).pair (Sh.int IntKind.i64)) l),
 ((1 : Nat), SV.int IntKind.i64 y),
 ((5 : Nat),
 SV.win true ((Sh.int IntKind.i64).pair (Sh.int IntKind.i64)) (31 : Nat) (0 : Nat)
 (o.length +
 (winL
 ((fun self => self.6)
 (mkT (2 : Nat) (16 : Nat) true
 (TK.struct [((0 : Nat), (3 : TypeId)), ((1 : Nat), (3 : TypeId))])
 ((Sh.int IntKind.i64).pair (Sh.int IntKind.i64)) (some IntKind.i64)))
 (0 : Nat) (1 : Nat)
 ((List.replicate (1 : Nat)
 ((Sh.int IntKind.i64).pair (Sh.int IntKind.i64)).dflt).set
 (0 : Nat)
 (IntKind.i64.wrap
 ((gt ((Sh.int IntKind.i64).pair (Sh.int IntKind.i64)) l i.toNat).fst + y),
 IntKind.i64.wrap
 ((gt ((Sh.int IntKind.i64).pair (Sh.int IntKind.i64)) l i.toNat).snd +
 y)))).length)),
 ((6 : Nat), SV.int IntKind.i64 (IntKind.i64.wrap (i + (1 : Int)))),
 ((8 : Nat), SV.int IntKind.i64 i),
 ((9 : Nat), SV.sl ((Sh.int IntKind.i64).pair (Sh.int IntKind.i64)) l),
 ((10 : Nat), SV.int IntKind.i64 (↑l.length : Int)),
 ((11 : Nat), SV.bool (decide (i < (↑l.length : Int)))), ((12 : Nat), SV.int IntKind.i64 i),
 ((13 : Nat), SV.int IntKind.i64 (IntKind.i64.wrap (i + (1 : Int)))), ((14 : Nat), SV.dead),
 ((15 : Nat), SV.sl ((Sh.int IntKind.i64).pair (Sh.int IntKind.i64)) l),
 ((16 : Nat), SV.int IntKind.i64 i),
 ((17 : Nat),
 SV.elv ((Sh.int IntKind.i64).pair (Sh.int IntKind.i64))
 (gt ((Sh.int IntKind.i64).pair (Sh.int IntKind.i64)) l i.toNat)),
 ((18 : Nat),
 SV.elv (Sh.int IntKind.i64)
 (gt ((Sh.int IntKind.i64).pair (Sh.int IntKind.i64)) l i.toNat).fst),
 ((19 : Nat),
 SV.int IntKind.i64 (gt ((Sh.int IntKind.i64).pair (Sh.int IntKind.i64)) l i.toNat).fst),
 ((20 : Nat), SV.int IntKind.i64 y),
 ((21 : Nat),
 SV.int IntKind.i64
 (IntKind.i64.wrap
 ((gt ((Sh.int IntKind.i64).pair (Sh.int IntKind.i64)) l i.toNat).fst + y))),
 ((22 : Nat), SV.sl ((Sh.int IntKind.i64).pair (Sh.int IntKind.i64)) l),
 ((23 : Nat), SV.int IntKind.i64 i),
 ((24 : Nat),
 SV.elv ((Sh.int IntKind.i64).pair (Sh.int IntKind.i64))
 (gt ((Sh.int IntKind.i64).pair (Sh.int IntKind.i64)) l i.toNat)),
 ((25 : Nat),
 SV.elv (Sh.int IntKind.i64)
 (gt ((Sh.int IntKind.i64).pair (Sh.int IntKind.i64)) l i.toNat).snd),
 ((26 : Nat),
 SV.int IntKind.i64 (gt ((Sh.int IntKind.i64).pair (Sh.int IntKind.i64)) l i.toNat).snd),
 ((27 : Nat), SV.int IntKind.i64 y),
 ((28 : Nat),
 SV.int IntKind.i64
 (IntKind.i64.wrap
 ((gt ((Sh.int IntKind.i64).pair (Sh.int IntKind.i64)) l i.toNat).snd + y))),
 ((29 : Nat),
 SV.agg
 [SV.int IntKind.i64
 (IntKind.i64.wrap
 ((gt ((Sh.int IntKind.i64).pair (Sh.int IntKind.i64)) l i.toNat).fst + y)),
 SV.int IntKind.i64
 (IntKind.i64.wrap
 ((gt ((Sh.int IntKind.i64).pair (Sh.int IntKind.i64)) l i.toNat).snd + y))]),
 ((30 : Nat),
 SV.win true ((Sh.int IntKind.i64).pair (Sh.int IntKind.i64)) (30 : Nat) (0 : Nat)
 (1 : Nat)),
 ((31 : Nat),
 SV.win true ((Sh.int IntKind.i64).pair (Sh.int IntKind.i64)) (31 : Nat) (0 : Nat)
 (o.length +
 (winL
 ((fun self => self.6)
 (mkT (2 : Nat) (16 : Nat) true
 (TK.struct [((0 : Nat), (3 : TypeId)), ((1 : Nat), (3 : TypeId))])
 ((Sh.int IntKind.i64).pair (Sh.int IntKind.i64)) (some IntKind.i64)))
 (0 : Nat) (1 : Nat)
 ((List.replicate (1 : Nat)
 ((Sh.int IntKind.i64).pair (Sh.int IntKind.i64)).dflt).set
 (0 : Nat)
 (IntKind.i64.wrap
 ((gt ((Sh.int IntKind.i64).pair (Sh.int IntKind.i64)) l i.toNat).fst + y),
 IntKind.i64.wrap
 ((gt ((Sh.int IntKind.i64).pair (Sh.int IntKind.i64)) l i.toNat).snd +
 y)))).length))],
 blk :=
 [((30 : Nat),
 LB.row (48 : Nat) ((Sh.int IntKind.i64).pair (Sh.int IntKind.i64))
 ((List.replicate (1 : Nat) ((Sh.int IntKind.i64).pair (Sh.int IntKind.i64)).dflt).set
 (0 : Nat)
 (IntKind.i64.wrap
 ((gt ((Sh.int IntKind.i64).pair (Sh.int IntKind.i64)) l i.toNat).fst + y),
 IntKind.i64.wrap
 ((gt ((Sh.int IntKind.i64).pair (Sh.int IntKind.i64)) l i.toNat).snd + y)))),
 ((31 : Nat),
 LB.row (48 : Nat) ((Sh.int IntKind.i64).pair (Sh.int IntKind.i64))
 (o ++
 winL ((Sh.int IntKind.i64).pair (Sh.int IntKind.i64)) (0 : Nat) (1 : Nat)
 ((List.replicate (1 : Nat)
 ((Sh.int IntKind.i64).pair (Sh.int IntKind.i64)).dflt).set
 (0 : Nat)
 (IntKind.i64.wrap
 ((gt ((Sh.int IntKind.i64).pair (Sh.int IntKind.i64)) l i.toNat).fst + y),
 IntKind.i64.wrap
 ((gt ((Sh.int IntKind.i64).pair (Sh.int IntKind.i64)) l i.toNat).snd +
 y)))))] })
 (Q [SV.win true ((Sh.int IntKind.i64).pair (Sh.int IntKind.i64)) (7 : Nat) (0 : Nat) o.length]
 [((7 : Nat), LB.row (48 : Nat) ((Sh.int IntKind.i64).pair (Sh.int IntKind.i64)) o)])) := by kernel_rfl
end Go.Proofs.Ytpdhohkamhmjkaa
