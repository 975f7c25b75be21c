/-
  A part of the proof: what pieces of the program give; conditions: those of each theorem.
-/
import Derived.Test.YtpdhohkamhmjkaaQ0
import Derived.Test.YtpdhohkamhmjkaaHD
import Derived.KernelRfl
set_option linter.unusedVariables false
namespace Go.Proofs.Ytpdhohkamhmjkaa
open Go.Px Go.Ax
set_option maxRecDepth 100000
theorem vc_lb (b w : List Int) (Q : List SV → List (Nat × LB) → Prop) (R : List Item → PS → Prop) : sy tt G0 D8 Try.f14.ntmps Try.f14.results.toList Q R 1000 [.code (bodyOf Try.f14)] (entry [.sl (.int .u8), .arr 2 (.int .i64)] (b, w, ())) =
    ((0 : Int) ≤ (0 : Int) ∧
 (0 : Int) < (↑(2 : Nat) : Int) ∧
 Int.toNat (0 : Int) < (2 : Nat) ∧
 (0 : Int) ≤ (1 : Int) ∧
 (1 : Int) < (↑(2 : Nat) : Int) ∧
 Int.toNat (1 : Int) < (2 : Nat) ∧
 ctBlk.pre
 (b, gt (Sh.int IntKind.i64) w (Int.toNat (0 : Int)), gt (Sh.int IntKind.i64) w (Int.toNat (1 : Int)),
 ()) ∧
 Q
 [SV.win true ((Sh.int IntKind.i64).pair (Sh.int IntKind.i64)) (1045056 : Nat) (0 : Nat)
 (blkO b (gt (Sh.int IntKind.i64) w (Int.toNat (0 : Int)))
 (gt (Sh.int IntKind.i64) w (Int.toNat (1 : Int)))).length,
 SV.int IntKind.i64
 (errO (gt (Sh.int IntKind.i64) w (Int.toNat (0 : Int)))
 (gt (Sh.int IntKind.i64) w (Int.toNat (1 : Int))))]
 [((3 : Nat), LB.var [SV.arr (2 : Nat) (Sh.int IntKind.i64) w]),
 ((1045056 : Nat),
 LB.row (48 : Nat) ((Sh.int IntKind.i64).pair (Sh.int IntKind.i64))
 (blkO b (gt (Sh.int IntKind.i64) w (Int.toNat (0 : Int)))
 (gt (Sh.int IntKind.i64) w (Int.toNat (1 : Int)))))]) := by kernel_rfl
theorem vc_san  (Q : List SV → List (Nat × LB) → Prop) (R : List Item → PS → Prop) : sy tt G0 D8 Try.f11.ntmps Try.f11.results.toList Q R 1000 [.code (bodyOf Try.f11)] (entry [] ()) =
    ((0 : Int) ≤ (10 : Int) ∧
 (10 : Int) ≤ (10 : Int) ∧
 (10 : Int) < (2 : Int) ^ (24 : Nat) ∧
 (↑(1 : Nat) : Int) * (10 : Int) ≤ (2 : Int) ^ (48 : Nat) ∧
 (0 : Nat) + Int.toNat (10 : Int) ≤ (List.replicate (Int.toNat (10 : Int)) (Sh.int IntKind.u8).dflt).length ∧
 ctCut.pre
 (winL (Sh.int IntKind.u8) (0 : Nat) (Int.toNat (10 : Int))
 (List.replicate (Int.toNat (10 : Int)) (Sh.int IntKind.u8).dflt),
 (4 : Int), (8 : Int), ()) ∧
 (0 : Nat) + (10 : Nat) ≤
 (((((((((((List.replicate (10 : Nat) (Sh.int IntKind.u8).dflt).set (0 : Nat) (1 : Int)).set (1 : Nat)
 (1 : Int)).set
 (2 : Nat) (1 : Int)).set
 (3 : Nat) (1 : Int)).set
 (4 : Nat) (1 : Int)).set
 (5 : Nat) (1 : Int)).set
 (6 : Nat) (1 : Int)).set
 (7 : Nat) (1 : Int)).set
 (8 : Nat) (1 : Int)).set
 (9 : Nat) (1 : Int)).length ∧
 ctCut.pre
 (winL (Sh.int IntKind.u8) (0 : Nat) (10 : Nat)
 (((((((((((List.replicate (10 : Nat) (Sh.int IntKind.u8).dflt).set (0 : Nat) (1 : Int)).set
 (1 : Nat) (1 : Int)).set
 (2 : Nat) (1 : Int)).set
 (3 : Nat) (1 : Int)).set
 (4 : Nat) (1 : Int)).set
 (5 : Nat) (1 : Int)).set
 (6 : Nat) (1 : Int)).set
 (7 : Nat) (1 : Int)).set
 (8 : Nat) (1 : Int)).set
 (9 : Nat) (1 : Int)),
 (4 : Int), (8 : Int), ()) ∧
 (0 : Nat) + (5 : Nat) ≤
 ((((((List.replicate (5 : Nat) (Sh.int IntKind.u8).dflt).set (0 : Nat) (1 : Int)).set (1 : Nat)
 (2 : Int)).set
 (2 : Nat) (3 : Int)).set
 (3 : Nat) (10 : Int)).set
 (4 : Nat) (9 : Int)).length ∧
 ctBlk.pre
 (winL (Sh.int IntKind.u8) (0 : Nat) (5 : Nat)
 ((((((List.replicate (5 : Nat) (Sh.int IntKind.u8).dflt).set (0 : Nat) (1 : Int)).set
 (1 : Nat) (2 : Int)).set
 (2 : Nat) (3 : Int)).set
 (3 : Nat) (10 : Int)).set
 (4 : Nat) (9 : Int)),
 (4 : Int), (8 : Int), ()) ∧
 (0 : Int) ≤ (4 : Int) ∧
 (4 : Int) ≤ (4 : Int) ∧
 (4 : Int) < (2 : Int) ^ (24 : Nat) ∧
 (↑(1 : Nat) : Int) * (4 : Int) ≤ (2 : Int) ^ (48 : Nat) ∧
 (0 : Int) ≤ (8 : Int) ∧
 (8 : Int) ≤ (8 : Int) ∧
 (8 : Int) < (2 : Int) ^ (24 : Nat) ∧
 (↑(1 : Nat) : Int) * (8 : Int) ≤ (2 : Int) ^ (48 : Nat) ∧
 (0 : Nat) + Int.toNat (4 : Int) ≤
 (List.replicate (Int.toNat (4 : Int)) (Sh.int IntKind.u8).dflt).length ∧
 (0 : Nat) + Int.toNat (8 : Int) ≤
 (List.replicate (Int.toNat (8 : Int)) (Sh.int IntKind.u8).dflt).length ∧
 ctMa.pre
 (winL (Sh.int IntKind.u8) (0 : Nat) (Int.toNat (4 : Int))
 (List.replicate (Int.toNat (4 : Int)) (Sh.int IntKind.u8).dflt),
 winL (Sh.int IntKind.u8) (0 : Nat) (Int.toNat (8 : Int))
 (List.replicate (Int.toNat (8 : Int)) (Sh.int IntKind.u8).dflt),
 (4 : Int), (8 : Int), ()) ∧
 (0 : Nat) + (10 : Nat) ≤
 (((((((((((List.replicate (10 : Nat) (Sh.int IntKind.u8).dflt).set
 (0 : Nat) (1 : Int)).set
 (1 : Nat) (1 : Int)).set
 (2 : Nat) (1 : Int)).set
 (3 : Nat) (1 : Int)).set
 (4 : Nat) (1 : Int)).set
 (5 : Nat) (1 : Int)).set
 (6 : Nat) (1 : Int)).set
 (7 : Nat) (1 : Int)).set
 (8 : Nat) (1 : Int)).set
 (9 : Nat) (1 : Int)).length ∧
 ctCut.pre
 (winL (Sh.int IntKind.u8) (0 : Nat) (10 : Nat)
 (((((((((((List.replicate (10 : Nat) (Sh.int IntKind.u8).dflt).set
 (0 : Nat) (1 : Int)).set
 (1 : Nat) (1 : Int)).set
 (2 : Nat) (1 : Int)).set
 (3 : Nat) (1 : Int)).set
 (4 : Nat) (1 : Int)).set
 (5 : Nat) (1 : Int)).set
 (6 : Nat) (1 : Int)).set
 (7 : Nat) (1 : Int)).set
 (8 : Nat) (1 : Int)).set
 (9 : Nat) (1 : Int)),
 (3 : Int), (8 : Int), ()) ∧
 (0 : Nat) + (10 : Nat) ≤
 (((((((((((List.replicate (10 : Nat) (Sh.int IntKind.u8).dflt).set
 (0 : Nat) (1 : Int)).set
 (1 : Nat) (1 : Int)).set
 (2 : Nat) (1 : Int)).set
 (3 : Nat) (1 : Int)).set
 (4 : Nat) (1 : Int)).set
 (5 : Nat) (1 : Int)).set
 (6 : Nat) (1 : Int)).set
 (7 : Nat) (1 : Int)).set
 (8 : Nat) (1 : Int)).set
 (9 : Nat) (1 : Int)).length ∧
 ctCut.pre
 (winL (Sh.int IntKind.u8) (0 : Nat) (10 : Nat)
 (((((((((((List.replicate (10 : Nat)
 (Sh.int
 IntKind.u8).dflt).set
 (0 : Nat) (1 : Int)).set
 (1 : Nat) (1 : Int)).set
 (2 : Nat) (1 : Int)).set
 (3 : Nat) (1 : Int)).set
 (4 : Nat) (1 : Int)).set
 (5 : Nat) (1 : Int)).set
 (6 : Nat) (1 : Int)).set
 (7 : Nat) (1 : Int)).set
 (8 : Nat) (1 : Int)).set
 (9 : Nat) (1 : Int)),
 (8 : Int), (4 : Int), ()) ∧
 ctBlk.pre ([], (4 : Int), (4 : Int), ()) ∧
 (0 : Nat) +
 (cutO
 (winL (Sh.int IntKind.u8) (0 : Nat) (Int.toNat (10 : Int))
 (List.replicate (Int.toNat (10 : Int))
 (Sh.int IntKind.u8).dflt))
 (4 : Int) (8 : Int)).length ≤
 (cutO
 (winL (Sh.int IntKind.u8) (0 : Nat) (Int.toNat (10 : Int))
 (List.replicate (Int.toNat (10 : Int))
 (Sh.int IntKind.u8).dflt))
 (4 : Int) (8 : Int)).length ∧
 (0 : Nat) + (2 : Nat) ≤
 (((List.replicate (2 : Nat) (Sh.int IntKind.i64).dflt).set
 (0 : Nat) (4 : Int)).set
 (1 : Nat) (8 : Int)).length ∧
 ctInts.pre
 (winL (Sh.int IntKind.i64) (0 : Nat)
 (cutO
 (winL (Sh.int IntKind.u8) (0 : Nat)
 (Int.toNat (10 : Int))
 (List.replicate (Int.toNat (10 : Int))
 (Sh.int IntKind.u8).dflt))
 (4 : Int) (8 : Int)).length
 (cutO
 (winL (Sh.int IntKind.u8) (0 : Nat)
 (Int.toNat (10 : Int))
 (List.replicate (Int.toNat (10 : Int))
 (Sh.int IntKind.u8).dflt))
 (4 : Int) (8 : Int)),
 winL (Sh.int IntKind.i64) (0 : Nat) (2 : Nat)
 (((List.replicate (2 : Nat)
 (Sh.int IntKind.i64).dflt).set
 (0 : Nat) (4 : Int)).set
 (1 : Nat) (8 : Int)),
 ()) ∧
 (0 : Nat) +
 (cutO
 (winL (Sh.int IntKind.u8) (0 : Nat) (10 : Nat)
 (((((((((((List.replicate (10 : Nat)
 (Sh.int
 IntKind.u8).dflt).set
 (0 : Nat)
 (1 :
 Int)).set
 (1 : Nat)
 (1 : Int)).set
 (2 : Nat)
 (1 : Int)).set
 (3 : Nat) (1 : Int)).set
 (4 : Nat) (1 : Int)).set
 (5 : Nat) (1 : Int)).set
 (6 : Nat) (1 : Int)).set
 (7 : Nat) (1 : Int)).set
 (8 : Nat) (1 : Int)).set
 (9 : Nat) (1 : Int)))
 (4 : Int) (8 : Int)).length ≤
 (cutO
 (winL (Sh.int IntKind.u8) (0 : Nat) (10 : Nat)
 (((((((((((List.replicate (10 : Nat)
 (Sh.int
 IntKind.u8).dflt).set
 (0 : Nat)
 (1 : Int)).set
 (1 : Nat)
 (1 : Int)).set
 (2 : Nat)
 (1 : Int)).set
 (3 : Nat) (1 : Int)).set
 (4 : Nat) (1 : Int)).set
 (5 : Nat) (1 : Int)).set
 (6 : Nat) (1 : Int)).set
 (7 : Nat) (1 : Int)).set
 (8 : Nat) (1 : Int)).set
 (9 : Nat) (1 : Int)))
 (4 : Int) (8 : Int)).length ∧
 (0 : Nat) + (1 : Nat) ≤
 ((List.replicate (1 : Nat)
 (Sh.int IntKind.i64).dflt).set
 (0 : Nat) (8 : Int)).length ∧
 ctInts.pre
 (winL (Sh.int IntKind.i64) (0 : Nat)
 (cutO
 (winL (Sh.int IntKind.u8) (0 : Nat) (10 : Nat)
 (((((((((((List.replicate (10 : Nat)
 (Sh.int
 IntKind.u8).dflt).set
 (0 :
 Nat)
 (1 :
 Int)).set
 (1 : Nat)
 (1 :
 Int)).set
 (2 : Nat)
 (1 : Int)).set
 (3 : Nat)
 (1 : Int)).set
 (4 : Nat)
 (1 : Int)).set
 (5 : Nat) (1 : Int)).set
 (6 : Nat) (1 : Int)).set
 (7 : Nat) (1 : Int)).set
 (8 : Nat) (1 : Int)).set
 (9 : Nat) (1 : Int)))
 (4 : Int) (8 : Int)).length
 (cutO
 (winL (Sh.int IntKind.u8) (0 : Nat) (10 : Nat)
 (((((((((((List.replicate (10 : Nat)
 (Sh.int
 IntKind.u8).dflt).set
 (0 :
 Nat)
 (1 :
 Int)).set
 (1 : Nat)
 (1 :
 Int)).set
 (2 : Nat)
 (1 : Int)).set
 (3 : Nat)
 (1 : Int)).set
 (4 : Nat) (1 : Int)).set
 (5 : Nat) (1 : Int)).set
 (6 : Nat) (1 : Int)).set
 (7 : Nat) (1 : Int)).set
 (8 : Nat) (1 : Int)).set
 (9 : Nat) (1 : Int)))
 (4 : Int) (8 : Int)),
 winL (Sh.int IntKind.i64) (0 : Nat) (1 : Nat)
 ((List.replicate (1 : Nat)
 (Sh.int IntKind.i64).dflt).set
 (0 : Nat) (8 : Int)),
 ()) ∧
 (0 : Nat) +
 (blkO
 (winL (Sh.int IntKind.u8) (0 : Nat) (5 : Nat)
 ((((((List.replicate (5 : Nat)
 (Sh.int
 IntKind.u8).dflt).set
 (0 : Nat) (1 : Int)).set
 (1 : Nat) (2 : Int)).set
 (2 : Nat) (3 : Int)).set
 (3 : Nat) (10 : Int)).set
 (4 : Nat) (9 : Int)))
 (4 : Int) (8 : Int)).length ≤
 (blkO
 (winL (Sh.int IntKind.u8) (0 : Nat) (5 : Nat)
 ((((((List.replicate (5 : Nat)
 (Sh.int
 IntKind.u8).dflt).set
 (0 : Nat) (1 : Int)).set
 (1 : Nat) (2 : Int)).set
 (2 : Nat) (3 : Int)).set
 (3 : Nat) (10 : Int)).set
 (4 : Nat) (9 : Int)))
 (4 : Int) (8 : Int)).length ∧
 (0 : Nat) + (2 : Nat) ≤
 (((List.replicate (2 : Nat)
 ((Sh.int IntKind.i64).pair
 (Sh.int IntKind.i64)).dflt).set
 (0 : Nat) ((0 : Int), (4 : Int))).set
 (1 : Nat) ((4 : Int), (5 : Int))).length ∧
 ctRngs.pre
 (winL rgS (0 : Nat)
 (blkO
 (winL (Sh.int IntKind.u8) (0 : Nat)
 (5 : Nat)
 ((((((List.replicate (5 : Nat)
 (Sh.int
 IntKind.u8).dflt).set
 (0 : Nat)
 (1 : Int)).set
 (1 : Nat) (2 : Int)).set
 (2 : Nat) (3 : Int)).set
 (3 : Nat) (10 : Int)).set
 (4 : Nat) (9 : Int)))
 (4 : Int) (8 : Int)).length
 (blkO
 (winL (Sh.int IntKind.u8) (0 : Nat)
 (5 : Nat)
 ((((((List.replicate (5 : Nat)
 (Sh.int
 IntKind.u8).dflt).set
 (0 : Nat)
 (1 : Int)).set
 (1 : Nat) (2 : Int)).set
 (2 : Nat) (3 : Int)).set
 (3 : Nat) (10 : Int)).set
 (4 : Nat) (9 : Int)))
 (4 : Int) (8 : Int)),
 winL rgS (0 : Nat) (2 : Nat)
 (((List.replicate (2 : Nat)
 ((Sh.int IntKind.i64).pair
 (Sh.int
 IntKind.i64)).dflt).set
 (0 : Nat) ((0 : Int), (4 : Int))).set
 (1 : Nat) ((4 : Int), (5 : Int))),
 ()) ∧
 (0 : Nat) +
 (matO
 (winL (Sh.int IntKind.u8) (0 : Nat)
 (Int.toNat (4 : Int))
 (List.replicate (Int.toNat (4 : Int))
 (Sh.int IntKind.u8).dflt))
 (winL (Sh.int IntKind.u8) (0 : Nat)
 (Int.toNat (8 : Int))
 (List.replicate (Int.toNat (8 : Int))
 (Sh.int IntKind.u8).dflt))
 (4 : Int) (8 : Int)).length ≤
 (matO
 (winL (Sh.int IntKind.u8) (0 : Nat)
 (Int.toNat (4 : Int))
 (List.replicate (Int.toNat (4 : Int))
 (Sh.int IntKind.u8).dflt))
 (winL (Sh.int IntKind.u8) (0 : Nat)
 (Int.toNat (8 : Int))
 (List.replicate (Int.toNat (8 : Int))
 (Sh.int IntKind.u8).dflt))
 (4 : Int) (8 : Int)).length ∧
 (0 : Nat) + (2 : Nat) ≤
 (((List.replicate (2 : Nat)
 (Sh.arr (2 : Nat)
 (Sh.int
 IntKind.i64)).dflt).set
 (0 : Nat)
 ((List.set
 (Sh.arr (2 : Nat)
 (Sh.int IntKind.i64)).dflt
 (0 : Nat) (0 : Int)).set
 (1 : Nat) (0 : Int))).set
 (1 : Nat)
 ((List.set
 (Sh.arr (2 : Nat)
 (Sh.int IntKind.i64)).dflt
 (0 : Nat) (0 : Int)).set
 (1 : Nat) (1 : Int))).length ∧
 ctPrs.pre
 (winL paS (0 : Nat)
 (matO
 (winL (Sh.int IntKind.u8)
 (0 : Nat) (Int.toNat (4 : Int))
 (List.replicate
 (Int.toNat (4 : Int))
 (Sh.int IntKind.u8).dflt))
 (winL (Sh.int IntKind.u8)
 (0 : Nat) (Int.toNat (8 : Int))
 (List.replicate
 (Int.toNat (8 : Int))
 (Sh.int IntKind.u8).dflt))
 (4 : Int) (8 : Int)).length
 (matO
 (winL (Sh.int IntKind.u8) (0 : Nat)
 (Int.toNat (4 : Int))
 (List.replicate
 (Int.toNat (4 : Int))
 (Sh.int IntKind.u8).dflt))
 (winL (Sh.int IntKind.u8) (0 : Nat)
 (Int.toNat (8 : Int))
 (List.replicate
 (Int.toNat (8 : Int))
 (Sh.int IntKind.u8).dflt))
 (4 : Int) (8 : Int)),
 winL paS (0 : Nat) (2 : Nat)
 (((List.replicate (2 : Nat)
 (Sh.arr (2 : Nat)
 (Sh.int
 IntKind.i64)).dflt).set
 (0 : Nat)
 ((List.set
 (Sh.arr (2 : Nat)
 (Sh.int
 IntKind.i64)).dflt
 (0 : Nat) (0 : Int)).set
 (1 : Nat) (0 : Int))).set
 (1 : Nat)
 ((List.set
 (Sh.arr (2 : Nat)
 (Sh.int IntKind.i64)).dflt
 (0 : Nat) (0 : Int)).set
 (1 : Nat) (1 : Int))),
 ()) ∧
 Q
 [SV.bool
 (bif true then
 decide
 ((↑(blkO [] (4 : Int)
 (4 : Int)).length :
 Int) =
 (0 : Int))
 else false)]
 [((17 : Nat),
 LB.row (5 : Nat) (Sh.int IntKind.u8)
 (((((((((((List.replicate (10 : Nat)
 (Sh.int
 IntKind.u8).dflt).set
 (0 :
 Nat)
 (1 :
 Int)).set
 (1 :
 Nat)
 (1 :
 Int)).set
 (2 :
 Nat)
 (1 :
 Int)).set
 (3 : Nat)
 (1 :
 Int)).set
 (4 : Nat)
 (1 : Int)).set
 (5 : Nat)
 (1 : Int)).set
 (6 : Nat)
 (1 : Int)).set
 (7 : Nat) (1 : Int)).set
 (8 : Nat) (1 : Int)).set
 (9 : Nat) (1 : Int))),
 ((19 : Nat),
 LB.row (5 : Nat) (Sh.int IntKind.u8)
 (List.replicate
 (Int.toNat (10 : Int))
 (Sh.int IntKind.u8).dflt)),
 ((29 : Nat),
 LB.row (5 : Nat) (Sh.int IntKind.u8)
 ((((((List.replicate (5 : Nat)
 (Sh.int
 IntKind.u8).dflt).set
 (0 : Nat)
 (1 : Int)).set
 (1 : Nat)
 (2 : Int)).set
 (2 : Nat) (3 : Int)).set
 (3 : Nat) (10 : Int)).set
 (4 : Nat) (9 : Int))),
 ((34 : Nat),
 LB.row (5 : Nat) (Sh.int IntKind.u8)
 (List.replicate
 (Int.toNat (4 : Int))
 (Sh.int IntKind.u8).dflt)),
 ((35 : Nat),
 LB.row (5 : Nat) (Sh.int IntKind.u8)
 (List.replicate
 (Int.toNat (8 : Int))
 (Sh.int IntKind.u8).dflt)),
 ((57 : Nat),
 LB.row (3 : Nat) (Sh.int IntKind.i64)
 (((List.replicate (2 : Nat)
 (Sh.int
 IntKind.i64).dflt).set
 (0 : Nat) (4 : Int)).set
 (1 : Nat) (8 : Int))),
 ((66 : Nat),
 LB.row (3 : Nat) (Sh.int IntKind.i64)
 ((List.replicate (1 : Nat)
 (Sh.int IntKind.i64).dflt).set
 (0 : Nat) (8 : Int))),
 ((78 : Nat),
 LB.row (48 : Nat)
 ((Sh.int IntKind.i64).pair
 (Sh.int IntKind.i64))
 (((List.replicate (2 : Nat)
 ((Sh.int IntKind.i64).pair
 (Sh.int
 IntKind.i64)).dflt).set
 (0 : Nat)
 ((0 : Int), (4 : Int))).set
 (1 : Nat)
 ((4 : Int), (5 : Int)))),
 ((89 : Nat),
 LB.row (26 : Nat)
 (Sh.arr (2 : Nat)
 (Sh.int IntKind.i64))
 (((List.replicate (2 : Nat)
 (Sh.arr (2 : Nat)
 (Sh.int
 IntKind.i64)).dflt).set
 (0 : Nat)
 ((List.set
 (Sh.arr (2 : Nat)
 (Sh.int
 IntKind.i64)).dflt
 (0 : Nat) (0 : Int)).set
 (1 : Nat) (0 : Int))).set
 (1 : Nat)
 ((List.set
 (Sh.arr (2 : Nat)
 (Sh.int
 IntKind.i64)).dflt
 (0 : Nat) (0 : Int)).set
 (1 : Nat) (1 : Int)))),
 ((1081920 : Nat),
 LB.row (3 : Nat) (Sh.int IntKind.i64)
 (cutO
 (winL (Sh.int IntKind.u8)
 (0 : Nat) (Int.toNat (10 : Int))
 (List.replicate
 (Int.toNat (10 : Int))
 (Sh.int IntKind.u8).dflt))
 (4 : Int) (8 : Int))),
 ((1102400 : Nat),
 LB.row (3 : Nat) (Sh.int IntKind.i64)
 (cutO
 (winL (Sh.int IntKind.u8)
 (0 : Nat) (10 : Nat)
 (((((((((((List.replicate
 (10 :
 Nat)
 (Sh.int
 IntKind.u8).dflt).set
 (0 :
 Nat)
 (1 :
 Int)).set
 (1 :
 Nat)
 (1 :
 Int)).set
 (2 :
 Nat)
 (1 :
 Int)).set
 (3 :
 Nat)
 (1 :
 Int)).set
 (4 : Nat)
 (1 :
 Int)).set
 (5 : Nat)
 (1 : Int)).set
 (6 : Nat)
 (1 : Int)).set
 (7 : Nat)
 (1 : Int)).set
 (8 : Nat) (1 : Int)).set
 (9 : Nat) (1 : Int)))
 (4 : Int) (8 : Int))),
 ((1122880 : Nat),
 LB.row (48 : Nat)
 ((Sh.int IntKind.i64).pair
 (Sh.int IntKind.i64))
 (blkO
 (winL (Sh.int IntKind.u8)
 (0 : Nat) (5 : Nat)
 ((((((List.replicate (5 : Nat)
 (Sh.int
 IntKind.u8).dflt).set
 (0 : Nat)
 (1 : Int)).set
 (1 : Nat)
 (2 : Int)).set
 (2 : Nat)
 (3 : Int)).set
 (3 : Nat) (10 : Int)).set
 (4 : Nat) (9 : Int)))
 (4 : Int) (8 : Int))),
 ((1147456 : Nat),
 LB.row (26 : Nat)
 (Sh.arr (2 : Nat)
 (Sh.int IntKind.i64))
 (matO
 (winL (Sh.int IntKind.u8)
 (0 : Nat) (Int.toNat (4 : Int))
 (List.replicate
 (Int.toNat (4 : Int))
 (Sh.int IntKind.u8).dflt))
 (winL (Sh.int IntKind.u8)
 (0 : Nat) (Int.toNat (8 : Int))
 (List.replicate
 (Int.toNat (8 : Int))
 (Sh.int IntKind.u8).dflt))
 (4 : Int) (8 : Int))),
 ((1167936 : Nat),
 LB.row (3 : Nat) (Sh.int IntKind.i64)
 (cutO
 (winL (Sh.int IntKind.u8)
 (0 : Nat) (10 : Nat)
 (((((((((((List.replicate
 (10 :
 Nat)
 (Sh.int
 IntKind.u8).dflt).set
 (0 :
 Nat)
 (1 :
 Int)).set
 (1 :
 Nat)
 (1 :
 Int)).set
 (2 :
 Nat)
 (1 :
 Int)).set
 (3 :
 Nat)
 (1 :
 Int)).set
 (4 : Nat)
 (1 :
 Int)).set
 (5 : Nat)
 (1 : Int)).set
 (6 : Nat)
 (1 : Int)).set
 (7 : Nat)
 (1 : Int)).set
 (8 : Nat) (1 : Int)).set
 (9 : Nat) (1 : Int)))
 (3 : Int) (8 : Int))),
 ((1188416 : Nat),
 LB.row (3 : Nat) (Sh.int IntKind.i64)
 (cutO
 (winL (Sh.int IntKind.u8)
 (0 : Nat) (10 : Nat)
 (((((((((((List.replicate
 (10 :
 Nat)
 (Sh.int
 IntKind.u8).dflt).set
 (0 :
 Nat)
 (1 :
 Int)).set
 (1 :
 Nat)
 (1 :
 Int)).set
 (2 :
 Nat)
 (1 :
 Int)).set
 (3 :
 Nat)
 (1 :
 Int)).set
 (4 : Nat)
 (1 :
 Int)).set
 (5 : Nat)
 (1 : Int)).set
 (6 : Nat)
 (1 : Int)).set
 (7 : Nat)
 (1 : Int)).set
 (8 : Nat) (1 : Int)).set
 (9 : Nat) (1 : Int)))
 (8 : Int) (4 : Int))),
 ((1204800 : Nat),
 LB.row (48 : Nat)
 ((Sh.int IntKind.i64).pair
 (Sh.int IntKind.i64))
 (blkO [] (4 : Int) (4 : Int)))]) := by kernel_rfl
end Go.Proofs.Ytpdhohkamhmjkaa
namespace Go.Proofs.Ytpdhohkamhmjkaa
open Go.Px Go.Ax
attribute [local irreducible] Go.Px.sy Go.Px.syE
def ctSan : Ctr := ⟨[], fun _ => True, fun _ => [.bool true], fun _ => []⟩
instance (b : List Int) : Decidable (bytesOK b) := inferInstanceAs (Decidable (∀ c ∈ b, 0 ≤ c ∧ c < 256))
instance (n : Nat) : Decidable (preLn n) := inferInstanceAs (Decidable (n < 2 ^ 62))
theorem san_run : sy tt G0 D8 Try.f11.ntmps Try.f11.results.toList (QC ctSan ()) (Px.Good Try.prog tt G0 11 Try.f11.ntmps Try.f11.results.toList (QC ctSan ())) 1000 [.code (bodyOf Try.f11)] (entry [] ()) := by
  rw [vc_san]
  repeat' first
    | exact trivial
    | decide +kernel
    | (refine And.intro ?_ ?_)
    | (show preLn _; decide +kernel)
    | (refine QC.flat ?_ rfl rfl)
  show [SV.bool true] = [SV.bool (bif true then decide (((blkO [] 4 4).length : Int) = 0) else false)]
  rfl
theorem san_held : Held Try.prog G0 11 ctSan := Held.run dx8 (fn := Try.f11) rfl rfl ⟨by decide, by decide⟩ fun x _ => san_run
def ctLb : Ctr := ⟨[slB, paS], fun x => preT x.1, fun x => [.win true rgS 0 0 (List.length (blkO x.1 (pr2 x.2.1).1 (pr2 x.2.1).2)), .int .i64 (errO (pr2 x.2.1).1 (pr2 x.2.1).2)], fun x => [.row 48 rgS (blkO x.1 (pr2 x.2.1).1 (pr2 x.2.1).2)]⟩
theorem lb_run (b w : List Int) (hp : preT b) (R : List Item → PS → Prop) : sy tt G0 D8 Try.f14.ntmps Try.f14.results.toList (QC ctLb (b, w, ())) R 1000 [.code (bodyOf Try.f14)] (entry [slB, paS] (b, w, ())) := by
  rw [vc_lb]
  exact ⟨by decide, by decide, by decide, by decide, by decide, by decide, hp, QC.row1 (e := rgS) (et := 48) (xs := blkO b (pr2 w).1 (pr2 w).2) (n := errO (pr2 w).1 (pr2 w).2) rfl rfl rfl rfl rfl⟩
theorem lb_held : Held Try.prog G0 14 ctLb := Held.run dx8 (fn := Try.f14) rfl rfl ⟨by decide, by decide⟩ fun x hp => lb_run x.1 x.2.1 hp _
abbrev D9 : CV := (11, .inl ctSan) :: (14, .inl ctLb) :: D8
theorem dx9 : CxOK Try.prog tt G0 D9 := (dx8.cons lb_held (fn := Try.f14) rfl rfl rfl).cons san_held (fn := Try.f11) rfl rfl rfl
theorem bytes_of {l : List Int} (h : ∀ n ∈ l, (Lit.int .u8 n).wf = true) : bytesOK l := fun n hn => by
  have := Go.bounds_u8 (h n hn)
  exact ⟨this.1, by omega⟩
theorem hG : Glob G0.raw := ⟨fun g x h => by simp [G0, T.get] at h, fun g x h => by simp [G0, T.get] at h⟩
abbrev H0 : AHeap := ⟨nglob, G0.raw⟩
end Go.Proofs.Ytpdhohkamhmjkaa
namespace Go.Proofs.Ytpdhohkamhmjkaa
open Go.Px Go.Ax
set_option maxRecDepth 100000
theorem vc_l10 (b w : List Int) (Q : List SV → List (Nat × LB) → Prop) (R : List Item → PS → Prop) : sy tt G0 D9 Try.f10.ntmps Try.f10.results.toList Q R 1000 [.code (bodyOf Try.f10)] (entry [.sl (.int .u8), .arr 2 (.int .i16)] (b, w, ())) =
    (ctSan.pre () ∧
 bc (decide ((20 : Int) < (↑b.length : Int)))
 (Q [SV.bool true] [((3 : Nat), LB.var [SV.arr (2 : Nat) (Sh.int IntKind.i16) w])])
 ((0 : Int) ≤ (0 : Int) ∧
 (0 : Int) < (↑(2 : Nat) : Int) ∧
 Int.toNat (0 : Int) < (2 : Nat) ∧
 (0 : Int) ≤ (1 : Int) ∧
 (1 : Int) < (↑(2 : Nat) : Int) ∧
 Int.toNat (1 : Int) < (2 : Nat) ∧
 bc (decide ((4 : Int) ≤ IntKind.i64.wrap (gt (Sh.int IntKind.i16) w (Int.toNat (0 : Int)))))
 (bc
 (bif true then
 decide
 (IntKind.i64.wrap (gt (Sh.int IntKind.i16) w (Int.toNat (0 : Int))) ≤
 IntKind.i64.wrap (gt (Sh.int IntKind.i16) w (Int.toNat (1 : Int))))
 else false)
 (bc
 (bif true then
 decide (IntKind.i64.wrap (gt (Sh.int IntKind.i16) w (Int.toNat (1 : Int))) ≤ (4096 : Int))
 else false)
 (ctCut.pre
 (b, IntKind.i64.wrap (gt (Sh.int IntKind.i16) w (Int.toNat (0 : Int))),
 IntKind.i64.wrap (gt (Sh.int IntKind.i16) w (Int.toNat (1 : Int))), ()) ∧
 ctBlk.pre
 (b, IntKind.i64.wrap (gt (Sh.int IntKind.i16) w (Int.toNat (0 : Int))),
 IntKind.i64.wrap (gt (Sh.int IntKind.i16) w (Int.toNat (1 : Int))), ()) ∧
 ctMa.pre
 (b, b, IntKind.i64.wrap (gt (Sh.int IntKind.i16) w (Int.toNat (0 : Int))),
 IntKind.i64.wrap (gt (Sh.int IntKind.i16) w (Int.toNat (1 : Int))), ()) ∧
 bc
 (decide
 (errO (IntKind.i64.wrap (gt (Sh.int IntKind.i16) w (Int.toNat (0 : Int))))
 (IntKind.i64.wrap (gt (Sh.int IntKind.i16) w (Int.toNat (1 : Int)))) =
 (0 : Int)))
 (bc
 (bif true then
 decide
 (errO (IntKind.i64.wrap (gt (Sh.int IntKind.i16) w (Int.toNat (0 : Int))))
 (IntKind.i64.wrap (gt (Sh.int IntKind.i16) w (Int.toNat (1 : Int)))) =
 (0 : Int))
 else false)
 (bc
 (bif true then
 decide
 (errO (IntKind.i64.wrap (gt (Sh.int IntKind.i16) w (Int.toNat (0 : Int))))
 (IntKind.i64.wrap (gt (Sh.int IntKind.i16) w (Int.toNat (1 : Int)))) =
 (0 : Int))
 else false)
 (true = true ∧
 Q [SV.bool (bif true then true else false)]
 [((3 : Nat), LB.var [SV.arr (2 : Nat) (Sh.int IntKind.i16) w]),
 ((1167936 : Nat),
 LB.row (3 : Nat) (Sh.int IntKind.i64)
 (cutO b (IntKind.i64.wrap (gt (Sh.int IntKind.i16) w (Int.toNat (0 : Int))))
 (IntKind.i64.wrap (gt (Sh.int IntKind.i16) w (Int.toNat (1 : Int)))))),
 ((1196608 : Nat),
 LB.row (48 : Nat) ((Sh.int IntKind.i64).pair (Sh.int IntKind.i64))
 (blkO b (IntKind.i64.wrap (gt (Sh.int IntKind.i16) w (Int.toNat (0 : Int))))
 (IntKind.i64.wrap (gt (Sh.int IntKind.i16) w (Int.toNat (1 : Int)))))),
 ((1229376 : Nat),
 LB.row (26 : Nat) (Sh.arr (2 : Nat) (Sh.int IntKind.i64))
 (matO b b
 (IntKind.i64.wrap (gt (Sh.int IntKind.i16) w (Int.toNat (0 : Int))))
 (IntKind.i64.wrap (gt (Sh.int IntKind.i16) w (Int.toNat (1 : Int))))))])
 (false = false ∧
 false = false ∧
 Q [SV.bool false]
 [((3 : Nat), LB.var [SV.arr (2 : Nat) (Sh.int IntKind.i16) w]),
 ((1167936 : Nat),
 LB.row (3 : Nat) (Sh.int IntKind.i64)
 (cutO b
 (IntKind.i64.wrap (gt (Sh.int IntKind.i16) w (Int.toNat (0 : Int))))
 (IntKind.i64.wrap (gt (Sh.int IntKind.i16) w (Int.toNat (1 : Int)))))),
 ((1196608 : Nat),
 LB.row (48 : Nat) ((Sh.int IntKind.i64).pair (Sh.int IntKind.i64))
 (blkO b
 (IntKind.i64.wrap (gt (Sh.int IntKind.i16) w (Int.toNat (0 : Int))))
 (IntKind.i64.wrap (gt (Sh.int IntKind.i16) w (Int.toNat (1 : Int)))))),
 ((1229376 : Nat),
 LB.row (26 : Nat) (Sh.arr (2 : Nat) (Sh.int IntKind.i64))
 (matO b b
 (IntKind.i64.wrap (gt (Sh.int IntKind.i16) w (Int.toNat (0 : Int))))
 (IntKind.i64.wrap
 (gt (Sh.int IntKind.i16) w (Int.toNat (1 : Int))))))]))
 (false = false ∧
 false = false ∧
 false = false ∧
 Q [SV.bool false]
 [((3 : Nat), LB.var [SV.arr (2 : Nat) (Sh.int IntKind.i16) w]),
 ((1167936 : Nat),
 LB.row (3 : Nat) (Sh.int IntKind.i64)
 (cutO b
 (IntKind.i64.wrap (gt (Sh.int IntKind.i16) w (Int.toNat (0 : Int))))
 (IntKind.i64.wrap (gt (Sh.int IntKind.i16) w (Int.toNat (1 : Int)))))),
 ((1196608 : Nat),
 LB.row (48 : Nat) ((Sh.int IntKind.i64).pair (Sh.int IntKind.i64))
 (blkO b
 (IntKind.i64.wrap (gt (Sh.int IntKind.i16) w (Int.toNat (0 : Int))))
 (IntKind.i64.wrap (gt (Sh.int IntKind.i16) w (Int.toNat (1 : Int)))))),
 ((1229376 : Nat),
 LB.row (26 : Nat) (Sh.arr (2 : Nat) (Sh.int IntKind.i64))
 (matO b b
 (IntKind.i64.wrap (gt (Sh.int IntKind.i16) w (Int.toNat (0 : Int))))
 (IntKind.i64.wrap
 (gt (Sh.int IntKind.i16) w (Int.toNat (1 : Int))))))]))
 (false = false ∧
 false = false ∧
 false = false ∧
 false = false ∧
 Q [SV.bool false]
 [((3 : Nat), LB.var [SV.arr (2 : Nat) (Sh.int IntKind.i16) w]),
 ((1167936 : Nat),
 LB.row (3 : Nat) (Sh.int IntKind.i64)
 (cutO b
 (IntKind.i64.wrap (gt (Sh.int IntKind.i16) w (Int.toNat (0 : Int))))
 (IntKind.i64.wrap (gt (Sh.int IntKind.i16) w (Int.toNat (1 : Int)))))),
 ((1196608 : Nat),
 LB.row (48 : Nat) ((Sh.int IntKind.i64).pair (Sh.int IntKind.i64))
 (blkO b
 (IntKind.i64.wrap (gt (Sh.int IntKind.i16) w (Int.toNat (0 : Int))))
 (IntKind.i64.wrap (gt (Sh.int IntKind.i16) w (Int.toNat (1 : Int)))))),
 ((1229376 : Nat),
 LB.row (26 : Nat) (Sh.arr (2 : Nat) (Sh.int IntKind.i64))
 (matO b b
 (IntKind.i64.wrap (gt (Sh.int IntKind.i16) w (Int.toNat (0 : Int))))
 (IntKind.i64.wrap
 (gt (Sh.int IntKind.i16) w (Int.toNat (1 : Int))))))]))
 (ctCut.pre
 (b, IntKind.i64.wrap (gt (Sh.int IntKind.i16) w (Int.toNat (0 : Int))),
 IntKind.i64.wrap (gt (Sh.int IntKind.i16) w (Int.toNat (1 : Int))), ()) ∧
 ctBlk.pre
 (b, IntKind.i64.wrap (gt (Sh.int IntKind.i16) w (Int.toNat (0 : Int))),
 IntKind.i64.wrap (gt (Sh.int IntKind.i16) w (Int.toNat (1 : Int))), ()) ∧
 ctMa.pre
 (b, b, IntKind.i64.wrap (gt (Sh.int IntKind.i16) w (Int.toNat (0 : Int))),
 IntKind.i64.wrap (gt (Sh.int IntKind.i16) w (Int.toNat (1 : Int))), ()) ∧
 bc
 (decide
 (errO (IntKind.i64.wrap (gt (Sh.int IntKind.i16) w (Int.toNat (0 : Int))))
 (IntKind.i64.wrap (gt (Sh.int IntKind.i16) w (Int.toNat (1 : Int)))) =
 (1 : Int)))
 (bc
 (bif true then
 decide
 (errO (IntKind.i64.wrap (gt (Sh.int IntKind.i16) w (Int.toNat (0 : Int))))
 (IntKind.i64.wrap (gt (Sh.int IntKind.i16) w (Int.toNat (1 : Int)))) =
 (1 : Int))
 else false)
 (bc
 (bif true then
 decide
 (errO (IntKind.i64.wrap (gt (Sh.int IntKind.i16) w (Int.toNat (0 : Int))))
 (IntKind.i64.wrap (gt (Sh.int IntKind.i16) w (Int.toNat (1 : Int)))) =
 (1 : Int))
 else false)
 (bc
 (decide
 ((↑(cutO b (IntKind.i64.wrap (gt (Sh.int IntKind.i16) w (Int.toNat (0 : Int))))
 (IntKind.i64.wrap
 (gt (Sh.int IntKind.i16) w (Int.toNat (1 : Int))))).length :
 Int) =
 (0 : Int)))
 (bc
 (bif true then
 decide
 ((↑(blkO b
 (IntKind.i64.wrap (gt (Sh.int IntKind.i16) w (Int.toNat (0 : Int))))
 (IntKind.i64.wrap
 (gt (Sh.int IntKind.i16) w (Int.toNat (1 : Int))))).length :
 Int) =
 (0 : Int))
 else false)
 (bc
 (bif true then
 bif false then true
 else
 bif true then
 decide
 ((↑(matO b b
 (IntKind.i64.wrap
 (gt (Sh.int IntKind.i16) w (Int.toNat (0 : Int))))
 (IntKind.i64.wrap
 (gt (Sh.int IntKind.i16) w (Int.toNat (1 : Int))))).length :
 Int) =
 (0 : Int))
 else false
 else false)
 (Q [SV.bool (bif true then true else false)]
 [((3 : Nat), LB.var [SV.arr (2 : Nat) (Sh.int IntKind.i16) w]),
 ((1167936 : Nat),
 LB.row (3 : Nat) (Sh.int IntKind.i64)
 (cutO b
 (IntKind.i64.wrap (gt (Sh.int IntKind.i16) w (Int.toNat (0 : Int))))
 (IntKind.i64.wrap
 (gt (Sh.int IntKind.i16) w (Int.toNat (1 : Int)))))),
 ((1196608 : Nat),
 LB.row (48 : Nat) ((Sh.int IntKind.i64).pair (Sh.int IntKind.i64))
 (blkO b
 (IntKind.i64.wrap (gt (Sh.int IntKind.i16) w (Int.toNat (0 : Int))))
 (IntKind.i64.wrap
 (gt (Sh.int IntKind.i16) w (Int.toNat (1 : Int)))))),
 ((1229376 : Nat),
 LB.row (26 : Nat) (Sh.arr (2 : Nat) (Sh.int IntKind.i64))
 (matO b b
 (IntKind.i64.wrap (gt (Sh.int IntKind.i16) w (Int.toNat (0 : Int))))
 (IntKind.i64.wrap
 (gt (Sh.int IntKind.i16) w (Int.toNat (1 : Int))))))])
 (false = false ∧
 Q [SV.bool false]
 [((3 : Nat), LB.var [SV.arr (2 : Nat) (Sh.int IntKind.i16) w]),
 ((1167936 : Nat),
 LB.row (3 : Nat) (Sh.int IntKind.i64)
 (cutO b
 (IntKind.i64.wrap (gt (Sh.int IntKind.i16) w (Int.toNat (0 : Int))))
 (IntKind.i64.wrap
 (gt (Sh.int IntKind.i16) w (Int.toNat (1 : Int)))))),
 ((1196608 : Nat),
 LB.row (48 : Nat) ((Sh.int IntKind.i64).pair (Sh.int IntKind.i64))
 (blkO b
 (IntKind.i64.wrap (gt (Sh.int IntKind.i16) w (Int.toNat (0 : Int))))
 (IntKind.i64.wrap
 (gt (Sh.int IntKind.i16) w (Int.toNat (1 : Int)))))),
 ((1229376 : Nat),
 LB.row (26 : Nat) (Sh.arr (2 : Nat) (Sh.int IntKind.i64))
 (matO b b
 (IntKind.i64.wrap (gt (Sh.int IntKind.i16) w (Int.toNat (0 : Int))))
 (IntKind.i64.wrap
 (gt (Sh.int IntKind.i16) w (Int.toNat (1 : Int))))))]))
 (false = false ∧
 false = false ∧
 Q [SV.bool false]
 [((3 : Nat), LB.var [SV.arr (2 : Nat) (Sh.int IntKind.i16) w]),
 ((1167936 : Nat),
 LB.row (3 : Nat) (Sh.int IntKind.i64)
 (cutO b
 (IntKind.i64.wrap (gt (Sh.int IntKind.i16) w (Int.toNat (0 : Int))))
 (IntKind.i64.wrap
 (gt (Sh.int IntKind.i16) w (Int.toNat (1 : Int)))))),
 ((1196608 : Nat),
 LB.row (48 : Nat) ((Sh.int IntKind.i64).pair (Sh.int IntKind.i64))
 (blkO b
 (IntKind.i64.wrap (gt (Sh.int IntKind.i16) w (Int.toNat (0 : Int))))
 (IntKind.i64.wrap
 (gt (Sh.int IntKind.i16) w (Int.toNat (1 : Int)))))),
 ((1229376 : Nat),
 LB.row (26 : Nat) (Sh.arr (2 : Nat) (Sh.int IntKind.i64))
 (matO b b
 (IntKind.i64.wrap (gt (Sh.int IntKind.i16) w (Int.toNat (0 : Int))))
 (IntKind.i64.wrap
 (gt (Sh.int IntKind.i16) w (Int.toNat (1 : Int))))))]))
 (false = false ∧
 false = false ∧
 false = false ∧
 Q [SV.bool false]
 [((3 : Nat), LB.var [SV.arr (2 : Nat) (Sh.int IntKind.i16) w]),
 ((1167936 : Nat),
 LB.row (3 : Nat) (Sh.int IntKind.i64)
 (cutO b
 (IntKind.i64.wrap (gt (Sh.int IntKind.i16) w (Int.toNat (0 : Int))))
 (IntKind.i64.wrap
 (gt (Sh.int IntKind.i16) w (Int.toNat (1 : Int)))))),
 ((1196608 : Nat),
 LB.row (48 : Nat) ((Sh.int IntKind.i64).pair (Sh.int IntKind.i64))
 (blkO b
 (IntKind.i64.wrap (gt (Sh.int IntKind.i16) w (Int.toNat (0 : Int))))
 (IntKind.i64.wrap
 (gt (Sh.int IntKind.i16) w (Int.toNat (1 : Int)))))),
 ((1229376 : Nat),
 LB.row (26 : Nat) (Sh.arr (2 : Nat) (Sh.int IntKind.i64))
 (matO b b
 (IntKind.i64.wrap (gt (Sh.int IntKind.i16) w (Int.toNat (0 : Int))))
 (IntKind.i64.wrap
 (gt (Sh.int IntKind.i16) w (Int.toNat (1 : Int))))))]))
 (false = false ∧
 false = false ∧
 Q [SV.bool false]
 [((3 : Nat), LB.var [SV.arr (2 : Nat) (Sh.int IntKind.i16) w]),
 ((1167936 : Nat),
 LB.row (3 : Nat) (Sh.int IntKind.i64)
 (cutO b
 (IntKind.i64.wrap (gt (Sh.int IntKind.i16) w (Int.toNat (0 : Int))))
 (IntKind.i64.wrap (gt (Sh.int IntKind.i16) w (Int.toNat (1 : Int)))))),
 ((1196608 : Nat),
 LB.row (48 : Nat) ((Sh.int IntKind.i64).pair (Sh.int IntKind.i64))
 (blkO b
 (IntKind.i64.wrap (gt (Sh.int IntKind.i16) w (Int.toNat (0 : Int))))
 (IntKind.i64.wrap (gt (Sh.int IntKind.i16) w (Int.toNat (1 : Int)))))),
 ((1229376 : Nat),
 LB.row (26 : Nat) (Sh.arr (2 : Nat) (Sh.int IntKind.i64))
 (matO b b
 (IntKind.i64.wrap (gt (Sh.int IntKind.i16) w (Int.toNat (0 : Int))))
 (IntKind.i64.wrap
 (gt (Sh.int IntKind.i16) w (Int.toNat (1 : Int))))))]))
 (false = false ∧
 false = false ∧
 false = false ∧
 Q [SV.bool false]
 [((3 : Nat), LB.var [SV.arr (2 : Nat) (Sh.int IntKind.i16) w]),
 ((1167936 : Nat),
 LB.row (3 : Nat) (Sh.int IntKind.i64)
 (cutO b
 (IntKind.i64.wrap (gt (Sh.int IntKind.i16) w (Int.toNat (0 : Int))))
 (IntKind.i64.wrap (gt (Sh.int IntKind.i16) w (Int.toNat (1 : Int)))))),
 ((1196608 : Nat),
 LB.row (48 : Nat) ((Sh.int IntKind.i64).pair (Sh.int IntKind.i64))
 (blkO b
 (IntKind.i64.wrap (gt (Sh.int IntKind.i16) w (Int.toNat (0 : Int))))
 (IntKind.i64.wrap (gt (Sh.int IntKind.i16) w (Int.toNat (1 : Int)))))),
 ((1229376 : Nat),
 LB.row (26 : Nat) (Sh.arr (2 : Nat) (Sh.int IntKind.i64))
 (matO b b
 (IntKind.i64.wrap (gt (Sh.int IntKind.i16) w (Int.toNat (0 : Int))))
 (IntKind.i64.wrap
 (gt (Sh.int IntKind.i16) w (Int.toNat (1 : Int))))))]))
 (false = false ∧
 false = false ∧
 false = false ∧
 false = false ∧
 Q [SV.bool false]
 [((3 : Nat), LB.var [SV.arr (2 : Nat) (Sh.int IntKind.i16) w]),
 ((1167936 : Nat),
 LB.row (3 : Nat) (Sh.int IntKind.i64)
 (cutO b
 (IntKind.i64.wrap (gt (Sh.int IntKind.i16) w (Int.toNat (0 : Int))))
 (IntKind.i64.wrap (gt (Sh.int IntKind.i16) w (Int.toNat (1 : Int)))))),
 ((1196608 : Nat),
 LB.row (48 : Nat) ((Sh.int IntKind.i64).pair (Sh.int IntKind.i64))
 (blkO b
 (IntKind.i64.wrap (gt (Sh.int IntKind.i16) w (Int.toNat (0 : Int))))
 (IntKind.i64.wrap (gt (Sh.int IntKind.i16) w (Int.toNat (1 : Int)))))),
 ((1229376 : Nat),
 LB.row (26 : Nat) (Sh.arr (2 : Nat) (Sh.int IntKind.i64))
 (matO b b
 (IntKind.i64.wrap (gt (Sh.int IntKind.i16) w (Int.toNat (0 : Int))))
 (IntKind.i64.wrap
 (gt (Sh.int IntKind.i16) w (Int.toNat (1 : Int))))))])))
 (false = false ∧
 ctCut.pre
 (b, IntKind.i64.wrap (gt (Sh.int IntKind.i16) w (Int.toNat (0 : Int))),
 IntKind.i64.wrap (gt (Sh.int IntKind.i16) w (Int.toNat (1 : Int))), ()) ∧
 ctBlk.pre
 (b, IntKind.i64.wrap (gt (Sh.int IntKind.i16) w (Int.toNat (0 : Int))),
 IntKind.i64.wrap (gt (Sh.int IntKind.i16) w (Int.toNat (1 : Int))), ()) ∧
 ctMa.pre
 (b, b, IntKind.i64.wrap (gt (Sh.int IntKind.i16) w (Int.toNat (0 : Int))),
 IntKind.i64.wrap (gt (Sh.int IntKind.i16) w (Int.toNat (1 : Int))), ()) ∧
 bc
 (decide
 (errO (IntKind.i64.wrap (gt (Sh.int IntKind.i16) w (Int.toNat (0 : Int))))
 (IntKind.i64.wrap (gt (Sh.int IntKind.i16) w (Int.toNat (1 : Int)))) =
 (1 : Int)))
 (bc
 (bif true then
 decide
 (errO (IntKind.i64.wrap (gt (Sh.int IntKind.i16) w (Int.toNat (0 : Int))))
 (IntKind.i64.wrap (gt (Sh.int IntKind.i16) w (Int.toNat (1 : Int)))) =
 (1 : Int))
 else false)
 (bc
 (bif true then
 decide
 (errO (IntKind.i64.wrap (gt (Sh.int IntKind.i16) w (Int.toNat (0 : Int))))
 (IntKind.i64.wrap (gt (Sh.int IntKind.i16) w (Int.toNat (1 : Int)))) =
 (1 : Int))
 else false)
 (bc
 (decide
 ((↑(cutO b (IntKind.i64.wrap (gt (Sh.int IntKind.i16) w (Int.toNat (0 : Int))))
 (IntKind.i64.wrap
 (gt (Sh.int IntKind.i16) w (Int.toNat (1 : Int))))).length :
 Int) =
 (0 : Int)))
 (bc
 (bif true then
 decide
 ((↑(blkO b
 (IntKind.i64.wrap (gt (Sh.int IntKind.i16) w (Int.toNat (0 : Int))))
 (IntKind.i64.wrap
 (gt (Sh.int IntKind.i16) w (Int.toNat (1 : Int))))).length :
 Int) =
 (0 : Int))
 else false)
 (bc
 (bif true then
 bif false then true
 else
 bif true then
 decide
 ((↑(matO b b
 (IntKind.i64.wrap
 (gt (Sh.int IntKind.i16) w (Int.toNat (0 : Int))))
 (IntKind.i64.wrap
 (gt (Sh.int IntKind.i16) w (Int.toNat (1 : Int))))).length :
 Int) =
 (0 : Int))
 else false
 else false)
 (Q [SV.bool (bif true then true else false)]
 [((3 : Nat), LB.var [SV.arr (2 : Nat) (Sh.int IntKind.i16) w]),
 ((1167936 : Nat),
 LB.row (3 : Nat) (Sh.int IntKind.i64)
 (cutO b
 (IntKind.i64.wrap (gt (Sh.int IntKind.i16) w (Int.toNat (0 : Int))))
 (IntKind.i64.wrap
 (gt (Sh.int IntKind.i16) w (Int.toNat (1 : Int)))))),
 ((1196608 : Nat),
 LB.row (48 : Nat) ((Sh.int IntKind.i64).pair (Sh.int IntKind.i64))
 (blkO b
 (IntKind.i64.wrap (gt (Sh.int IntKind.i16) w (Int.toNat (0 : Int))))
 (IntKind.i64.wrap
 (gt (Sh.int IntKind.i16) w (Int.toNat (1 : Int)))))),
 ((1229376 : Nat),
 LB.row (26 : Nat) (Sh.arr (2 : Nat) (Sh.int IntKind.i64))
 (matO b b
 (IntKind.i64.wrap (gt (Sh.int IntKind.i16) w (Int.toNat (0 : Int))))
 (IntKind.i64.wrap
 (gt (Sh.int IntKind.i16) w (Int.toNat (1 : Int))))))])
 (false = false ∧
 Q [SV.bool false]
 [((3 : Nat), LB.var [SV.arr (2 : Nat) (Sh.int IntKind.i16) w]),
 ((1167936 : Nat),
 LB.row (3 : Nat) (Sh.int IntKind.i64)
 (cutO b
 (IntKind.i64.wrap (gt (Sh.int IntKind.i16) w (Int.toNat (0 : Int))))
 (IntKind.i64.wrap
 (gt (Sh.int IntKind.i16) w (Int.toNat (1 : Int)))))),
 ((1196608 : Nat),
 LB.row (48 : Nat) ((Sh.int IntKind.i64).pair (Sh.int IntKind.i64))
 (blkO b
 (IntKind.i64.wrap (gt (Sh.int IntKind.i16) w (Int.toNat (0 : Int))))
 (IntKind.i64.wrap
 (gt (Sh.int IntKind.i16) w (Int.toNat (1 : Int)))))),
 ((1229376 : Nat),
 LB.row (26 : Nat) (Sh.arr (2 : Nat) (Sh.int IntKind.i64))
 (matO b b
 (IntKind.i64.wrap (gt (Sh.int IntKind.i16) w (Int.toNat (0 : Int))))
 (IntKind.i64.wrap
 (gt (Sh.int IntKind.i16) w (Int.toNat (1 : Int))))))]))
 (false = false ∧
 false = false ∧
 Q [SV.bool false]
 [((3 : Nat), LB.var [SV.arr (2 : Nat) (Sh.int IntKind.i16) w]),
 ((1167936 : Nat),
 LB.row (3 : Nat) (Sh.int IntKind.i64)
 (cutO b
 (IntKind.i64.wrap (gt (Sh.int IntKind.i16) w (Int.toNat (0 : Int))))
 (IntKind.i64.wrap
 (gt (Sh.int IntKind.i16) w (Int.toNat (1 : Int)))))),
 ((1196608 : Nat),
 LB.row (48 : Nat) ((Sh.int IntKind.i64).pair (Sh.int IntKind.i64))
 (blkO b
 (IntKind.i64.wrap (gt (Sh.int IntKind.i16) w (Int.toNat (0 : Int))))
 (IntKind.i64.wrap
 (gt (Sh.int IntKind.i16) w (Int.toNat (1 : Int)))))),
 ((1229376 : Nat),
 LB.row (26 : Nat) (Sh.arr (2 : Nat) (Sh.int IntKind.i64))
 (matO b b
 (IntKind.i64.wrap (gt (Sh.int IntKind.i16) w (Int.toNat (0 : Int))))
 (IntKind.i64.wrap
 (gt (Sh.int IntKind.i16) w (Int.toNat (1 : Int))))))]))
 (false = false ∧
 false = false ∧
 false = false ∧
 Q [SV.bool false]
 [((3 : Nat), LB.var [SV.arr (2 : Nat) (Sh.int IntKind.i16) w]),
 ((1167936 : Nat),
 LB.row (3 : Nat) (Sh.int IntKind.i64)
 (cutO b
 (IntKind.i64.wrap (gt (Sh.int IntKind.i16) w (Int.toNat (0 : Int))))
 (IntKind.i64.wrap
 (gt (Sh.int IntKind.i16) w (Int.toNat (1 : Int)))))),
 ((1196608 : Nat),
 LB.row (48 : Nat) ((Sh.int IntKind.i64).pair (Sh.int IntKind.i64))
 (blkO b
 (IntKind.i64.wrap (gt (Sh.int IntKind.i16) w (Int.toNat (0 : Int))))
 (IntKind.i64.wrap
 (gt (Sh.int IntKind.i16) w (Int.toNat (1 : Int)))))),
 ((1229376 : Nat),
 LB.row (26 : Nat) (Sh.arr (2 : Nat) (Sh.int IntKind.i64))
 (matO b b
 (IntKind.i64.wrap (gt (Sh.int IntKind.i16) w (Int.toNat (0 : Int))))
 (IntKind.i64.wrap
 (gt (Sh.int IntKind.i16) w (Int.toNat (1 : Int))))))]))
 (false = false ∧
 false = false ∧
 Q [SV.bool false]
 [((3 : Nat), LB.var [SV.arr (2 : Nat) (Sh.int IntKind.i16) w]),
 ((1167936 : Nat),
 LB.row (3 : Nat) (Sh.int IntKind.i64)
 (cutO b
 (IntKind.i64.wrap (gt (Sh.int IntKind.i16) w (Int.toNat (0 : Int))))
 (IntKind.i64.wrap (gt (Sh.int IntKind.i16) w (Int.toNat (1 : Int)))))),
 ((1196608 : Nat),
 LB.row (48 : Nat) ((Sh.int IntKind.i64).pair (Sh.int IntKind.i64))
 (blkO b
 (IntKind.i64.wrap (gt (Sh.int IntKind.i16) w (Int.toNat (0 : Int))))
 (IntKind.i64.wrap (gt (Sh.int IntKind.i16) w (Int.toNat (1 : Int)))))),
 ((1229376 : Nat),
 LB.row (26 : Nat) (Sh.arr (2 : Nat) (Sh.int IntKind.i64))
 (matO b b
 (IntKind.i64.wrap (gt (Sh.int IntKind.i16) w (Int.toNat (0 : Int))))
 (IntKind.i64.wrap
 (gt (Sh.int IntKind.i16) w (Int.toNat (1 : Int))))))]))
 (false = false ∧
 false = false ∧
 false = false ∧
 Q [SV.bool false]
 [((3 : Nat), LB.var [SV.arr (2 : Nat) (Sh.int IntKind.i16) w]),
 ((1167936 : Nat),
 LB.row (3 : Nat) (Sh.int IntKind.i64)
 (cutO b
 (IntKind.i64.wrap (gt (Sh.int IntKind.i16) w (Int.toNat (0 : Int))))
 (IntKind.i64.wrap (gt (Sh.int IntKind.i16) w (Int.toNat (1 : Int)))))),
 ((1196608 : Nat),
 LB.row (48 : Nat) ((Sh.int IntKind.i64).pair (Sh.int IntKind.i64))
 (blkO b
 (IntKind.i64.wrap (gt (Sh.int IntKind.i16) w (Int.toNat (0 : Int))))
 (IntKind.i64.wrap (gt (Sh.int IntKind.i16) w (Int.toNat (1 : Int)))))),
 ((1229376 : Nat),
 LB.row (26 : Nat) (Sh.arr (2 : Nat) (Sh.int IntKind.i64))
 (matO b b
 (IntKind.i64.wrap (gt (Sh.int IntKind.i16) w (Int.toNat (0 : Int))))
 (IntKind.i64.wrap
 (gt (Sh.int IntKind.i16) w (Int.toNat (1 : Int))))))]))
 (false = false ∧
 false = false ∧
 false = false ∧
 false = false ∧
 Q [SV.bool false]
 [((3 : Nat), LB.var [SV.arr (2 : Nat) (Sh.int IntKind.i16) w]),
 ((1167936 : Nat),
 LB.row (3 : Nat) (Sh.int IntKind.i64)
 (cutO b
 (IntKind.i64.wrap (gt (Sh.int IntKind.i16) w (Int.toNat (0 : Int))))
 (IntKind.i64.wrap (gt (Sh.int IntKind.i16) w (Int.toNat (1 : Int)))))),
 ((1196608 : Nat),
 LB.row (48 : Nat) ((Sh.int IntKind.i64).pair (Sh.int IntKind.i64))
 (blkO b
 (IntKind.i64.wrap (gt (Sh.int IntKind.i16) w (Int.toNat (0 : Int))))
 (IntKind.i64.wrap (gt (Sh.int IntKind.i16) w (Int.toNat (1 : Int)))))),
 ((1229376 : Nat),
 LB.row (26 : Nat) (Sh.arr (2 : Nat) (Sh.int IntKind.i64))
 (matO b b
 (IntKind.i64.wrap (gt (Sh.int IntKind.i16) w (Int.toNat (0 : Int))))
 (IntKind.i64.wrap
 (gt (Sh.int IntKind.i16) w (Int.toNat (1 : Int))))))])))
 (false = false ∧
 false = false ∧
 ctCut.pre
 (b, IntKind.i64.wrap (gt (Sh.int IntKind.i16) w (Int.toNat (0 : Int))),
 IntKind.i64.wrap (gt (Sh.int IntKind.i16) w (Int.toNat (1 : Int))), ()) ∧
 ctBlk.pre
 (b, IntKind.i64.wrap (gt (Sh.int IntKind.i16) w (Int.toNat (0 : Int))),
 IntKind.i64.wrap (gt (Sh.int IntKind.i16) w (Int.toNat (1 : Int))), ()) ∧
 ctMa.pre
 (b, b, IntKind.i64.wrap (gt (Sh.int IntKind.i16) w (Int.toNat (0 : Int))),
 IntKind.i64.wrap (gt (Sh.int IntKind.i16) w (Int.toNat (1 : Int))), ()) ∧
 bc
 (decide
 (errO (IntKind.i64.wrap (gt (Sh.int IntKind.i16) w (Int.toNat (0 : Int))))
 (IntKind.i64.wrap (gt (Sh.int IntKind.i16) w (Int.toNat (1 : Int)))) =
 (1 : Int)))
 (bc
 (bif true then
 decide
 (errO (IntKind.i64.wrap (gt (Sh.int IntKind.i16) w (Int.toNat (0 : Int))))
 (IntKind.i64.wrap (gt (Sh.int IntKind.i16) w (Int.toNat (1 : Int)))) =
 (1 : Int))
 else false)
 (bc
 (bif true then
 decide
 (errO (IntKind.i64.wrap (gt (Sh.int IntKind.i16) w (Int.toNat (0 : Int))))
 (IntKind.i64.wrap (gt (Sh.int IntKind.i16) w (Int.toNat (1 : Int)))) =
 (1 : Int))
 else false)
 (bc
 (decide
 ((↑(cutO b (IntKind.i64.wrap (gt (Sh.int IntKind.i16) w (Int.toNat (0 : Int))))
 (IntKind.i64.wrap
 (gt (Sh.int IntKind.i16) w (Int.toNat (1 : Int))))).length :
 Int) =
 (0 : Int)))
 (bc
 (bif true then
 decide
 ((↑(blkO b
 (IntKind.i64.wrap (gt (Sh.int IntKind.i16) w (Int.toNat (0 : Int))))
 (IntKind.i64.wrap
 (gt (Sh.int IntKind.i16) w (Int.toNat (1 : Int))))).length :
 Int) =
 (0 : Int))
 else false)
 (bc
 (bif true then
 bif false then true
 else
 bif true then
 decide
 ((↑(matO b b
 (IntKind.i64.wrap
 (gt (Sh.int IntKind.i16) w (Int.toNat (0 : Int))))
 (IntKind.i64.wrap
 (gt (Sh.int IntKind.i16) w (Int.toNat (1 : Int))))).length :
 Int) =
 (0 : Int))
 else false
 else false)
 (Q [SV.bool (bif true then true else false)]
 [((3 : Nat), LB.var [SV.arr (2 : Nat) (Sh.int IntKind.i16) w]),
 ((1167936 : Nat),
 LB.row (3 : Nat) (Sh.int IntKind.i64)
 (cutO b
 (IntKind.i64.wrap (gt (Sh.int IntKind.i16) w (Int.toNat (0 : Int))))
 (IntKind.i64.wrap
 (gt (Sh.int IntKind.i16) w (Int.toNat (1 : Int)))))),
 ((1196608 : Nat),
 LB.row (48 : Nat) ((Sh.int IntKind.i64).pair (Sh.int IntKind.i64))
 (blkO b
 (IntKind.i64.wrap (gt (Sh.int IntKind.i16) w (Int.toNat (0 : Int))))
 (IntKind.i64.wrap
 (gt (Sh.int IntKind.i16) w (Int.toNat (1 : Int)))))),
 ((1229376 : Nat),
 LB.row (26 : Nat) (Sh.arr (2 : Nat) (Sh.int IntKind.i64))
 (matO b b
 (IntKind.i64.wrap (gt (Sh.int IntKind.i16) w (Int.toNat (0 : Int))))
 (IntKind.i64.wrap
 (gt (Sh.int IntKind.i16) w (Int.toNat (1 : Int))))))])
 (false = false ∧
 Q [SV.bool false]
 [((3 : Nat), LB.var [SV.arr (2 : Nat) (Sh.int IntKind.i16) w]),
 ((1167936 : Nat),
 LB.row (3 : Nat) (Sh.int IntKind.i64)
 (cutO b
 (IntKind.i64.wrap (gt (Sh.int IntKind.i16) w (Int.toNat (0 : Int))))
 (IntKind.i64.wrap
 (gt (Sh.int IntKind.i16) w (Int.toNat (1 : Int)))))),
 ((1196608 : Nat),
 LB.row (48 : Nat) ((Sh.int IntKind.i64).pair (Sh.int IntKind.i64))
 (blkO b
 (IntKind.i64.wrap (gt (Sh.int IntKind.i16) w (Int.toNat (0 : Int))))
 (IntKind.i64.wrap
 (gt (Sh.int IntKind.i16) w (Int.toNat (1 : Int)))))),
 ((1229376 : Nat),
 LB.row (26 : Nat) (Sh.arr (2 : Nat) (Sh.int IntKind.i64))
 (matO b b
 (IntKind.i64.wrap (gt (Sh.int IntKind.i16) w (Int.toNat (0 : Int))))
 (IntKind.i64.wrap
 (gt (Sh.int IntKind.i16) w (Int.toNat (1 : Int))))))]))
 (false = false ∧
 false = false ∧
 Q [SV.bool false]
 [((3 : Nat), LB.var [SV.arr (2 : Nat) (Sh.int IntKind.i16) w]),
 ((1167936 : Nat),
 LB.row (3 : Nat) (Sh.int IntKind.i64)
 (cutO b
 (IntKind.i64.wrap (gt (Sh.int IntKind.i16) w (Int.toNat (0 : Int))))
 (IntKind.i64.wrap
 (gt (Sh.int IntKind.i16) w (Int.toNat (1 : Int)))))),
 ((1196608 : Nat),
 LB.row (48 : Nat) ((Sh.int IntKind.i64).pair (Sh.int IntKind.i64))
 (blkO b
 (IntKind.i64.wrap (gt (Sh.int IntKind.i16) w (Int.toNat (0 : Int))))
 (IntKind.i64.wrap
 (gt (Sh.int IntKind.i16) w (Int.toNat (1 : Int)))))),
 ((1229376 : Nat),
 LB.row (26 : Nat) (Sh.arr (2 : Nat) (Sh.int IntKind.i64))
 (matO b b
 (IntKind.i64.wrap (gt (Sh.int IntKind.i16) w (Int.toNat (0 : Int))))
 (IntKind.i64.wrap
 (gt (Sh.int IntKind.i16) w (Int.toNat (1 : Int))))))]))
 (false = false ∧
 false = false ∧
 false = false ∧
 Q [SV.bool false]
 [((3 : Nat), LB.var [SV.arr (2 : Nat) (Sh.int IntKind.i16) w]),
 ((1167936 : Nat),
 LB.row (3 : Nat) (Sh.int IntKind.i64)
 (cutO b
 (IntKind.i64.wrap (gt (Sh.int IntKind.i16) w (Int.toNat (0 : Int))))
 (IntKind.i64.wrap
 (gt (Sh.int IntKind.i16) w (Int.toNat (1 : Int)))))),
 ((1196608 : Nat),
 LB.row (48 : Nat) ((Sh.int IntKind.i64).pair (Sh.int IntKind.i64))
 (blkO b
 (IntKind.i64.wrap (gt (Sh.int IntKind.i16) w (Int.toNat (0 : Int))))
 (IntKind.i64.wrap
 (gt (Sh.int IntKind.i16) w (Int.toNat (1 : Int)))))),
 ((1229376 : Nat),
 LB.row (26 : Nat) (Sh.arr (2 : Nat) (Sh.int IntKind.i64))
 (matO b b
 (IntKind.i64.wrap (gt (Sh.int IntKind.i16) w (Int.toNat (0 : Int))))
 (IntKind.i64.wrap
 (gt (Sh.int IntKind.i16) w (Int.toNat (1 : Int))))))]))
 (false = false ∧
 false = false ∧
 Q [SV.bool false]
 [((3 : Nat), LB.var [SV.arr (2 : Nat) (Sh.int IntKind.i16) w]),
 ((1167936 : Nat),
 LB.row (3 : Nat) (Sh.int IntKind.i64)
 (cutO b
 (IntKind.i64.wrap (gt (Sh.int IntKind.i16) w (Int.toNat (0 : Int))))
 (IntKind.i64.wrap (gt (Sh.int IntKind.i16) w (Int.toNat (1 : Int)))))),
 ((1196608 : Nat),
 LB.row (48 : Nat) ((Sh.int IntKind.i64).pair (Sh.int IntKind.i64))
 (blkO b
 (IntKind.i64.wrap (gt (Sh.int IntKind.i16) w (Int.toNat (0 : Int))))
 (IntKind.i64.wrap (gt (Sh.int IntKind.i16) w (Int.toNat (1 : Int)))))),
 ((1229376 : Nat),
 LB.row (26 : Nat) (Sh.arr (2 : Nat) (Sh.int IntKind.i64))
 (matO b b
 (IntKind.i64.wrap (gt (Sh.int IntKind.i16) w (Int.toNat (0 : Int))))
 (IntKind.i64.wrap
 (gt (Sh.int IntKind.i16) w (Int.toNat (1 : Int))))))]))
 (false = false ∧
 false = false ∧
 false = false ∧
 Q [SV.bool false]
 [((3 : Nat), LB.var [SV.arr (2 : Nat) (Sh.int IntKind.i16) w]),
 ((1167936 : Nat),
 LB.row (3 : Nat) (Sh.int IntKind.i64)
 (cutO b
 (IntKind.i64.wrap (gt (Sh.int IntKind.i16) w (Int.toNat (0 : Int))))
 (IntKind.i64.wrap (gt (Sh.int IntKind.i16) w (Int.toNat (1 : Int)))))),
 ((1196608 : Nat),
 LB.row (48 : Nat) ((Sh.int IntKind.i64).pair (Sh.int IntKind.i64))
 (blkO b
 (IntKind.i64.wrap (gt (Sh.int IntKind.i16) w (Int.toNat (0 : Int))))
 (IntKind.i64.wrap (gt (Sh.int IntKind.i16) w (Int.toNat (1 : Int)))))),
 ((1229376 : Nat),
 LB.row (26 : Nat) (Sh.arr (2 : Nat) (Sh.int IntKind.i64))
 (matO b b
 (IntKind.i64.wrap (gt (Sh.int IntKind.i16) w (Int.toNat (0 : Int))))
 (IntKind.i64.wrap
 (gt (Sh.int IntKind.i16) w (Int.toNat (1 : Int))))))]))
 (false = false ∧
 false = false ∧
 false = false ∧
 false = false ∧
 Q [SV.bool false]
 [((3 : Nat), LB.var [SV.arr (2 : Nat) (Sh.int IntKind.i16) w]),
 ((1167936 : Nat),
 LB.row (3 : Nat) (Sh.int IntKind.i64)
 (cutO b
 (IntKind.i64.wrap (gt (Sh.int IntKind.i16) w (Int.toNat (0 : Int))))
 (IntKind.i64.wrap (gt (Sh.int IntKind.i16) w (Int.toNat (1 : Int)))))),
 ((1196608 : Nat),
 LB.row (48 : Nat) ((Sh.int IntKind.i64).pair (Sh.int IntKind.i64))
 (blkO b
 (IntKind.i64.wrap (gt (Sh.int IntKind.i16) w (Int.toNat (0 : Int))))
 (IntKind.i64.wrap (gt (Sh.int IntKind.i16) w (Int.toNat (1 : Int)))))),
 ((1229376 : Nat),
 LB.row (26 : Nat) (Sh.arr (2 : Nat) (Sh.int IntKind.i64))
 (matO b b
 (IntKind.i64.wrap (gt (Sh.int IntKind.i16) w (Int.toNat (0 : Int))))
 (IntKind.i64.wrap
 (gt (Sh.int IntKind.i16) w (Int.toNat (1 : Int))))))])))) := by kernel_rfl
end Go.Proofs.Ytpdhohkamhmjkaa
namespace Go.Proofs.Ytpdhohkamhmjkaa
open Go.Px Go.Ax
attribute [local irreducible] Go.Px.sy Go.Px.syE
def ctL10 : Ctr := ⟨[slB, .arr 2 (.int .i16)], fun x => bytesOK x.1, fun _ => [.bool true], fun _ => []⟩
set_option maxRecDepth 20000 in
theorem l10_run (b w : List Int) (hp : bytesOK b) (R : List Item → PS → Prop) : sy tt G0 D9 Try.f10.ntmps Try.f10.results.toList (QC ctL10 (b, w, ())) R 1000 [.code (bodyOf Try.f10)] (entry [slB, .arr 2 (.int .i16)] (b, w, ())) := by
  rw [vc_l10]
  generalize IntKind.i64.wrap (gt (Sh.int .i16) w (Int.toNat 0)) = l
  generalize IntKind.i64.wrap (gt (Sh.int .i16) w (Int.toNat 1)) = m
  refine ⟨trivial, bc_of (fun h => QC.flat rfl rfl rfl) (fun h => ⟨by decide, by decide, by decide, by decide, by decide, by decide, ?_⟩)⟩
  have h : ¬ (20 : Int) < b.length := of_decide_eq_false h
  have hb : preT b := ⟨by omega, hp⟩
  have p1 : ctCut.pre (b, l, m, ()) := hb
  have p2 : ctBlk.pre (b, l, m, ()) := hb
  have p3 : ctMa.pre (b, b, l, m, ()) := ⟨hb, hb⟩
  by_cases hlim : 4 ≤ l ∧ l ≤ m ∧ m ≤ 4096
  · have hl : limR l m = true := decide_eq_true hlim
    have e : errO l m = 0 := by rw [errO, hl]; rfl
    simp only [decide_eq_true hlim.1, decide_eq_true hlim.2.1, decide_eq_true hlim.2.2, cond_true, cond_false, bc_t, bc_f, e, p1, p2, p3, true_and, decide_true]
    exact QC.flat rfl rfl rfl
  · have hl : limR l m = false := decide_eq_false hlim
    have e : errO l m = 1 := by rw [errO, hl]; rfl
    have e1 : cutO b l m = [] := by rw [cutO, blkO, hl]; rfl
    have e2 : blkO b l m = [] := by rw [blkO, hl]; rfl
    have e3 : matO b b l m = [] := by rw [matO, hl]; rfl
    refine bc_of (fun h1 => bc_of (fun h2 => bc_of (fun h3 => absurd ⟨of_decide_eq_true h1, of_decide_eq_true h2, of_decide_eq_true h3⟩ hlim) (fun h3 => ?_)) (fun h2 => ?_)) (fun h1 => ?_)
    all_goals
      simp only [cond_true, cond_false, bc_t, bc_f, e, e1, e2, e3, p1, p2, p3, true_and, decide_true, List.length_nil, show ((0 : Nat) : Int) = 0 from rfl, show ((1 : Int) = 0) = False from by simp, decide_false]
      exact QC.flat rfl rfl rfl
theorem l10_held : Held Try.prog G0 10 ctL10 := Held.run dx9 (fn := Try.f10) rfl rfl ⟨by decide, by decide⟩ fun x hp => l10_run x.1 x.2.1 hp _
end Go.Proofs.Ytpdhohkamhmjkaa
