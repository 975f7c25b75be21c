/-
  A part of the proof: what pieces of the program give; conditions: those of each theorem.
-/
import Derived.Test.YtikikmhlicoheaaGreatDoorQ1
import Derived.KernelRfl
import Derived.Test.YtikikmhlicoheaaGreatDoorHD
set_option linter.unusedVariables false
set_option linter.unusedSimpArgs false
namespace Go.Proofs.YtikikmhlicoheaaGreatDoor
open Go.Px Go.Ax
set_option maxRecDepth 100000
set_option maxRecDepth 100000
theorem vc_san  (Q : List SV → List (Nat × LB) → Prop) (R : List Item → PS → Prop) : sy tt G0 CN Tryz.f9.ntmps Tryz.f9.results.toList Q R 1000 [.code (bodyOf Tryz.f9)] (entry [] ()) =
    ((0 : Nat) + (2 : Nat) ≤ (((List.replicate (2 : Nat) uB.dflt).set (0 : Nat) (255 : Int)).set (1 : Nat) (1 : Int)).length ∧
 (0 : Nat) + (2 : Nat) ≤ (((List.replicate (2 : Nat) uB.dflt).set (0 : Nat) (255 : Int)).set (1 : Nat) (1 : Int)).length ∧
 (0 : Nat) + (3 : Nat) ≤ ((((List.replicate (3 : Nat) uB.dflt).set (0 : Nat) (1 : Int)).set (1 : Nat) (2 : Int)).set (2 : Nat) (3 : Int)).length ∧
 (0 : Nat) + (2 : Nat) ≤ (((List.replicate (2 : Nat) opS.dflt).set (0 : Nat) ((1 : Int), (1 : Int), (2 : Int), (0 : Int), [])).set (1 : Nat) ((3 : Int), (0 : Int), (2 : Int), (9 : Int), [])).length ∧
 ctAp.pre (winL uB (0 : Nat) (3 : Nat) ((((List.replicate (3 : Nat) uB.dflt).set (0 : Nat) (1 : Int)).set (1 : Nat) (2 : Int)).set (2 : Nat) (3 : Int)), (false, (3 : Int), (4 : Int), winL opS (0 : Nat) (2 : Nat) (((List.replicate (2 : Nat) opS.dflt).set (0 : Nat) ((1 : Int), (1 : Int), (2 : Int), (0 : Int), [])).set (1 : Nat) ((3 : Int), (0 : Int), (2 : Int), (9 : Int), []))), ()) ∧
 (0 : Nat) + (3 : Nat) ≤ ((((List.replicate (3 : Nat) uB.dflt).set (0 : Nat) (1 : Int)).set (1 : Nat) (2 : Int)).set (2 : Nat) (3 : Int)).length ∧
 (0 : Nat) + (1 : Nat) ≤ ([((2 : Int), (0 : Int), (2 : Int), (0 : Int), winL uB (0 : Nat) (2 : Nat) (((List.replicate (2 : Nat) uB.dflt).set (0 : Nat) (255 : Int)).set (1 : Nat) (1 : Int)))] : List opS.D).length ∧
 ctAp.pre (winL uB (0 : Nat) (3 : Nat) ((((List.replicate (3 : Nat) uB.dflt).set (0 : Nat) (1 : Int)).set (1 : Nat) (2 : Int)).set (2 : Nat) (3 : Int)), (false, (3 : Int), (2 : Int), ([((2 : Int), (0 : Int), (2 : Int), (0 : Int), winL uB (0 : Nat) (2 : Nat) (((List.replicate (2 : Nat) uB.dflt).set (0 : Nat) (255 : Int)).set (1 : Nat) (1 : Int)))] : List opS.D)), ()) ∧
 (0 : Nat) + (2 : Nat) ≤ (((List.replicate (2 : Nat) opS.dflt).set (0 : Nat) ((1 : Int), (1 : Int), (2 : Int), (0 : Int), [])).set (1 : Nat) ((3 : Int), (0 : Int), (2 : Int), (9 : Int), [])).length ∧
 ctSym.pre ((false, (3 : Int), (4 : Int), winL opS (0 : Nat) (2 : Nat) (((List.replicate (2 : Nat) opS.dflt).set (0 : Nat) ((1 : Int), (1 : Int), (2 : Int), (0 : Int), [])).set (1 : Nat) ((3 : Int), (0 : Int), (2 : Int), (9 : Int), []))), ()) ∧
 (0 : Nat) + (1 : Nat) ≤ ([((1 : Int), (2 : Int), (2 : Int), (0 : Int), [])] : List opS.D).length ∧
 ctChk.pre ((false, (3 : Int), (2 : Int), ([((1 : Int), (2 : Int), (2 : Int), (0 : Int), [])] : List opS.D)), ()) ∧
 (0 : Nat) + (1 : Nat) ≤ ([(7 : Int)] : List uB.D).length ∧
 (0 : Nat) + (1 : Nat) ≤ ([(7 : Int)] : List uB.D).length ∧
 (0 : Nat) + (1 : Nat) ≤ ([((4 : Int), (0 : Int), (1 : Int), (0 : Int), ([(7 : Int)] : List uB.D))] : List opS.D).length ∧
 ctChk.pre ((false, (3 : Int), (2 : Int), ([((4 : Int), (0 : Int), (1 : Int), (0 : Int), winL uB (0 : Nat) (1 : Nat) ([(7 : Int)] : List uB.D))] : List opS.D)), ()) ∧
 (0 : Nat) + (4 : Nat) ≤ (((((List.replicate (4 : Nat) syS.dflt).set (0 : Nat) (true, (1 : Int), (0 : Int))).set (1 : Nat) (true, (2 : Int), (0 : Int))).set (2 : Nat) (false, (0 : Int), (9 : Int))).set (3 : Nat) (false, (0 : Int), (9 : Int))).length ∧
 ctOf.pre (winL syS (0 : Nat) (4 : Nat) (((((List.replicate (4 : Nat) syS.dflt).set (0 : Nat) (true, (1 : Int), (0 : Int))).set (1 : Nat) (true, (2 : Int), (0 : Int))).set (2 : Nat) (false, (0 : Int), (9 : Int))).set (3 : Nat) (false, (0 : Int), (9 : Int))), (3 : Int), ()) ∧
 (0 : Int) ≤ (2 : Int) ∧
 (2 : Int) ≤ (↑(3 : Nat) : Int) ∧
 (0 : Nat) + (3 : Nat) ≤ ((((List.replicate (3 : Nat) uB.dflt).set (0 : Nat) (1 : Int)).set (1 : Nat) (2 : Int)).set (2 : Nat) (3 : Int)).length ∧
 (0 : Nat) + (0 : Nat) + (Int.toNat (2 : Int) - (0 : Nat)) ≤ ((((List.replicate (3 : Nat) uB.dflt).set (0 : Nat) (1 : Int)).set (1 : Nat) (2 : Int)).set (2 : Nat) (3 : Int)).length ∧
 (0 : Nat) + (2 : Nat) ≤ (((List.replicate (2 : Nat) opS.dflt).set (0 : Nat) ((1 : Int), (1 : Int), (2 : Int), (0 : Int), [])).set (1 : Nat) ((3 : Int), (0 : Int), (2 : Int), (9 : Int), [])).length ∧
 ctAp.pre (winL uB ((0 : Nat) + (0 : Nat)) (Int.toNat (2 : Int) - (0 : Nat)) ((((List.replicate (3 : Nat) uB.dflt).set (0 : Nat) (1 : Int)).set (1 : Nat) (2 : Int)).set (2 : Nat) (3 : Int)), (false, (3 : Int), (4 : Int), winL opS (0 : Nat) (2 : Nat) (((List.replicate (2 : Nat) opS.dflt).set (0 : Nat) ((1 : Int), (1 : Int), (2 : Int), (0 : Int), [])).set (1 : Nat) ((3 : Int), (0 : Int), (2 : Int), (9 : Int), []))), ()) ∧
 (0 : Nat) + (2 : Nat) ≤ (((List.replicate (2 : Nat) uB.dflt).set (0 : Nat) (9 : Int)).set (1 : Nat) (9 : Int)).length ∧
 (0 : Nat) + (2 : Nat) ≤ (((List.replicate (2 : Nat) uB.dflt).set (0 : Nat) (9 : Int)).set (1 : Nat) (9 : Int)).length ∧
 (0 : Nat) + (apV (winL uB (0 : Nat) (3 : Nat) ((((List.replicate (3 : Nat) uB.dflt).set (0 : Nat) (1 : Int)).set (1 : Nat) (2 : Int)).set (2 : Nat) (3 : Int))) (false, (3 : Int), (4 : Int), winL opS (0 : Nat) (2 : Nat) (((List.replicate (2 : Nat) opS.dflt).set (0 : Nat) ((1 : Int), (1 : Int), (2 : Int), (0 : Int), [])).set (1 : Nat) ((3 : Int), (0 : Int), (2 : Int), (9 : Int), [])))).fst.length ≤ (apV (winL uB (0 : Nat) (3 : Nat) ((((List.replicate (3 : Nat) uB.dflt).set (0 : Nat) (1 : Int)).set (1 : Nat) (2 : Int)).set (2 : Nat) (3 : Int))) (false, (3 : Int), (4 : Int), winL opS (0 : Nat) (2 : Nat) (((List.replicate (2 : Nat) opS.dflt).set (0 : Nat) ((1 : Int), (1 : Int), (2 : Int), (0 : Int), [])).set (1 : Nat) ((3 : Int), (0 : Int), (2 : Int), (9 : Int), [])))).fst.length ∧
 (0 : Nat) + (4 : Nat) ≤ (((((List.replicate (4 : Nat) uB.dflt).set (0 : Nat) (2 : Int)).set (1 : Nat) (3 : Int)).set (2 : Nat) (9 : Int)).set (3 : Nat) (9 : Int)).length ∧
 ctR2.pre (winL uB 0 (apV (winL uB (0 : Nat) (3 : Nat) ((((List.replicate (3 : Nat) uB.dflt).set (0 : Nat) (1 : Int)).set (1 : Nat) (2 : Int)).set (2 : Nat) (3 : Int))) (false, (3 : Int), (4 : Int), winL opS (0 : Nat) (2 : Nat) (((List.replicate (2 : Nat) opS.dflt).set (0 : Nat) ((1 : Int), (1 : Int), (2 : Int), (0 : Int), [])).set (1 : Nat) ((3 : Int), (0 : Int), (2 : Int), (9 : Int), [])))).fst.length (apV (winL uB (0 : Nat) (3 : Nat) ((((List.replicate (3 : Nat) uB.dflt).set (0 : Nat) (1 : Int)).set (1 : Nat) (2 : Int)).set (2 : Nat) (3 : Int))) (false, (3 : Int), (4 : Int), winL opS (0 : Nat) (2 : Nat) (((List.replicate (2 : Nat) opS.dflt).set (0 : Nat) ((1 : Int), (1 : Int), (2 : Int), (0 : Int), [])).set (1 : Nat) ((3 : Int), (0 : Int), (2 : Int), (9 : Int), [])))).fst, winL uB (0 : Nat) (4 : Nat) (((((List.replicate (4 : Nat) uB.dflt).set (0 : Nat) (2 : Int)).set (1 : Nat) (3 : Int)).set (2 : Nat) (9 : Int)).set (3 : Nat) (9 : Int)), ()) ∧
 (0 : Nat) + (apV (winL uB (0 : Nat) (3 : Nat) ((((List.replicate (3 : Nat) uB.dflt).set (0 : Nat) (1 : Int)).set (1 : Nat) (2 : Int)).set (2 : Nat) (3 : Int))) (false, (3 : Int), (2 : Int), ([((2 : Int), (0 : Int), (2 : Int), (0 : Int), winL uB (0 : Nat) (2 : Nat) (((List.replicate (2 : Nat) uB.dflt).set (0 : Nat) (255 : Int)).set (1 : Nat) (1 : Int)))] : List opS.D))).fst.length ≤ (apV (winL uB (0 : Nat) (3 : Nat) ((((List.replicate (3 : Nat) uB.dflt).set (0 : Nat) (1 : Int)).set (1 : Nat) (2 : Int)).set (2 : Nat) (3 : Int))) (false, (3 : Int), (2 : Int), ([((2 : Int), (0 : Int), (2 : Int), (0 : Int), winL uB (0 : Nat) (2 : Nat) (((List.replicate (2 : Nat) uB.dflt).set (0 : Nat) (255 : Int)).set (1 : Nat) (1 : Int)))] : List opS.D))).fst.length ∧
 (0 : Nat) + (2 : Nat) ≤ (((List.replicate (2 : Nat) uB.dflt).set (0 : Nat) (0 : Int)).set (1 : Nat) (3 : Int)).length ∧
 ctR2.pre (winL uB 0 (apV (winL uB (0 : Nat) (3 : Nat) ((((List.replicate (3 : Nat) uB.dflt).set (0 : Nat) (1 : Int)).set (1 : Nat) (2 : Int)).set (2 : Nat) (3 : Int))) (false, (3 : Int), (2 : Int), ([((2 : Int), (0 : Int), (2 : Int), (0 : Int), winL uB (0 : Nat) (2 : Nat) (((List.replicate (2 : Nat) uB.dflt).set (0 : Nat) (255 : Int)).set (1 : Nat) (1 : Int)))] : List opS.D))).fst.length (apV (winL uB (0 : Nat) (3 : Nat) ((((List.replicate (3 : Nat) uB.dflt).set (0 : Nat) (1 : Int)).set (1 : Nat) (2 : Int)).set (2 : Nat) (3 : Int))) (false, (3 : Int), (2 : Int), ([((2 : Int), (0 : Int), (2 : Int), (0 : Int), winL uB (0 : Nat) (2 : Nat) (((List.replicate (2 : Nat) uB.dflt).set (0 : Nat) (255 : Int)).set (1 : Nat) (1 : Int)))] : List opS.D))).fst, winL uB (0 : Nat) (2 : Nat) (((List.replicate (2 : Nat) uB.dflt).set (0 : Nat) (0 : Int)).set (1 : Nat) (3 : Int)), ()) ∧
 (0 : Nat) + (symV (false, (3 : Int), (4 : Int), winL opS (0 : Nat) (2 : Nat) (((List.replicate (2 : Nat) opS.dflt).set (0 : Nat) ((1 : Int), (1 : Int), (2 : Int), (0 : Int), [])).set (1 : Nat) ((3 : Int), (0 : Int), (2 : Int), (9 : Int), [])))).fst.length ≤ (symV (false, (3 : Int), (4 : Int), winL opS (0 : Nat) (2 : Nat) (((List.replicate (2 : Nat) opS.dflt).set (0 : Nat) ((1 : Int), (1 : Int), (2 : Int), (0 : Int), [])).set (1 : Nat) ((3 : Int), (0 : Int), (2 : Int), (9 : Int), [])))).fst.length ∧
 (0 : Nat) + (4 : Nat) ≤ (((((List.replicate (4 : Nat) syS.dflt).set (0 : Nat) (true, (1 : Int), (0 : Int))).set (1 : Nat) (true, (2 : Int), (0 : Int))).set (2 : Nat) (false, (0 : Int), (9 : Int))).set (3 : Nat) (false, (0 : Int), (9 : Int))).length ∧
 ctSS.pre (winL syS 0 (symV (false, (3 : Int), (4 : Int), winL opS (0 : Nat) (2 : Nat) (((List.replicate (2 : Nat) opS.dflt).set (0 : Nat) ((1 : Int), (1 : Int), (2 : Int), (0 : Int), [])).set (1 : Nat) ((3 : Int), (0 : Int), (2 : Int), (9 : Int), [])))).fst.length (symV (false, (3 : Int), (4 : Int), winL opS (0 : Nat) (2 : Nat) (((List.replicate (2 : Nat) opS.dflt).set (0 : Nat) ((1 : Int), (1 : Int), (2 : Int), (0 : Int), [])).set (1 : Nat) ((3 : Int), (0 : Int), (2 : Int), (9 : Int), [])))).fst, winL syS (0 : Nat) (4 : Nat) (((((List.replicate (4 : Nat) syS.dflt).set (0 : Nat) (true, (1 : Int), (0 : Int))).set (1 : Nat) (true, (2 : Int), (0 : Int))).set (2 : Nat) (false, (0 : Int), (9 : Int))).set (3 : Nat) (false, (0 : Int), (9 : Int))), ()) ∧
 (0 : Nat) + (2 : Nat) ≤ (((List.replicate (2 : Nat) opS.dflt).set (0 : Nat) ((1 : Int), (1 : Int), (2 : Int), (0 : Int), [])).set (1 : Nat) ((4 : Int), (0 : Int), (2 : Int), (0 : Int), winL uB (0 : Nat) (2 : Nat) (((List.replicate (2 : Nat) uB.dflt).set (0 : Nat) (9 : Int)).set (1 : Nat) (9 : Int)))).length ∧
 ctSm.pre (((ofV (winL syS (0 : Nat) (4 : Nat) (((((List.replicate (4 : Nat) syS.dflt).set (0 : Nat) (true, (1 : Int), (0 : Int))).set (1 : Nat) (true, (2 : Int), (0 : Int))).set (2 : Nat) (false, (0 : Int), (9 : Int))).set (3 : Nat) (false, (0 : Int), (9 : Int)))) (3 : Int)).fst.fst, (ofV (winL syS (0 : Nat) (4 : Nat) (((((List.replicate (4 : Nat) syS.dflt).set (0 : Nat) (true, (1 : Int), (0 : Int))).set (1 : Nat) (true, (2 : Int), (0 : Int))).set (2 : Nat) (false, (0 : Int), (9 : Int))).set (3 : Nat) (false, (0 : Int), (9 : Int)))) (3 : Int)).fst.snd.fst, (ofV (winL syS (0 : Nat) (4 : Nat) (((((List.replicate (4 : Nat) syS.dflt).set (0 : Nat) (true, (1 : Int), (0 : Int))).set (1 : Nat) (true, (2 : Int), (0 : Int))).set (2 : Nat) (false, (0 : Int), (9 : Int))).set (3 : Nat) (false, (0 : Int), (9 : Int)))) (3 : Int)).fst.snd.snd.fst, (ofV (winL syS (0 : Nat) (4 : Nat) (((((List.replicate (4 : Nat) syS.dflt).set (0 : Nat) (true, (1 : Int), (0 : Int))).set (1 : Nat) (true, (2 : Int), (0 : Int))).set (2 : Nat) (false, (0 : Int), (9 : Int))).set (3 : Nat) (false, (0 : Int), (9 : Int)))) (3 : Int)).fst.snd.snd.snd), (false, (3 : Int), (4 : Int), winL opS (0 : Nat) (2 : Nat) (((List.replicate (2 : Nat) opS.dflt).set (0 : Nat) ((1 : Int), (1 : Int), (2 : Int), (0 : Int), [])).set (1 : Nat) ((4 : Int), (0 : Int), (2 : Int), (0 : Int), winL uB (0 : Nat) (2 : Nat) (((List.replicate (2 : Nat) uB.dflt).set (0 : Nat) (9 : Int)).set (1 : Nat) (9 : Int))))), ()) ∧
 (0 : Nat) + (2 : Nat) ≤ (((List.replicate (2 : Nat) opS.dflt).set (0 : Nat) ((1 : Int), (1 : Int), (2 : Int), (0 : Int), [])).set (1 : Nat) ((3 : Int), (0 : Int), (2 : Int), (9 : Int), [])).length ∧
 ctCost.pre ((false, (3 : Int), (4 : Int), winL opS (0 : Nat) (2 : Nat) (((List.replicate (2 : Nat) opS.dflt).set (0 : Nat) ((1 : Int), (1 : Int), (2 : Int), (0 : Int), [])).set (1 : Nat) ((3 : Int), (0 : Int), (2 : Int), (9 : Int), []))), ()) ∧
 (0 : Nat) + (1 : Nat) ≤ ([((2 : Int), (0 : Int), (2 : Int), (0 : Int), winL uB (0 : Nat) (2 : Nat) (((List.replicate (2 : Nat) uB.dflt).set (0 : Nat) (255 : Int)).set (1 : Nat) (1 : Int)))] : List opS.D).length ∧
 ctCost.pre ((false, (3 : Int), (2 : Int), ([((2 : Int), (0 : Int), (2 : Int), (0 : Int), winL uB (0 : Nat) (2 : Nat) (((List.replicate (2 : Nat) uB.dflt).set (0 : Nat) (255 : Int)).set (1 : Nat) (1 : Int)))] : List opS.D)), ()) ∧
 (0 : Nat) + (2 : Nat) ≤ (((List.replicate (2 : Nat) opS.dflt).set (0 : Nat) ((1 : Int), (1 : Int), (2 : Int), (0 : Int), [])).set (1 : Nat) ((4 : Int), (0 : Int), (2 : Int), (0 : Int), winL uB (0 : Nat) (2 : Nat) (((List.replicate (2 : Nat) uB.dflt).set (0 : Nat) (9 : Int)).set (1 : Nat) (9 : Int)))).length ∧
 ctCost.pre ((false, (3 : Int), (4 : Int), winL opS (0 : Nat) (2 : Nat) (((List.replicate (2 : Nat) opS.dflt).set (0 : Nat) ((1 : Int), (1 : Int), (2 : Int), (0 : Int), [])).set (1 : Nat) ((4 : Int), (0 : Int), (2 : Int), (0 : Int), winL uB (0 : Nat) (2 : Nat) (((List.replicate (2 : Nat) uB.dflt).set (0 : Nat) (9 : Int)).set (1 : Nat) (9 : Int))))), ()) ∧
 ctWh.pre ((3 : Int), ()) ∧
 ctRw.pre ((3 : Int), ()) ∧
 ctSm.pre (((whV (3 : Int)).fst, (whV (3 : Int)).snd.fst, (whV (3 : Int)).snd.snd.fst, (whV (3 : Int)).snd.snd.snd), ((rwV (3 : Int)).fst, (rwV (3 : Int)).snd.fst, (rwV (3 : Int)).snd.snd.fst, (rwV (3 : Int)).snd.snd.snd), ()) ∧
 ctWh.pre ((0 : Int), ()) ∧
 ctSm.pre (((whV (0 : Int)).fst, (whV (0 : Int)).snd.fst, (whV (0 : Int)).snd.snd.fst, (whV (0 : Int)).snd.snd.snd), (false, (0 : Int), (0 : Int), []), ()) ∧
 Q [.bool (bif true then smB ((whV (0 : Int)).fst, (whV (0 : Int)).snd.fst, (whV (0 : Int)).snd.snd.fst, (whV (0 : Int)).snd.snd.snd) (false, (0 : Int), (0 : Int), []) else false)] [(2, .var [.bool false, .int .i64 3, .int .i64 4, .win true opS 23 0 (2 : Nat)]), (3, .var [.bool false, .int .i64 3, .int .i64 2, .win true opS 27 0 (1 : Nat)]), (14, .var [.bool (ofV (winL syS (0 : Nat) (4 : Nat) (((((List.replicate (4 : Nat) syS.dflt).set (0 : Nat) (true, (1 : Int), (0 : Int))).set (1 : Nat) (true, (2 : Int), (0 : Int))).set (2 : Nat) (false, (0 : Int), (9 : Int))).set (3 : Nat) (false, (0 : Int), (9 : Int)))) (3 : Int)).fst.fst, .int .i64 (ofV (winL syS (0 : Nat) (4 : Nat) (((((List.replicate (4 : Nat) syS.dflt).set (0 : Nat) (true, (1 : Int), (0 : Int))).set (1 : Nat) (true, (2 : Int), (0 : Int))).set (2 : Nat) (false, (0 : Int), (9 : Int))).set (3 : Nat) (false, (0 : Int), (9 : Int)))) (3 : Int)).fst.snd.fst, .int .i64 (ofV (winL syS (0 : Nat) (4 : Nat) (((((List.replicate (4 : Nat) syS.dflt).set (0 : Nat) (true, (1 : Int), (0 : Int))).set (1 : Nat) (true, (2 : Int), (0 : Int))).set (2 : Nat) (false, (0 : Int), (9 : Int))).set (3 : Nat) (false, (0 : Int), (9 : Int)))) (3 : Int)).fst.snd.snd.fst, .sl opS (ofV (winL syS (0 : Nat) (4 : Nat) (((((List.replicate (4 : Nat) syS.dflt).set (0 : Nat) (true, (1 : Int), (0 : Int))).set (1 : Nat) (true, (2 : Int), (0 : Int))).set (2 : Nat) (false, (0 : Int), (9 : Int))).set (3 : Nat) (false, (0 : Int), (9 : Int)))) (3 : Int)).fst.snd.snd.snd]), (18, .var [.bool false, .int .i64 3, .int .i64 4, .win true opS 80 0 (2 : Nat)]), (20, .row 5 uB ((((List.replicate (3 : Nat) uB.dflt).set (0 : Nat) (1 : Int)).set (1 : Nat) (2 : Int)).set (2 : Nat) (3 : Int))), (23, .row 55 opS (((List.replicate (2 : Nat) opS.dflt).set (0 : Nat) ((1 : Int), (1 : Int), (2 : Int), (0 : Int), [])).set (1 : Nat) ((3 : Int), (0 : Int), (2 : Int), (9 : Int), []))), (27, .row 55 opS ([((2 : Int), (0 : Int), (2 : Int), (0 : Int), winL uB (0 : Nat) (2 : Nat) (((List.replicate (2 : Nat) uB.dflt).set (0 : Nat) (255 : Int)).set (1 : Nat) (1 : Int)))] : List opS.D)), (48, .row 55 opS ([((1 : Int), (2 : Int), (2 : Int), (0 : Int), [])] : List opS.D)), (56, .row 55 opS ([((4 : Int), (0 : Int), (1 : Int), (0 : Int), ([(7 : Int)] : List uB.D))] : List opS.D)), (80, .row 55 opS (((List.replicate (2 : Nat) opS.dflt).set (0 : Nat) ((1 : Int), (1 : Int), (2 : Int), (0 : Int), [])).set (1 : Nat) ((4 : Int), (0 : Int), (2 : Int), (0 : Int), winL uB (0 : Nat) (2 : Nat) (((List.replicate (2 : Nat) uB.dflt).set (0 : Nat) (9 : Int)).set (1 : Nat) (9 : Int))))), (86, .row 5 uB (((((List.replicate (4 : Nat) uB.dflt).set (0 : Nat) (2 : Int)).set (1 : Nat) (3 : Int)).set (2 : Nat) (9 : Int)).set (3 : Nat) (9 : Int))), (95, .row 5 uB (((List.replicate (2 : Nat) uB.dflt).set (0 : Nat) (0 : Int)).set (1 : Nat) (3 : Int))), (108, .row 60 syS (((((List.replicate (4 : Nat) syS.dflt).set (0 : Nat) (true, (1 : Int), (0 : Int))).set (1 : Nat) (true, (2 : Int), (0 : Int))).set (2 : Nat) (false, (0 : Int), (9 : Int))).set (3 : Nat) (false, (0 : Int), (9 : Int)))), (1131072, .row 5 uB (apV (winL uB (0 : Nat) (3 : Nat) ((((List.replicate (3 : Nat) uB.dflt).set (0 : Nat) (1 : Int)).set (1 : Nat) (2 : Int)).set (2 : Nat) (3 : Int))) (false, (3 : Int), (4 : Int), winL opS (0 : Nat) (2 : Nat) (((List.replicate (2 : Nat) opS.dflt).set (0 : Nat) ((1 : Int), (1 : Int), (2 : Int), (0 : Int), [])).set (1 : Nat) ((3 : Int), (0 : Int), (2 : Int), (9 : Int), [])))).fst), (1155648, .row 5 uB (apV (winL uB (0 : Nat) (3 : Nat) ((((List.replicate (3 : Nat) uB.dflt).set (0 : Nat) (1 : Int)).set (1 : Nat) (2 : Int)).set (2 : Nat) (3 : Int))) (false, (3 : Int), (2 : Int), ([((2 : Int), (0 : Int), (2 : Int), (0 : Int), winL uB (0 : Nat) (2 : Nat) (((List.replicate (2 : Nat) uB.dflt).set (0 : Nat) (255 : Int)).set (1 : Nat) (1 : Int)))] : List opS.D))).fst), (1176128, .row 60 syS (symV (false, (3 : Int), (4 : Int), winL opS (0 : Nat) (2 : Nat) (((List.replicate (2 : Nat) opS.dflt).set (0 : Nat) ((1 : Int), (1 : Int), (2 : Int), (0 : Int), [])).set (1 : Nat) ((3 : Int), (0 : Int), (2 : Int), (9 : Int), [])))).fst), (1303104, .row 5 uB (apV (winL uB ((0 : Nat) + (0 : Nat)) (Int.toNat (2 : Int) - (0 : Nat)) ((((List.replicate (3 : Nat) uB.dflt).set (0 : Nat) (1 : Int)).set (1 : Nat) (2 : Int)).set (2 : Nat) (3 : Int))) (false, (3 : Int), (4 : Int), winL opS (0 : Nat) (2 : Nat) (((List.replicate (2 : Nat) opS.dflt).set (0 : Nat) ((1 : Int), (1 : Int), (2 : Int), (0 : Int), [])).set (1 : Nat) ((3 : Int), (0 : Int), (2 : Int), (9 : Int), [])))).fst)]) := by kernel_rfl
end Go.Proofs.YtikikmhlicoheaaGreatDoor
namespace Go.Proofs.YtikikmhlicoheaaGreatDoor
open Go.Px Go.Ax
set_option maxRecDepth 100000
attribute [local irreducible] Go.Px.sy Go.Px.syE
def ctSan : Ctr := ⟨[], fun _ => True, fun _ => [.bool true], fun _ => []⟩
instance (x : OpT) : Decidable (k14 x) := by unfold k14; infer_instance
instance (l : List SyT) : Decidable (preMd l) := by unfold preMd; infer_instance
theorem san_run (R : List Item → PS → Prop) : sy tt G0 CN Tryz.f9.ntmps Tryz.f9.results.toList (QC ctSan ()) R 1000 [.code (bodyOf Tryz.f9)] (entry [] ()) := by
  refine (vc_san _ _).mpr ?_
  repeat' first
    | exact trivial
    | decide +kernel
    | refine And.intro ?_ ?_
    | (refine QC.flat ?_ rfl rfl)
    | exact (rfl : _ = false)
    | (show List.length _ < 1099511627776; decide +kernel)
    | (refine congrArg (fun b => [SV.bool b]) ?_; decide +kernel)
theorem san_held : Held Tryz.prog G0 9 ctSan := Held.run cxN (fn := Tryz.f9) rfl rfl ⟨by decide, by decide⟩ fun x _ => san_run _
end Go.Proofs.YtikikmhlicoheaaGreatDoor
namespace Go.Proofs.YtikikmhlicoheaaGreatDoor
open Go.Px Go.Ax
set_option maxRecDepth 100000
set_option maxRecDepth 100000
theorem vc_rin (n a b : Int) (Q : List SV → List (Nat × LB) → Prop) (R : List Item → PS → Prop) : sy tt G0 [] Tryz.f43.ntmps Tryz.f43.results.toList Q R 1000 [.code (bodyOf Tryz.f43)] (entry [iI, iI, iI] (n, a, b, ())) =
    (bc (decide (a ≤ n)) (Q [.bool (bif true then decide (n ≤ b) else false)] []) (false = false ∧
 Q [.bool false] [])) := by kernel_rfl
end Go.Proofs.YtikikmhlicoheaaGreatDoor
namespace Go.Proofs.YtikikmhlicoheaaGreatDoor
open Go.Px Go.Ax
set_option maxRecDepth 100000
attribute [local irreducible] Go.Px.sy Go.Px.syE
theorem qc_row {ct : Ctr} {x : DL ct.args} {rs : List SV} {blk : List (Nat × LB)} {e : Sh} {et : TypeId} {a k : Nat} {xs : List e.D} (h : ct.out x = [.win true e 0 0 xs.length]) (hr : ct.rows x = [.row et e xs]) (hs : rs = [.win true e a 0 k]) (hk : k = xs.length) (hb : lk blk a = some (.row et e xs)) : QC ct x rs blk := by
  subst hs; subst hk
  refine ⟨fun i => if i = 0 then some a else none, ?_, ?_, fun i j b h1 h2 => ?_, by rw [hr]; rfl⟩
  · rw [h]
    exact ⟨_, _, rfl, .inl ⟨true, a, rfl, rfl, fun h => h⟩, rfl⟩
  · rw [hr]
    exact ⟨.inl ⟨a, rfl, hb⟩, trivial⟩
  · simp only at h1 h2
    split at h1
    · split at h2
      · omega
      · cases h2
    · cases h1
def ctIn : Ctr := ⟨[iI, iI, iI], fun _ => True, fun x => [.bool (decide (x.2.1 ≤ x.1) && decide (x.1 ≤ x.2.2.1))], fun _ => []⟩
theorem in_held : Held Tryz.prog G0 43 ctIn := by
  refine Held.run cx0 (fn := Tryz.f43) rfl rfl ⟨by decide, by decide⟩ ?_
  rintro ⟨n, a, b, ⟨⟩⟩ _
  refine (vc_rin n a b _ _).mpr (bc_of (fun h => ?_) (fun h => ⟨rfl, ?_⟩))
  · exact QC.flat (by simp only [ctIn, h]; rfl) rfl rfl
  · exact QC.flat (by simp only [ctIn, h]; rfl) rfl rfl
def inB (x : List Int) (i : Nat) : Int := if i < x.length then gtB x i else IntKind.u8.wrap (IntKind.i64.wrap (7 * (i : Int)))
end Go.Proofs.YtikikmhlicoheaaGreatDoor
namespace Go.Proofs.YtikikmhlicoheaaGreatDoor
open Go.Px Go.Ax
set_option maxRecDepth 100000
set_option maxRecDepth 100000
end Go.Proofs.YtikikmhlicoheaaGreatDoor
namespace Go.Proofs.YtikikmhlicoheaaGreatDoor
open Go.Px Go.Ax
set_option maxRecDepth 100000
attribute [local irreducible] Go.Px.sy Go.Px.syE
def preB4 (x : List Int) : Prop := ∀ j, 0 ≤ gtB x j ∧ gtB x j < 256
def preN (n : Int) : Prop := 0 ≤ n ∧ n < 16777216
theorem tm_pos {a b : Int} (h : 0 ≤ a) (hb : 0 < b) : 0 ≤ a.tmod b ∧ a.tmod b < b := ⟨Int.tmod_nonneg _ h, Int.tmod_lt_of_pos _ hb⟩
end Go.Proofs.YtikikmhlicoheaaGreatDoor
namespace Go.Proofs.YtikikmhlicoheaaGreatDoor
open Go.Px Go.Ax
set_option maxRecDepth 100000
abbrev a4S : Sh := .arr 4 uB
set_option maxRecDepth 100000
end Go.Proofs.YtikikmhlicoheaaGreatDoor
namespace Go.Proofs.YtikikmhlicoheaaGreatDoor
open Go.Px Go.Ax
set_option maxRecDepth 100000
attribute [local irreducible] Go.Px.sy Go.Px.syE
def preL4 (l : List (List Int)) : Prop := ∀ j, preB4 (gt a4S l j)
section
variable (z m : Int) (l : List (List Int)) (hl : preL4 l) (hm0 : 0 ≤ m) (hm1 : m < 16777216) (hn : l.length < 9223372036854775808)
include hl hm0 hm1 hn
end
end Go.Proofs.YtikikmhlicoheaaGreatDoor
namespace Go.Proofs.YtikikmhlicoheaaGreatDoor
open Go.Px Go.Ax
set_option maxRecDepth 100000
abbrev a2S : Sh := .arr 2 uB
set_option maxRecDepth 100000
theorem vc_raw (l : List (List Int)) (n : Int) (Q : List SV → List (Nat × LB) → Prop) (R : List Item → PS → Prop) : sy tt G0 [] Tryz.f13.ntmps Tryz.f13.results.toList Q (fun it S => R it (keepS [0, 1, 5, 6] [5, 8] S)) 1000 [.code (bodyOf Tryz.f13)] (entry [.sl a2S, iI] (l, n, ())) =
    (R (hd Tryz.f13 0) { env := [(0, .sl (Sh.arr (2 : Nat) uB) l), (1, .int .i64 n), (5, .win true syS 8 0 (0 : Nat)), (6, .int .i64 0)], blk := [(8, .row 60 syS (List.replicate (0 : Nat) syS.dflt))] }) := by kernel_rfl
theorem vc_rawL (l : List (List Int)) (o : List SyT) (n : Int) (i : Nat) (Q : List SV → List (Nat × LB) → Prop) (R : List Item → PS → Prop) : sy tt G0 [] Tryz.f13.ntmps Tryz.f13.results.toList Q (fun it S => R it (keepS [0, 1, 5, 6] [5, 93] S)) 1000 (hd Tryz.f13 0) ⟨[(0, .sl a2S l), (1, .int .i64 n), (5, .win true syS 5 0 o.length), (6, .int .i64 (i : Nat))], [(5, .row 60 syS o)]⟩ =
    (bc (decide ((↑i : Int) < (↑l.length : Int))) (bc (decide ((↑i : Int) < (20 : Int))) ((0 : Int) ≤ (↑i : Int) ∧
 (↑i : Int) < (↑l.length : Int) ∧
 (0 : Int) ≤ (0 : Int) ∧
 (0 : Int) < (↑(2 : Nat) : Int) ∧
 (4 : Int) ≠ (0 : Int) ∧
 bc (decide ((0 : Int) < Int.tmod (gtB (gt (Sh.arr (2 : Nat) uB) l (↑i : Int).toNat) (0)) (4 : Int))) ((0 : Int) ≤ (↑i : Int) ∧
 (↑i : Int) < (↑l.length : Int) ∧
 (0 : Int) ≤ (1 : Int) ∧
 (1 : Int) < (↑(2 : Nat) : Int) ∧
 (3 : Int) ≠ (0 : Int) ∧
 bc (decide ((0 : Int) < n)) ((0 : Int) ≤ (↑i : Int) ∧
 (↑i : Int) < (↑l.length : Int) ∧
 (0 : Int) ≤ (1 : Int) ∧
 (1 : Int) < (↑(2 : Nat) : Int) ∧
 n ≠ (0 : Int) ∧
 bc (decide ((0 : Int) < n)) (bc (decide ((0 : Int) < (↑i : Int))) ((0 : Int) ≤ IntKind.i64.wrap ((↑i : Int) - (1 : Int)) ∧
 IntKind.i64.wrap ((↑i : Int) - (1 : Int)) < (↑o.length : Int) ∧
 (0 : Nat) + (IntKind.i64.wrap ((↑i : Int) - (1 : Int))).toNat < o.length ∧
 bc (bif true then (gtY o ((0 : Nat) + (IntKind.i64.wrap ((↑i : Int) - (1 : Int))).toNat)).fst else false) ((0 : Int) ≤ (↑i : Int) ∧
 (↑i : Int) < (↑l.length : Int) ∧
 (0 : Int) ≤ (0 : Int) ∧
 (0 : Int) < (↑(2 : Nat) : Int) ∧
 (4 : Int) ≠ (0 : Int) ∧
 bc (decide ((1 : Int) < Int.tmod (gtB (gt (Sh.arr (2 : Nat) uB) l (↑i : Int).toNat) (0)) (4 : Int))) ((0 : Int) ≤ IntKind.i64.wrap ((↑i : Int) - (1 : Int)) ∧
 IntKind.i64.wrap ((↑i : Int) - (1 : Int)) < (↑o.length : Int) ∧
 (0 : Nat) + (IntKind.i64.wrap ((↑i : Int) - (1 : Int))).toNat < o.length ∧
 bc (decide (IntKind.i64.wrap ((gtY o ((0 : Nat) + (IntKind.i64.wrap ((↑i : Int) - (1 : Int))).toNat)).snd.fst + (1 : Int)) < n)) ((0 : Int) ≤ IntKind.i64.wrap ((↑i : Int) - (1 : Int)) ∧
 IntKind.i64.wrap ((↑i : Int) - (1 : Int)) < (↑o.length : Int) ∧
 (0 : Nat) + (IntKind.i64.wrap ((↑i : Int) - (1 : Int))).toNat < o.length ∧
 (0 : Nat) + (1 : Nat) ≤ ([(bif true then decide ((0 : Int) < n) else false, IntKind.i64.wrap ((gtY o ((0 : Nat) + (IntKind.i64.wrap ((↑i : Int) - (1 : Int))).toNat)).snd.fst + (1 : Int)), Int.tmod (gtB (gt (Sh.arr (2 : Nat) uB) l (↑i : Int).toNat) (1)) (3 : Int))] : List syS.D).length ∧
 o.length = o.length ∧
 (0 : Nat) = (0 : Nat) ∧
 o.length + (winL ((fun self => self.6) (mkT (3 : Nat) (24 : Nat) true (TK.struct [((0 : Nat), (4 : TypeId)), ((1 : Nat), (3 : TypeId)), ((2 : Nat), (5 : TypeId))]) syS (some IntKind.i8))) (0 : Nat) (1 : Nat) ([(bif true then decide ((0 : Int) < n) else false, IntKind.i64.wrap ((gtY o ((0 : Nat) + (IntKind.i64.wrap ((↑i : Int) - (1 : Int))).toNat)).snd.fst + (1 : Int)), Int.tmod (gtB (gt (Sh.arr (2 : Nat) uB) l (↑i : Int).toNat) (1)) (3 : Int))] : List syS.D)).length < (2 : Nat) ^ (30 : Nat) ∧
 (24 : Nat) ≤ (2 : Nat) ^ (10 : Nat) ∧
 R (hd Tryz.f13 0) { env := [(0, .sl (Sh.arr (2 : Nat) uB) l), (1, .int .i64 n), (5, .win true syS 93 0 (o.length + (winL ((fun self => self.6) (mkT (3 : Nat) (24 : Nat) true (TK.struct [((0 : Nat), (4 : TypeId)), ((1 : Nat), (3 : TypeId)), ((2 : Nat), (5 : TypeId))]) syS (some IntKind.i8))) (0 : Nat) (1 : Nat) ([(bif true then decide ((0 : Int) < n) else false, IntKind.i64.wrap ((gtY o ((0 : Nat) + (IntKind.i64.wrap ((↑i : Int) - (1 : Int))).toNat)).snd.fst + (1 : Int)), Int.tmod (gtB (gt (Sh.arr (2 : Nat) uB) l (↑i : Int).toNat) (1)) (3 : Int))] : List syS.D)).length)), (6, .int .i64 (IntKind.i64.wrap ((↑i : Int) + (1 : Int))))], blk := [(93, .row 60 syS (o ++ ([(bif true then decide ((0 : Int) < n) else false, IntKind.i64.wrap ((gtY o ((0 : Nat) + (IntKind.i64.wrap ((↑i : Int) - (1 : Int))).toNat)).snd.fst + (1 : Int)), Int.tmod (gtB (gt (Sh.arr (2 : Nat) uB) l (↑i : Int).toNat) (1)) (3 : Int))] : List syS.D)))] }) ((0 : Nat) + (1 : Nat) ≤ ([(bif true then decide ((0 : Int) < n) else false, (IntKind.i64.wrap (gtB (gt (Sh.arr (2 : Nat) uB) l (↑i : Int).toNat) (1))).tmod n, Int.tmod (gtB (gt (Sh.arr (2 : Nat) uB) l (↑i : Int).toNat) (1)) (3 : Int))] : List syS.D).length ∧
 o.length = o.length ∧
 (0 : Nat) = (0 : Nat) ∧
 o.length + (winL ((fun self => self.6) (mkT (3 : Nat) (24 : Nat) true (TK.struct [((0 : Nat), (4 : TypeId)), ((1 : Nat), (3 : TypeId)), ((2 : Nat), (5 : TypeId))]) syS (some IntKind.i8))) (0 : Nat) (1 : Nat) ([(bif true then decide ((0 : Int) < n) else false, (IntKind.i64.wrap (gtB (gt (Sh.arr (2 : Nat) uB) l (↑i : Int).toNat) (1))).tmod n, Int.tmod (gtB (gt (Sh.arr (2 : Nat) uB) l (↑i : Int).toNat) (1)) (3 : Int))] : List syS.D)).length < (2 : Nat) ^ (30 : Nat) ∧
 (24 : Nat) ≤ (2 : Nat) ^ (10 : Nat) ∧
 R (hd Tryz.f13 0) { env := [(0, .sl (Sh.arr (2 : Nat) uB) l), (1, .int .i64 n), (5, .win true syS 93 0 (o.length + (winL ((fun self => self.6) (mkT (3 : Nat) (24 : Nat) true (TK.struct [((0 : Nat), (4 : TypeId)), ((1 : Nat), (3 : TypeId)), ((2 : Nat), (5 : TypeId))]) syS (some IntKind.i8))) (0 : Nat) (1 : Nat) ([(bif true then decide ((0 : Int) < n) else false, (IntKind.i64.wrap (gtB (gt (Sh.arr (2 : Nat) uB) l (↑i : Int).toNat) (1))).tmod n, Int.tmod (gtB (gt (Sh.arr (2 : Nat) uB) l (↑i : Int).toNat) (1)) (3 : Int))] : List syS.D)).length)), (6, .int .i64 (IntKind.i64.wrap ((↑i : Int) + (1 : Int))))], blk := [(93, .row 60 syS (o ++ ([(bif true then decide ((0 : Int) < n) else false, (IntKind.i64.wrap (gtB (gt (Sh.arr (2 : Nat) uB) l (↑i : Int).toNat) (1))).tmod n, Int.tmod (gtB (gt (Sh.arr (2 : Nat) uB) l (↑i : Int).toNat) (1)) (3 : Int))] : List syS.D)))] })) (false = false ∧
 (0 : Nat) + (1 : Nat) ≤ ([(bif true then decide ((0 : Int) < n) else false, (IntKind.i64.wrap (gtB (gt (Sh.arr (2 : Nat) uB) l (↑i : Int).toNat) (1))).tmod n, Int.tmod (gtB (gt (Sh.arr (2 : Nat) uB) l (↑i : Int).toNat) (1)) (3 : Int))] : List syS.D).length ∧
 o.length = o.length ∧
 (0 : Nat) = (0 : Nat) ∧
 o.length + (winL ((fun self => self.6) (mkT (3 : Nat) (24 : Nat) true (TK.struct [((0 : Nat), (4 : TypeId)), ((1 : Nat), (3 : TypeId)), ((2 : Nat), (5 : TypeId))]) syS (some IntKind.i8))) (0 : Nat) (1 : Nat) ([(bif true then decide ((0 : Int) < n) else false, (IntKind.i64.wrap (gtB (gt (Sh.arr (2 : Nat) uB) l (↑i : Int).toNat) (1))).tmod n, Int.tmod (gtB (gt (Sh.arr (2 : Nat) uB) l (↑i : Int).toNat) (1)) (3 : Int))] : List syS.D)).length < (2 : Nat) ^ (30 : Nat) ∧
 (24 : Nat) ≤ (2 : Nat) ^ (10 : Nat) ∧
 R (hd Tryz.f13 0) { env := [(0, .sl (Sh.arr (2 : Nat) uB) l), (1, .int .i64 n), (5, .win true syS 93 0 (o.length + (winL ((fun self => self.6) (mkT (3 : Nat) (24 : Nat) true (TK.struct [((0 : Nat), (4 : TypeId)), ((1 : Nat), (3 : TypeId)), ((2 : Nat), (5 : TypeId))]) syS (some IntKind.i8))) (0 : Nat) (1 : Nat) ([(bif true then decide ((0 : Int) < n) else false, (IntKind.i64.wrap (gtB (gt (Sh.arr (2 : Nat) uB) l (↑i : Int).toNat) (1))).tmod n, Int.tmod (gtB (gt (Sh.arr (2 : Nat) uB) l (↑i : Int).toNat) (1)) (3 : Int))] : List syS.D)).length)), (6, .int .i64 (IntKind.i64.wrap ((↑i : Int) + (1 : Int))))], blk := [(93, .row 60 syS (o ++ ([(bif true then decide ((0 : Int) < n) else false, (IntKind.i64.wrap (gtB (gt (Sh.arr (2 : Nat) uB) l (↑i : Int).toNat) (1))).tmod n, Int.tmod (gtB (gt (Sh.arr (2 : Nat) uB) l (↑i : Int).toNat) (1)) (3 : Int))] : List syS.D)))] })) (false = false ∧
 false = false ∧
 (0 : Nat) + (1 : Nat) ≤ ([(bif true then decide ((0 : Int) < n) else false, (IntKind.i64.wrap (gtB (gt (Sh.arr (2 : Nat) uB) l (↑i : Int).toNat) (1))).tmod n, Int.tmod (gtB (gt (Sh.arr (2 : Nat) uB) l (↑i : Int).toNat) (1)) (3 : Int))] : List syS.D).length ∧
 o.length = o.length ∧
 (0 : Nat) = (0 : Nat) ∧
 o.length + (winL ((fun self => self.6) (mkT (3 : Nat) (24 : Nat) true (TK.struct [((0 : Nat), (4 : TypeId)), ((1 : Nat), (3 : TypeId)), ((2 : Nat), (5 : TypeId))]) syS (some IntKind.i8))) (0 : Nat) (1 : Nat) ([(bif true then decide ((0 : Int) < n) else false, (IntKind.i64.wrap (gtB (gt (Sh.arr (2 : Nat) uB) l (↑i : Int).toNat) (1))).tmod n, Int.tmod (gtB (gt (Sh.arr (2 : Nat) uB) l (↑i : Int).toNat) (1)) (3 : Int))] : List syS.D)).length < (2 : Nat) ^ (30 : Nat) ∧
 (24 : Nat) ≤ (2 : Nat) ^ (10 : Nat) ∧
 R (hd Tryz.f13 0) { env := [(0, .sl (Sh.arr (2 : Nat) uB) l), (1, .int .i64 n), (5, .win true syS 93 0 (o.length + (winL ((fun self => self.6) (mkT (3 : Nat) (24 : Nat) true (TK.struct [((0 : Nat), (4 : TypeId)), ((1 : Nat), (3 : TypeId)), ((2 : Nat), (5 : TypeId))]) syS (some IntKind.i8))) (0 : Nat) (1 : Nat) ([(bif true then decide ((0 : Int) < n) else false, (IntKind.i64.wrap (gtB (gt (Sh.arr (2 : Nat) uB) l (↑i : Int).toNat) (1))).tmod n, Int.tmod (gtB (gt (Sh.arr (2 : Nat) uB) l (↑i : Int).toNat) (1)) (3 : Int))] : List syS.D)).length)), (6, .int .i64 (IntKind.i64.wrap ((↑i : Int) + (1 : Int))))], blk := [(93, .row 60 syS (o ++ ([(bif true then decide ((0 : Int) < n) else false, (IntKind.i64.wrap (gtB (gt (Sh.arr (2 : Nat) uB) l (↑i : Int).toNat) (1))).tmod n, Int.tmod (gtB (gt (Sh.arr (2 : Nat) uB) l (↑i : Int).toNat) (1)) (3 : Int))] : List syS.D)))] })) (false = false ∧
 false = false ∧
 false = false ∧
 (0 : Nat) + (1 : Nat) ≤ ([(bif true then decide ((0 : Int) < n) else false, (IntKind.i64.wrap (gtB (gt (Sh.arr (2 : Nat) uB) l (↑i : Int).toNat) (1))).tmod n, Int.tmod (gtB (gt (Sh.arr (2 : Nat) uB) l (↑i : Int).toNat) (1)) (3 : Int))] : List syS.D).length ∧
 o.length = o.length ∧
 (0 : Nat) = (0 : Nat) ∧
 o.length + (winL ((fun self => self.6) (mkT (3 : Nat) (24 : Nat) true (TK.struct [((0 : Nat), (4 : TypeId)), ((1 : Nat), (3 : TypeId)), ((2 : Nat), (5 : TypeId))]) syS (some IntKind.i8))) (0 : Nat) (1 : Nat) ([(bif true then decide ((0 : Int) < n) else false, (IntKind.i64.wrap (gtB (gt (Sh.arr (2 : Nat) uB) l (↑i : Int).toNat) (1))).tmod n, Int.tmod (gtB (gt (Sh.arr (2 : Nat) uB) l (↑i : Int).toNat) (1)) (3 : Int))] : List syS.D)).length < (2 : Nat) ^ (30 : Nat) ∧
 (24 : Nat) ≤ (2 : Nat) ^ (10 : Nat) ∧
 R (hd Tryz.f13 0) { env := [(0, .sl (Sh.arr (2 : Nat) uB) l), (1, .int .i64 n), (5, .win true syS 93 0 (o.length + (winL ((fun self => self.6) (mkT (3 : Nat) (24 : Nat) true (TK.struct [((0 : Nat), (4 : TypeId)), ((1 : Nat), (3 : TypeId)), ((2 : Nat), (5 : TypeId))]) syS (some IntKind.i8))) (0 : Nat) (1 : Nat) ([(bif true then decide ((0 : Int) < n) else false, (IntKind.i64.wrap (gtB (gt (Sh.arr (2 : Nat) uB) l (↑i : Int).toNat) (1))).tmod n, Int.tmod (gtB (gt (Sh.arr (2 : Nat) uB) l (↑i : Int).toNat) (1)) (3 : Int))] : List syS.D)).length)), (6, .int .i64 (IntKind.i64.wrap ((↑i : Int) + (1 : Int))))], blk := [(93, .row 60 syS (o ++ ([(bif true then decide ((0 : Int) < n) else false, (IntKind.i64.wrap (gtB (gt (Sh.arr (2 : Nat) uB) l (↑i : Int).toNat) (1))).tmod n, Int.tmod (gtB (gt (Sh.arr (2 : Nat) uB) l (↑i : Int).toNat) (1)) (3 : Int))] : List syS.D)))] })) (false = false ∧
 false = false ∧
 false = false ∧
 false = false ∧
 (0 : Nat) + (1 : Nat) ≤ ([(bif true then decide ((0 : Int) < n) else false, (IntKind.i64.wrap (gtB (gt (Sh.arr (2 : Nat) uB) l (↑i : Int).toNat) (1))).tmod n, Int.tmod (gtB (gt (Sh.arr (2 : Nat) uB) l (↑i : Int).toNat) (1)) (3 : Int))] : List syS.D).length ∧
 o.length = o.length ∧
 (0 : Nat) = (0 : Nat) ∧
 o.length + (winL ((fun self => self.6) (mkT (3 : Nat) (24 : Nat) true (TK.struct [((0 : Nat), (4 : TypeId)), ((1 : Nat), (3 : TypeId)), ((2 : Nat), (5 : TypeId))]) syS (some IntKind.i8))) (0 : Nat) (1 : Nat) ([(bif true then decide ((0 : Int) < n) else false, (IntKind.i64.wrap (gtB (gt (Sh.arr (2 : Nat) uB) l (↑i : Int).toNat) (1))).tmod n, Int.tmod (gtB (gt (Sh.arr (2 : Nat) uB) l (↑i : Int).toNat) (1)) (3 : Int))] : List syS.D)).length < (2 : Nat) ^ (30 : Nat) ∧
 (24 : Nat) ≤ (2 : Nat) ^ (10 : Nat) ∧
 R (hd Tryz.f13 0) { env := [(0, .sl (Sh.arr (2 : Nat) uB) l), (1, .int .i64 n), (5, .win true syS 93 0 (o.length + (winL ((fun self => self.6) (mkT (3 : Nat) (24 : Nat) true (TK.struct [((0 : Nat), (4 : TypeId)), ((1 : Nat), (3 : TypeId)), ((2 : Nat), (5 : TypeId))]) syS (some IntKind.i8))) (0 : Nat) (1 : Nat) ([(bif true then decide ((0 : Int) < n) else false, (IntKind.i64.wrap (gtB (gt (Sh.arr (2 : Nat) uB) l (↑i : Int).toNat) (1))).tmod n, Int.tmod (gtB (gt (Sh.arr (2 : Nat) uB) l (↑i : Int).toNat) (1)) (3 : Int))] : List syS.D)).length)), (6, .int .i64 (IntKind.i64.wrap ((↑i : Int) + (1 : Int))))], blk := [(93, .row 60 syS (o ++ ([(bif true then decide ((0 : Int) < n) else false, (IntKind.i64.wrap (gtB (gt (Sh.arr (2 : Nat) uB) l (↑i : Int).toNat) (1))).tmod n, Int.tmod (gtB (gt (Sh.arr (2 : Nat) uB) l (↑i : Int).toNat) (1)) (3 : Int))] : List syS.D)))] })) (bc (decide ((0 : Int) < n)) (bc (decide ((0 : Int) < (↑i : Int))) ((0 : Int) ≤ IntKind.i64.wrap ((↑i : Int) - (1 : Int)) ∧
 IntKind.i64.wrap ((↑i : Int) - (1 : Int)) < (↑o.length : Int) ∧
 (0 : Nat) + (IntKind.i64.wrap ((↑i : Int) - (1 : Int))).toNat < o.length ∧
 bc (bif true then (gtY o ((0 : Nat) + (IntKind.i64.wrap ((↑i : Int) - (1 : Int))).toNat)).fst else false) ((0 : Int) ≤ (↑i : Int) ∧
 (↑i : Int) < (↑l.length : Int) ∧
 (0 : Int) ≤ (0 : Int) ∧
 (0 : Int) < (↑(2 : Nat) : Int) ∧
 (4 : Int) ≠ (0 : Int) ∧
 bc (decide ((1 : Int) < Int.tmod (gtB (gt (Sh.arr (2 : Nat) uB) l (↑i : Int).toNat) (0)) (4 : Int))) ((0 : Int) ≤ IntKind.i64.wrap ((↑i : Int) - (1 : Int)) ∧
 IntKind.i64.wrap ((↑i : Int) - (1 : Int)) < (↑o.length : Int) ∧
 (0 : Nat) + (IntKind.i64.wrap ((↑i : Int) - (1 : Int))).toNat < o.length ∧
 bc (decide (IntKind.i64.wrap ((gtY o ((0 : Nat) + (IntKind.i64.wrap ((↑i : Int) - (1 : Int))).toNat)).snd.fst + (1 : Int)) < n)) ((0 : Int) ≤ IntKind.i64.wrap ((↑i : Int) - (1 : Int)) ∧
 IntKind.i64.wrap ((↑i : Int) - (1 : Int)) < (↑o.length : Int) ∧
 (0 : Nat) + (IntKind.i64.wrap ((↑i : Int) - (1 : Int))).toNat < o.length ∧
 (0 : Nat) + (1 : Nat) ≤ ([(bif true then decide ((0 : Int) < n) else false, IntKind.i64.wrap ((gtY o ((0 : Nat) + (IntKind.i64.wrap ((↑i : Int) - (1 : Int))).toNat)).snd.fst + (1 : Int)), Int.tmod (gtB (gt (Sh.arr (2 : Nat) uB) l (↑i : Int).toNat) (1)) (3 : Int))] : List syS.D).length ∧
 o.length = o.length ∧
 (0 : Nat) = (0 : Nat) ∧
 o.length + (winL ((fun self => self.6) (mkT (3 : Nat) (24 : Nat) true (TK.struct [((0 : Nat), (4 : TypeId)), ((1 : Nat), (3 : TypeId)), ((2 : Nat), (5 : TypeId))]) syS (some IntKind.i8))) (0 : Nat) (1 : Nat) ([(bif true then decide ((0 : Int) < n) else false, IntKind.i64.wrap ((gtY o ((0 : Nat) + (IntKind.i64.wrap ((↑i : Int) - (1 : Int))).toNat)).snd.fst + (1 : Int)), Int.tmod (gtB (gt (Sh.arr (2 : Nat) uB) l (↑i : Int).toNat) (1)) (3 : Int))] : List syS.D)).length < (2 : Nat) ^ (30 : Nat) ∧
 (24 : Nat) ≤ (2 : Nat) ^ (10 : Nat) ∧
 R (hd Tryz.f13 0) { env := [(0, .sl (Sh.arr (2 : Nat) uB) l), (1, .int .i64 n), (5, .win true syS 93 0 (o.length + (winL ((fun self => self.6) (mkT (3 : Nat) (24 : Nat) true (TK.struct [((0 : Nat), (4 : TypeId)), ((1 : Nat), (3 : TypeId)), ((2 : Nat), (5 : TypeId))]) syS (some IntKind.i8))) (0 : Nat) (1 : Nat) ([(bif true then decide ((0 : Int) < n) else false, IntKind.i64.wrap ((gtY o ((0 : Nat) + (IntKind.i64.wrap ((↑i : Int) - (1 : Int))).toNat)).snd.fst + (1 : Int)), Int.tmod (gtB (gt (Sh.arr (2 : Nat) uB) l (↑i : Int).toNat) (1)) (3 : Int))] : List syS.D)).length)), (6, .int .i64 (IntKind.i64.wrap ((↑i : Int) + (1 : Int))))], blk := [(93, .row 60 syS (o ++ ([(bif true then decide ((0 : Int) < n) else false, IntKind.i64.wrap ((gtY o ((0 : Nat) + (IntKind.i64.wrap ((↑i : Int) - (1 : Int))).toNat)).snd.fst + (1 : Int)), Int.tmod (gtB (gt (Sh.arr (2 : Nat) uB) l (↑i : Int).toNat) (1)) (3 : Int))] : List syS.D)))] }) ((0 : Nat) + (1 : Nat) ≤ ([(bif true then decide ((0 : Int) < n) else false, (0 : Int), Int.tmod (gtB (gt (Sh.arr (2 : Nat) uB) l (↑i : Int).toNat) (1)) (3 : Int))] : List syS.D).length ∧
 o.length = o.length ∧
 (0 : Nat) = (0 : Nat) ∧
 o.length + (winL ((fun self => self.6) (mkT (3 : Nat) (24 : Nat) true (TK.struct [((0 : Nat), (4 : TypeId)), ((1 : Nat), (3 : TypeId)), ((2 : Nat), (5 : TypeId))]) syS (some IntKind.i8))) (0 : Nat) (1 : Nat) ([(bif true then decide ((0 : Int) < n) else false, (0 : Int), Int.tmod (gtB (gt (Sh.arr (2 : Nat) uB) l (↑i : Int).toNat) (1)) (3 : Int))] : List syS.D)).length < (2 : Nat) ^ (30 : Nat) ∧
 (24 : Nat) ≤ (2 : Nat) ^ (10 : Nat) ∧
 R (hd Tryz.f13 0) { env := [(0, .sl (Sh.arr (2 : Nat) uB) l), (1, .int .i64 n), (5, .win true syS 93 0 (o.length + (winL ((fun self => self.6) (mkT (3 : Nat) (24 : Nat) true (TK.struct [((0 : Nat), (4 : TypeId)), ((1 : Nat), (3 : TypeId)), ((2 : Nat), (5 : TypeId))]) syS (some IntKind.i8))) (0 : Nat) (1 : Nat) ([(bif true then decide ((0 : Int) < n) else false, (0 : Int), Int.tmod (gtB (gt (Sh.arr (2 : Nat) uB) l (↑i : Int).toNat) (1)) (3 : Int))] : List syS.D)).length)), (6, .int .i64 (IntKind.i64.wrap ((↑i : Int) + (1 : Int))))], blk := [(93, .row 60 syS (o ++ ([(bif true then decide ((0 : Int) < n) else false, (0 : Int), Int.tmod (gtB (gt (Sh.arr (2 : Nat) uB) l (↑i : Int).toNat) (1)) (3 : Int))] : List syS.D)))] })) (false = false ∧
 (0 : Nat) + (1 : Nat) ≤ ([(bif true then decide ((0 : Int) < n) else false, (0 : Int), Int.tmod (gtB (gt (Sh.arr (2 : Nat) uB) l (↑i : Int).toNat) (1)) (3 : Int))] : List syS.D).length ∧
 o.length = o.length ∧
 (0 : Nat) = (0 : Nat) ∧
 o.length + (winL ((fun self => self.6) (mkT (3 : Nat) (24 : Nat) true (TK.struct [((0 : Nat), (4 : TypeId)), ((1 : Nat), (3 : TypeId)), ((2 : Nat), (5 : TypeId))]) syS (some IntKind.i8))) (0 : Nat) (1 : Nat) ([(bif true then decide ((0 : Int) < n) else false, (0 : Int), Int.tmod (gtB (gt (Sh.arr (2 : Nat) uB) l (↑i : Int).toNat) (1)) (3 : Int))] : List syS.D)).length < (2 : Nat) ^ (30 : Nat) ∧
 (24 : Nat) ≤ (2 : Nat) ^ (10 : Nat) ∧
 R (hd Tryz.f13 0) { env := [(0, .sl (Sh.arr (2 : Nat) uB) l), (1, .int .i64 n), (5, .win true syS 93 0 (o.length + (winL ((fun self => self.6) (mkT (3 : Nat) (24 : Nat) true (TK.struct [((0 : Nat), (4 : TypeId)), ((1 : Nat), (3 : TypeId)), ((2 : Nat), (5 : TypeId))]) syS (some IntKind.i8))) (0 : Nat) (1 : Nat) ([(bif true then decide ((0 : Int) < n) else false, (0 : Int), Int.tmod (gtB (gt (Sh.arr (2 : Nat) uB) l (↑i : Int).toNat) (1)) (3 : Int))] : List syS.D)).length)), (6, .int .i64 (IntKind.i64.wrap ((↑i : Int) + (1 : Int))))], blk := [(93, .row 60 syS (o ++ ([(bif true then decide ((0 : Int) < n) else false, (0 : Int), Int.tmod (gtB (gt (Sh.arr (2 : Nat) uB) l (↑i : Int).toNat) (1)) (3 : Int))] : List syS.D)))] })) (false = false ∧
 false = false ∧
 (0 : Nat) + (1 : Nat) ≤ ([(bif true then decide ((0 : Int) < n) else false, (0 : Int), Int.tmod (gtB (gt (Sh.arr (2 : Nat) uB) l (↑i : Int).toNat) (1)) (3 : Int))] : List syS.D).length ∧
 o.length = o.length ∧
 (0 : Nat) = (0 : Nat) ∧
 o.length + (winL ((fun self => self.6) (mkT (3 : Nat) (24 : Nat) true (TK.struct [((0 : Nat), (4 : TypeId)), ((1 : Nat), (3 : TypeId)), ((2 : Nat), (5 : TypeId))]) syS (some IntKind.i8))) (0 : Nat) (1 : Nat) ([(bif true then decide ((0 : Int) < n) else false, (0 : Int), Int.tmod (gtB (gt (Sh.arr (2 : Nat) uB) l (↑i : Int).toNat) (1)) (3 : Int))] : List syS.D)).length < (2 : Nat) ^ (30 : Nat) ∧
 (24 : Nat) ≤ (2 : Nat) ^ (10 : Nat) ∧
 R (hd Tryz.f13 0) { env := [(0, .sl (Sh.arr (2 : Nat) uB) l), (1, .int .i64 n), (5, .win true syS 93 0 (o.length + (winL ((fun self => self.6) (mkT (3 : Nat) (24 : Nat) true (TK.struct [((0 : Nat), (4 : TypeId)), ((1 : Nat), (3 : TypeId)), ((2 : Nat), (5 : TypeId))]) syS (some IntKind.i8))) (0 : Nat) (1 : Nat) ([(bif true then decide ((0 : Int) < n) else false, (0 : Int), Int.tmod (gtB (gt (Sh.arr (2 : Nat) uB) l (↑i : Int).toNat) (1)) (3 : Int))] : List syS.D)).length)), (6, .int .i64 (IntKind.i64.wrap ((↑i : Int) + (1 : Int))))], blk := [(93, .row 60 syS (o ++ ([(bif true then decide ((0 : Int) < n) else false, (0 : Int), Int.tmod (gtB (gt (Sh.arr (2 : Nat) uB) l (↑i : Int).toNat) (1)) (3 : Int))] : List syS.D)))] })) (false = false ∧
 false = false ∧
 false = false ∧
 (0 : Nat) + (1 : Nat) ≤ ([(bif true then decide ((0 : Int) < n) else false, (0 : Int), Int.tmod (gtB (gt (Sh.arr (2 : Nat) uB) l (↑i : Int).toNat) (1)) (3 : Int))] : List syS.D).length ∧
 o.length = o.length ∧
 (0 : Nat) = (0 : Nat) ∧
 o.length + (winL ((fun self => self.6) (mkT (3 : Nat) (24 : Nat) true (TK.struct [((0 : Nat), (4 : TypeId)), ((1 : Nat), (3 : TypeId)), ((2 : Nat), (5 : TypeId))]) syS (some IntKind.i8))) (0 : Nat) (1 : Nat) ([(bif true then decide ((0 : Int) < n) else false, (0 : Int), Int.tmod (gtB (gt (Sh.arr (2 : Nat) uB) l (↑i : Int).toNat) (1)) (3 : Int))] : List syS.D)).length < (2 : Nat) ^ (30 : Nat) ∧
 (24 : Nat) ≤ (2 : Nat) ^ (10 : Nat) ∧
 R (hd Tryz.f13 0) { env := [(0, .sl (Sh.arr (2 : Nat) uB) l), (1, .int .i64 n), (5, .win true syS 93 0 (o.length + (winL ((fun self => self.6) (mkT (3 : Nat) (24 : Nat) true (TK.struct [((0 : Nat), (4 : TypeId)), ((1 : Nat), (3 : TypeId)), ((2 : Nat), (5 : TypeId))]) syS (some IntKind.i8))) (0 : Nat) (1 : Nat) ([(bif true then decide ((0 : Int) < n) else false, (0 : Int), Int.tmod (gtB (gt (Sh.arr (2 : Nat) uB) l (↑i : Int).toNat) (1)) (3 : Int))] : List syS.D)).length)), (6, .int .i64 (IntKind.i64.wrap ((↑i : Int) + (1 : Int))))], blk := [(93, .row 60 syS (o ++ ([(bif true then decide ((0 : Int) < n) else false, (0 : Int), Int.tmod (gtB (gt (Sh.arr (2 : Nat) uB) l (↑i : Int).toNat) (1)) (3 : Int))] : List syS.D)))] })) (false = false ∧
 false = false ∧
 false = false ∧
 false = false ∧
 (0 : Nat) + (1 : Nat) ≤ ([(bif true then decide ((0 : Int) < n) else false, (0 : Int), Int.tmod (gtB (gt (Sh.arr (2 : Nat) uB) l (↑i : Int).toNat) (1)) (3 : Int))] : List syS.D).length ∧
 o.length = o.length ∧
 (0 : Nat) = (0 : Nat) ∧
 o.length + (winL ((fun self => self.6) (mkT (3 : Nat) (24 : Nat) true (TK.struct [((0 : Nat), (4 : TypeId)), ((1 : Nat), (3 : TypeId)), ((2 : Nat), (5 : TypeId))]) syS (some IntKind.i8))) (0 : Nat) (1 : Nat) ([(bif true then decide ((0 : Int) < n) else false, (0 : Int), Int.tmod (gtB (gt (Sh.arr (2 : Nat) uB) l (↑i : Int).toNat) (1)) (3 : Int))] : List syS.D)).length < (2 : Nat) ^ (30 : Nat) ∧
 (24 : Nat) ≤ (2 : Nat) ^ (10 : Nat) ∧
 R (hd Tryz.f13 0) { env := [(0, .sl (Sh.arr (2 : Nat) uB) l), (1, .int .i64 n), (5, .win true syS 93 0 (o.length + (winL ((fun self => self.6) (mkT (3 : Nat) (24 : Nat) true (TK.struct [((0 : Nat), (4 : TypeId)), ((1 : Nat), (3 : TypeId)), ((2 : Nat), (5 : TypeId))]) syS (some IntKind.i8))) (0 : Nat) (1 : Nat) ([(bif true then decide ((0 : Int) < n) else false, (0 : Int), Int.tmod (gtB (gt (Sh.arr (2 : Nat) uB) l (↑i : Int).toNat) (1)) (3 : Int))] : List syS.D)).length)), (6, .int .i64 (IntKind.i64.wrap ((↑i : Int) + (1 : Int))))], blk := [(93, .row 60 syS (o ++ ([(bif true then decide ((0 : Int) < n) else false, (0 : Int), Int.tmod (gtB (gt (Sh.arr (2 : Nat) uB) l (↑i : Int).toNat) (1)) (3 : Int))] : List syS.D)))] }))) (false = false ∧
 (0 : Int) ≤ (↑i : Int) ∧
 (↑i : Int) < (↑l.length : Int) ∧
 (0 : Int) ≤ (1 : Int) ∧
 (1 : Int) < (↑(2 : Nat) : Int) ∧
 (3 : Int) ≠ (0 : Int) ∧
 false = false ∧
 false = false ∧
 false = false ∧
 false = false ∧
 (0 : Nat) + (1 : Nat) ≤ ([(false, (0 : Int), Int.tmod (gtB (gt (Sh.arr (2 : Nat) uB) l (↑i : Int).toNat) (1)) (3 : Int))] : List syS.D).length ∧
 o.length = o.length ∧
 (0 : Nat) = (0 : Nat) ∧
 o.length + (winL ((fun self => self.6) (mkT (3 : Nat) (24 : Nat) true (TK.struct [((0 : Nat), (4 : TypeId)), ((1 : Nat), (3 : TypeId)), ((2 : Nat), (5 : TypeId))]) syS (some IntKind.i8))) (0 : Nat) (1 : Nat) ([(false, (0 : Int), Int.tmod (gtB (gt (Sh.arr (2 : Nat) uB) l (↑i : Int).toNat) (1)) (3 : Int))] : List syS.D)).length < (2 : Nat) ^ (30 : Nat) ∧
 (24 : Nat) ≤ (2 : Nat) ^ (10 : Nat) ∧
 R (hd Tryz.f13 0) { env := [(0, .sl (Sh.arr (2 : Nat) uB) l), (1, .int .i64 n), (5, .win true syS 93 0 (o.length + (winL ((fun self => self.6) (mkT (3 : Nat) (24 : Nat) true (TK.struct [((0 : Nat), (4 : TypeId)), ((1 : Nat), (3 : TypeId)), ((2 : Nat), (5 : TypeId))]) syS (some IntKind.i8))) (0 : Nat) (1 : Nat) ([(false, (0 : Int), Int.tmod (gtB (gt (Sh.arr (2 : Nat) uB) l (↑i : Int).toNat) (1)) (3 : Int))] : List syS.D)).length)), (6, .int .i64 (IntKind.i64.wrap ((↑i : Int) + (1 : Int))))], blk := [(93, .row 60 syS (o ++ ([(false, (0 : Int), Int.tmod (gtB (gt (Sh.arr (2 : Nat) uB) l (↑i : Int).toNat) (1)) (3 : Int))] : List syS.D)))] })) (Q [.win true syS 5 0 o.length] [(5, .row 60 syS o)])) (false = false ∧
 Q [.win true syS 5 0 o.length] [(5, .row 60 syS o)])) := by kernel_rfl
end Go.Proofs.YtikikmhlicoheaaGreatDoor
namespace Go.Proofs.YtikikmhlicoheaaGreatDoor
open Go.Px Go.Ax
set_option maxRecDepth 100000
attribute [local irreducible] Go.Px.sy Go.Px.syE
def rawE (l : List (List Int)) (n : Int) (i : Nat) (o : List SyT) : SyT :=
  if 0 < (gtB (gt a2S l i) 0).tmod 4 ∧ 0 < n then
    if 0 < i ∧ (gtY o (i - 1)).1 = true ∧ 1 < (gtB (gt a2S l i) 0).tmod 4 ∧ (gtY o (i - 1)).2.1 + 1 < n then (true, (gtY o (i - 1)).2.1 + 1, (gtB (gt a2S l i) 1).tmod 3)
    else (true, (gtB (gt a2S l i) 1).tmod n, (gtB (gt a2S l i) 1).tmod 3)
  else (false, 0, (gtB (gt a2S l i) 1).tmod 3)
def rawL (l : List (List Int)) (n : Int) : Nat → List SyT
  | 0 => []
  | i + 1 => rawL l n i ++ [rawE l n i (rawL l n i)]
def rawK (l : List (List Int)) : Nat := min l.length 20
theorem rawL_len (l : List (List Int)) (n : Int) : ∀ i, (rawL l n i).length = i
  | 0 => rfl
  | i + 1 => by rw [rawL, List.length_append, rawL_len l n i]; rfl
def preL2 (l : List (List Int)) : Prop := ∀ j k, 0 ≤ gtB (gt a2S l j) k ∧ gtB (gt a2S l j) k < 256
theorem rawE_ok {l : List (List Int)} {n : Int} {i : Nat} {o : List SyT} (hl : preL2 l) (ho : ∀ s ∈ o, sOK n s = true) (hi : o.length = i) : sOK n (rawE l n i o) = true := by
  unfold rawE
  split
  · rename_i h
    split
    · rename_i h2
      have hg : gtY o (i - 1) ∈ o := by
        rw [gtY_at (show i - 1 < o.length by omega)]; exact List.getElem_mem _
      have := ho _ hg
      simp [sOK, h2.2.1] at this ⊢
      omega
    · have m1 := tm_pos (hl i 1).1 (b := n) h.2
      simp [sOK]; omega
  · simp [sOK]
theorem rawL_ok {l : List (List Int)} {n : Int} (hl : preL2 l) : ∀ i, ∀ s ∈ rawL l n i, sOK n s = true
  | 0 => fun s hs => by cases hs
  | i + 1 => fun s hs => by
    rw [rawL] at hs
    rcases List.mem_append.1 hs with h | h
    · exact rawL_ok hl i s h
    · rw [List.mem_singleton] at h; subst h; exact rawE_ok hl (rawL_ok hl i) (rawL_len l n i)
def preRw (l : List (List Int)) (n : Int) : Prop := preL2 l ∧ preN n
def ctRaw : Ctr := ⟨[.sl a2S, iI], fun x => preRw x.1 x.2.1, fun x => [.win true syS 0 0 (rawL x.1 x.2.1 (rawK x.1)).length], fun x => [.row 60 syS (rawL x.1 x.2.1 (rawK x.1))]⟩
theorem raw_loop (l : List (List Int)) (n : Int) (hl : preL2 l) (hn0 : 0 ≤ n) (hn1 : n < 16777216) : ∀ (k i : Nat), rawK l - i = k → i ≤ rawK l →
    GD 13 Tryz.f13 (QC ctRaw (l, n, ())) (hd Tryz.f13 0) ⟨[(0, .sl a2S l), (1, .int .i64 n), (5, .win true syS 5 0 (rawL l n i).length), (6, .int .i64 (i : Nat))], [(5, .row 60 syS (rawL l n i))]⟩ := by
  intro k
  induction k with
  | zero =>
    intro i hk hi
    have hi : i = rawK l := by omega
    refine sy_goK cx0 (vc_rawL l (rawL l n i) n i _ _) ?_
    have fin : QC ctRaw (l, n, ()) [SV.win true syS 5 0 (rawL l n i).length] [(5, .row 60 syS (rawL l n i))] := by
      rw [hi]
      exact qc_row (e := syS) (et := 60) (a := 5) (xs := rawL l n (rawK l)) rfl rfl rfl rfl rfl
    refine bc_of (fun h => bc_of (fun h2 => ?_) (fun h2 => fin)) (fun h => ⟨rfl, fin⟩)
    have h := of_decide_eq_true h
    have h2 := of_decide_eq_true h2
    unfold rawK at hi
    omega
  | succ k ih =>
    intro i hk hi
    have h6 : i < l.length ∧ i < 20 := by unfold rawK at hk hi; omega
    have hlen := rawL_len l n i
    have hok := rawL_ok (n := n) hl i
    have nx : ∀ e, rawE l n i (rawL l n i) = e → GD 13 Tryz.f13 (QC ctRaw (l, n, ())) (hd Tryz.f13 0) ⟨[(0, .sl a2S l), (1, .int .i64 n), (5, .win true syS 93 0 ((rawL l n i).length + 1)), (6, .int .i64 ((i : Int) + 1))], [(93, .row 60 syS (rawL l n i ++ [e]))]⟩ := fun e he => by
      have h := ih (i + 1) (by omega) (by omega)
      rw [rawL, he] at h
      exact h.onlyR [(5, 93)] rfl ⟨rfl, rfl, by rw [List.length_append]; rfl, rfl, trivial⟩ ⟨rfl, trivial⟩
    generalize rawL l n i = o at *
    have h30 : o.length + 1 < 2 ^ 30 := by omega
    refine sy_goK cx0 (vc_rawL l o n i _ _) ?_
    rw [decide_eq_true (show (i : Int) < (l.length : Int) by omega), bc_t, decide_eq_true (show (i : Int) < (20 : Int) by omega), bc_t, Int.toNat_natCast, IntWalk.i64_in ((i : Int) + 1) (by omega)]
    have w1 : IntKind.i64.wrap (gtB (gt a2S l i) 1) = gtB (gt a2S l i) 1 := IntWalk.i64_in _ (by have := hl i 1; omega)
    rw [w1]
    refine ⟨by omega, by omega, by decide, by decide, by decide, bc_of (fun h => ?_) (fun h => ?_)⟩
    · have h : 0 < (gtB (gt a2S l i) 0).tmod 4 := of_decide_eq_true h
      refine ⟨by omega, by omega, by decide, by decide, by decide, bc_of (fun h1 => ?_) (fun h1 => ?_)⟩
      · have h1' : 0 < n := of_decide_eq_true h1
        rw [h1]
        refine ⟨by omega, by omega, by decide, by decide, by omega, ?_⟩
        rw [bc_t]
        have plain : ¬ (0 < i ∧ (gtY o (i - 1)).1 = true ∧ 1 < (gtB (gt a2S l i) 0).tmod 4 ∧ (gtY o (i - 1)).2.1 + 1 < n) → rawE l n i o = (true, (gtB (gt a2S l i) 1).tmod n, (gtB (gt a2S l i) 1).tmod 3) := fun hh => by
          unfold rawE; rw [if_pos ⟨h, h1'⟩, if_neg hh]
        refine bc_of (fun h2 => ?_) (fun h2 => ?_)
        · have h2 : 0 < i := by have := of_decide_eq_true h2; omega
          have wj : IntKind.i64.wrap ((i : Int) - 1) = ((i - 1 : Nat) : Int) := by rw [IntWalk.i64_in _ (by omega)]; omega
          rw [wj, Int.toNat_natCast, Nat.zero_add]
          refine ⟨by omega, by omega, by omega, bc_of (fun h3 => ?_) (fun h3 => ?_)⟩
          · have h3 : (gtY o (i - 1)).1 = true := h3
            have hg : gtY o (i - 1) ∈ o := by
              rw [gtY_at (show i - 1 < o.length by omega)]; exact List.getElem_mem _
            have hs := hok _ hg
            simp [sOK, h3] at hs
            have wa : IntKind.i64.wrap ((gtY o (i - 1)).2.1 + 1) = (gtY o (i - 1)).2.1 + 1 := IntWalk.i64_in _ (by omega)
            rw [wa]
            refine ⟨by omega, by omega, by decide, by decide, by decide, bc_of (fun h4 => ?_) (fun h4 => ?_)⟩
            · have h4 : 1 < (gtB (gt a2S l i) 0).tmod 4 := of_decide_eq_true h4
              refine ⟨by omega, by omega, by omega, bc_of (fun h5 => ?_) (fun h5 => ?_)⟩
              · have h5 : (gtY o (i - 1)).2.1 + 1 < n := of_decide_eq_true h5
                refine ⟨by omega, by omega, by omega, Nat.le_refl 1, rfl, rfl, h30, by decide, nx _ ?_⟩
                unfold rawE; rw [if_pos ⟨h, h1'⟩, if_pos ⟨h2, h3, h4, h5⟩]; rfl
              · have h5 : ¬ (gtY o (i - 1)).2.1 + 1 < n := of_decide_eq_false h5
                exact ⟨Nat.le_refl 1, rfl, rfl, h30, by decide, nx _ (plain fun q => h5 q.2.2.2)⟩
            · have h4 : ¬ 1 < (gtB (gt a2S l i) 0).tmod 4 := of_decide_eq_false h4
              exact ⟨rfl, Nat.le_refl 1, rfl, rfl, h30, by decide, nx _ (plain fun q => h4 q.2.2.1)⟩
          · have h3 : (gtY o (i - 1)).1 = false := h3
            exact ⟨rfl, rfl, Nat.le_refl 1, rfl, rfl, h30, by decide, nx _ (plain fun q => by rw [h3] at q; cases q.2.1)⟩
        · have h2 : ¬ 0 < i := by have := of_decide_eq_false h2; omega
          exact ⟨rfl, rfl, rfl, Nat.le_refl 1, rfl, rfl, h30, by decide, nx _ (plain fun q => h2 q.1)⟩
      · have h1' : ¬ 0 < n := of_decide_eq_false h1
        rw [h1]
        repeat refine ⟨rfl, ?_⟩
        exact ⟨Nat.le_refl 1, rfl, rfl, h30, by decide, nx _ (by unfold rawE; rw [if_neg (fun q => h1' q.2)]; rfl)⟩
    · have h : ¬ 0 < (gtB (gt a2S l i) 0).tmod 4 := of_decide_eq_false h
      refine ⟨rfl, by omega, by omega, by decide, by decide, by decide, rfl, rfl, rfl, rfl, Nat.le_refl 1, rfl, rfl, h30, by decide, nx _ (by unfold rawE; rw [if_neg (fun q => h q.1)])⟩
theorem raw_held : Held Tryz.prog G0 13 ctRaw :=
  Held.of cx0 (fn := Tryz.f13) rfl rfl ⟨by decide, by decide⟩ fun ⟨l, n, _⟩ hp =>
    sy_goK cx0 (vc_raw l n _ _) ((raw_loop l n hp.1 hp.2.1 hp.2.2 _ 0 rfl (Nat.zero_le _)).onlyR [(5, 8)] rfl ⟨rfl, rfl, rfl, rfl, trivial⟩ ⟨rfl, trivial⟩)
end Go.Proofs.YtikikmhlicoheaaGreatDoor
namespace Go.Proofs.YtikikmhlicoheaaGreatDoor
open Go.Px Go.Ax
set_option maxRecDepth 100000
set_option maxRecDepth 100000
end Go.Proofs.YtikikmhlicoheaaGreatDoor
namespace Go.Proofs.YtikikmhlicoheaaGreatDoor
open Go.Px Go.Ax
theorem gen_get (el : Nat → SyT) : ∀ n i k, k < n → (gen el n i)[k]? = some (el (i + k))
  | 0, _, _, h => by omega
  | n + 1, i, 0, _ => by rw [gen]; rfl
  | n + 1, i, k + 1, h => by
    rw [gen, List.getElem?_cons_succ, gen_get el n (i + 1) k (by omega)]
    congr 2; omega
theorem chk_of {m N : Int} : ∀ {l : List OpT} {left i : Int}, (∀ x ∈ l, isRB x m = true) → lenS l = left → chkF m N l left i = (N, 0)
  | [], left, i, _, h => by
    have h : (0 : Int) = left := h
    rw [chkF, if_neg (by omega)]
  | x :: l, left, i, hr, h => by
    have h1 := hr x (by simp)
    have h2 := isRB_len h1
    have h3 := lenS_pos (l := l) fun y hy => hr y (by simp [hy])
    rw [lenS_cons] at h
    rw [chkF, if_neg (by rw [h1]; decide), if_neg (by omega)]
    exact chk_of (fun y hy => hr y (by simp [hy])) (by omega)
theorem chkV_of {li : Bool} {m o : Int} {l : List OpT} (h0 : 0 ≤ m) (h1 : m ≤ 65536) (ho : o ≤ 65536) (hl : l.length ≤ 4096) (hr : ∀ x ∈ l, isRB x m = true) (hs : lenS l = o) : chkV (li, m, o, l) = ((l.length : Int), (0 : Int)) := by
  have := lenS_pos hr
  unfold chkV
  rw [if_pos ⟨by simp [szB]; omega, by simp [szB]; omega, hl⟩]
  exact chk_of hr hs
theorem symV_of {p : PaT} {n : Int} (h : chkV p = (n, 0)) : symV p = (symF p.2.2.2, 0) := by
  unfold symV; rw [if_pos (by rw [h])]
end Go.Proofs.YtikikmhlicoheaaGreatDoor
namespace Go.Proofs.YtikikmhlicoheaaGreatDoor
open Go.Px Go.Ax
set_option maxRecDepth 100000
attribute [local irreducible] Go.Px.sy Go.Px.syE
abbrev TQ : List SV → List (Nat × LB) → Prop := fun rs _ => rs = [.bool true]
def u8L (b : List Int) : Prop := ∀ j, 0 ≤ gtB b j ∧ gtB b j < 256
section
variable (m : Int) (l : List OpT) (old : List Int) (hr : ∀ x ∈ l, isRB x m = true) (hm : m < 16777216) (ho : (old.length : Int) = m) (hu : u8L old) (hl : l.length < 16777216) (hs : lenS l < 16777216)
include hr hm ho hu hl hs
end
end Go.Proofs.YtikikmhlicoheaaGreatDoor
namespace Go.Proofs.YtikikmhlicoheaaGreatDoor
open Go.Px Go.Ax
set_option maxRecDepth 100000
attribute [local irreducible] Go.Px.sy Go.Px.syE
end Go.Proofs.YtikikmhlicoheaaGreatDoor
namespace Go.Proofs.YtikikmhlicoheaaGreatDoor
open Go.Px Go.Ax
end Go.Proofs.YtikikmhlicoheaaGreatDoor
namespace Go.Proofs.YtikikmhlicoheaaGreatDoor
open Go.Px Go.Ax
def seg (l : List SyT) (a i : Nat) : Prop := ∀ j, a ≤ j → j + 1 < i → goB (gtY l j) (gtY l (j + 1)) = true
theorem knd_old {s : SyT} : (kndB s = 4 ↔ s.1 = false) ∧ (kndB s = 1 ∨ kndB s = 2 ∨ kndB s = 4) ∧ (kndB s = 1 → s.1 = true ∧ s.2.2 = 0) ∧ (kndB s = 2 → s.1 = true) := by
  obtain ⟨o, a, b⟩ := s
  cases o
  · simp [kndB]
  · by_cases h : b = 0 <;> simp [kndB, h]
theorem go_iff {s t : SyT} : goB s t = true ↔ kndB s = kndB t ∧ (s.1 = true → t.2.1 = IntKind.i64.wrap (s.2.1 + 1)) := by
  unfold goB
  cases h : s.1 <;> simp
theorem sOK_t {m : Int} {s : SyT} (h : sOK m s = true) (ho : s.1 = true) : 0 ≤ s.2.1 ∧ s.2.1 < m := by
  unfold sOK at h; rw [if_pos ho] at h; simpa using h
theorem sOK_f {m : Int} {s : SyT} (h : sOK m s = true) (ho : s.1 = false) : s.2.1 = 0 := by
  unfold sOK at h; rw [if_neg (by rw [ho]; decide)] at h; simpa using h
theorem pt_at {l : List SyT} {a i j : Nat} (hi : i ≤ l.length) (h : a + j < i) : gtY (ptL l a i) j = gtY l (a + j) := by
  have hp := ptL_len (l := l) (a := a) (i := i) (by omega) hi
  rw [gtY_at (by omega), gtY_at (by omega)]
  simp [ptL, Px.part]
theorem mdO_1 {l : List SyT} {a i : Nat} (hp : gtY (ptL l a i) 0 = gtY l a) : (mdO (ptL l a i)).1 = kndB (gtY l a) ∧ (mdO (ptL l a i)).2.1 = (gtY l a).2.1 ∧ (mdO (ptL l a i)).2.2.1 = (ptL l a i).length := by
  unfold mdO; rw [hp]; exact ⟨rfl, rfl, rfl⟩
section
variable {l : List SyT} {m : Int} (hr : ∀ s ∈ l, sOK m s = true) (hm : m < 16777216)
include hr hm
theorem gt_ok {j : Nat} (h : j < l.length) : sOK m (gtY l j) = true := by
  have _ := hm
  rw [gtY_at h]; exact hr _ (List.getElem_mem h)
theorem seg_fact {a i : Nat} (hs : seg l a i) (hi : i ≤ l.length) : ∀ j, a + j < i → kndB (gtY l (a + j)) = kndB (gtY l a) ∧ ((gtY l a).1 = true → (gtY l (a + j)).1 = true ∧ (gtY l (a + j)).2.1 = (gtY l a).2.1 + j)
  | 0, h => ⟨rfl, fun h => ⟨h, by simp⟩⟩
  | j + 1, h => by
    obtain ⟨k1, k2⟩ := seg_fact hs hi j (by omega)
    obtain ⟨g1, g2⟩ := go_iff.1 (hs (a + j) (by omega) (by omega))
    have e : a + (j + 1) = a + j + 1 := by omega
    rw [e]
    refine ⟨by rw [← g1, k1], fun ho => ?_⟩
    obtain ⟨o1, o2⟩ := k2 ho
    have hk : kndB (gtY l (a + j + 1)) ≠ 4 := by rw [← g1]; intro q; rw [knd_old.1.1 q] at o1; cases o1
    have ho2 : (gtY l (a + j + 1)).1 = true := by
      cases q : (gtY l (a + j + 1)).1
      · exact absurd (knd_old.1.2 q) hk
      · rfl
    have b1 := sOK_t (gt_ok hr hm (j := a + j) (by omega)) o1
    refine ⟨ho2, ?_⟩
    rw [g2 o1, IntWalk.i64_in _ (by omega), o2]
    omega
theorem mdO_sym {a i : Nat} (ha : a < i) (hi : i ≤ l.length) (hs : seg l a i) : symsO (mdO (ptL l a i)).1.toNat (mdO (ptL l a i)) = ptL l a i := by
  have hp := ptL_len (l := l) (a := a) (i := i) (by omega) hi
  have h0 : gtY (ptL l a i) 0 = gtY l a := by rw [pt_at hi (by omega)]; rfl
  have key : ∀ (t : Nat) (el : Nat → SyT), (∀ j, a + j < i → el j = gtY l (a + j)) → gen el (i - a) 0 = ptL l a i := fun t el h => by
    refine List.ext_getElem? fun j => ?_
    by_cases hj : a + j < i
    · rw [gen_get _ _ _ _ (by omega), Nat.zero_add, h j hj, List.getElem?_eq_getElem (by omega), ← gtY_at (by omega), pt_at hi hj]
    · rw [List.getElem?_eq_none (by rw [gen_len]; omega), List.getElem?_eq_none (by omega)]
  have dat : ∀ j, a + j < i → gtB ((ptL l a i).map fun s => s.2.2) j = (gtY l (a + j)).2.2 := fun j hj => by
    rw [gtB_at (by rw [List.length_map]; omega), List.getElem_map, ← gtY_at (by omega), pt_at hi hj]
  have ext3 : ∀ (s : SyT) (x : Bool) (y z : Int), s.1 = x → s.2.1 = y → s.2.2 = z → (x, y, z) = s := fun s x y z h1 h2 h3 => by subst h1; subst h2; subst h3; rfl
  unfold mdO
  rw [h0]
  rcases (knd_old (s := gtY l a)).2.1 with k | k | k
  · rw [k, if_pos rfl]
    obtain ⟨o, _⟩ := knd_old.2.2.1 k
    have e : cntO 1 ((1, (gtY l a).2.1, (ptL l a i).length, 0, []) : OpT) = i - a := by show ((ptL l a i).length : Int).toNat = _; omega
    show gen _ (cntO 1 _) 0 = _
    rw [e]
    refine key 1 _ fun j hj => ?_
    obtain ⟨f1, f2⟩ := seg_fact hr hm hs hi j hj
    obtain ⟨f3, f4⟩ := f2 o
    rw [k] at f1
    have b1 := sOK_t (gt_ok hr hm (j := a + j) (by omega)) f3
    have w : IntKind.i64.wrap ((gtY l a).2.1 + (j : Int)) = (gtY l a).2.1 + j := IntWalk.i64_in _ (by have := sOK_t (gt_ok hr hm (j := a) (by omega)) o; omega)
    show (true, IntKind.i64.wrap ((gtY l a).2.1 + (j : Int)), 0) = _
    rw [w]
    exact ext3 _ _ _ _ f3 f4 (knd_old.2.2.1 f1).2
  · rw [k, if_neg (by decide)]
    have o := knd_old.2.2.2 k
    have e : cntO 2 ((2, (gtY l a).2.1, (ptL l a i).length, 0, (ptL l a i).map fun s => s.2.2) : OpT) = i - a := by show ((ptL l a i).map fun s => s.2.2).length = _; rw [List.length_map]; omega
    show gen _ (cntO 2 _) 0 = _
    rw [e]
    refine key 2 _ fun j hj => ?_
    obtain ⟨f1, f2⟩ := seg_fact hr hm hs hi j hj
    obtain ⟨f3, f4⟩ := f2 o
    have b1 := sOK_t (gt_ok hr hm (j := a + j) (by omega)) f3
    have w : IntKind.i64.wrap ((gtY l a).2.1 + (j : Int)) = (gtY l a).2.1 + j := IntWalk.i64_in _ (by have := sOK_t (gt_ok hr hm (j := a) (by omega)) o; omega)
    show (true, IntKind.i64.wrap ((gtY l a).2.1 + (j : Int)), gtB ((ptL l a i).map fun s => s.2.2) j) = _
    rw [w]
    exact ext3 _ _ _ _ f3 f4 (dat j hj).symm
  · rw [k, if_neg (by decide)]
    have e : cntO 4 ((4, (gtY l a).2.1, (ptL l a i).length, 0, (ptL l a i).map fun s => s.2.2) : OpT) = i - a := by show ((ptL l a i).map fun s => s.2.2).length = _; rw [List.length_map]; omega
    show gen _ (cntO 4 _) 0 = _
    rw [e]
    refine key 4 _ fun j hj => ?_
    obtain ⟨f1, _⟩ := seg_fact hr hm hs hi j hj
    rw [k] at f1
    have o := knd_old.1.1 f1
    show (false, 0, gtB ((ptL l a i).map fun s => s.2.2) j) = _
    exact ext3 _ _ _ _ o (sOK_f (gt_ok hr hm (j := a + j) (by omega)) o) (dat j hj).symm
theorem mdO_right {a i : Nat} (ha : a < i) (hi : i ≤ l.length) (hl : l.length ≤ 65536) (hs : seg l a i) : isRB (mdO (ptL l a i)) m = true := by
  have hp := ptL_len (l := l) (a := a) (i := i) (by omega) hi
  have h0 : gtY (ptL l a i) 0 = gtY l a := by rw [pt_at hi (by omega)]; rfl
  have part : (gtY l a).1 = true → isPartB (gtY l a).2.1 (ptL l a i).length m = true := fun o => by
    have b0 := sOK_t (gt_ok hr hm (j := a) (by omega)) o
    obtain ⟨_, f2⟩ := seg_fact hr hm hs hi (i - 1 - a) (by omega)
    obtain ⟨f3, f4⟩ := f2 o
    have b1 := sOK_t (gt_ok hr hm (j := a + (i - 1 - a)) (by omega)) f3
    have w : IntKind.i64.wrap (m - (ptL l a i).length) = m - (ptL l a i).length := IntWalk.i64_in _ (by omega)
    unfold isPartB
    rw [w]
    simp only [Bool.and_eq_true, decide_eq_true_eq]
    omega
  have lens : decide (1 ≤ (mdO (ptL l a i)).2.2.1) = true ∧ decide ((mdO (ptL l a i)).2.2.1 ≤ 65536) = true := by
    show decide (1 ≤ ((ptL l a i).length : Int)) = true ∧ decide (((ptL l a i).length : Int) ≤ 65536) = true
    simp only [decide_eq_true_eq]
    omega
  unfold isRB
  rw [lens.1, lens.2]
  unfold mdO kR
  rw [h0]
  rcases (knd_old (s := gtY l a)).2.1 with k | k | k
  · rw [k]
    obtain ⟨o, _⟩ := knd_old.2.2.1 k
    simp only [rB, if_true, part o]
    rfl
  · rw [k]
    have o := knd_old.2.2.2 k
    simp [rB, part o]
  · rw [k]
    have o := knd_old.1.1 k
    have z := sOK_f (gt_ok hr hm (j := a) (by omega)) o
    simp [rB, z]
def noJ (x y : OpT) : Prop := x.1 ≠ 3 ∧ y.1 ≠ 3 ∧ ¬ (x.1 = y.1 ∧ (x.1 = 4 ∨ IntKind.i64.wrap (x.2.1 + x.2.2.1) = y.2.1))
theorem mdO_noJ {a i : Nat} {y : OpT} (ha : a < i) (hi : i < l.length) (hs : seg l a i) (hg : goB (gtY l (i - 1)) (gtY l i) = false) (h1 : y.1 = kndB (gtY l i)) (h2 : y.2.1 = (gtY l i).2.1) : noJ (mdO (ptL l a i)) y := by
  have hp := ptL_len (l := l) (a := a) (i := i) (by omega) (by omega)
  have h0 : gtY (ptL l a i) 0 = gtY l a := by rw [pt_at (by omega) (by omega)]; rfl
  obtain ⟨q1, q2, q3⟩ := mdO_1 h0
  obtain ⟨f1, f2⟩ := seg_fact hr hm hs (by omega) (i - 1 - a) (by omega)
  have e : a + (i - 1 - a) = i - 1 := by omega
  rw [e] at f1 f2
  unfold noJ
  rw [q1, q2, q3, h1, h2]
  refine ⟨fun q => ?_, fun q => ?_, fun ⟨k, q⟩ => ?_⟩
  · rcases (knd_old (s := gtY l a)).2.1 with k | k | k <;> omega
  · rcases (knd_old (s := gtY l i)).2.1 with k | k | k <;> omega
  · have ng : ¬ goB (gtY l (i - 1)) (gtY l i) = true := by rw [hg]; decide
    apply ng
    rw [go_iff]
    refine ⟨by rw [f1, k], fun o => ?_⟩
    have oa : (gtY l a).1 = true := by
      cases c : (gtY l a).1
      · rw [knd_old.1.2 c, knd_old.1] at f1
        rw [f1] at o; cases o
      · rfl
    obtain ⟨f3, f4⟩ := f2 oa
    have b1 := sOK_t (gt_ok hr hm (j := i - 1) (by omega)) f3
    rcases q with q | q
    · rw [knd_old.1] at q; rw [q] at oa; cases oa
    · rw [← q, f4, hp]
      congr 1
      omega
def chainJ : List OpT → Prop
  | [] => True
  | x :: r => (∀ y, r.head? = some y → noJ x y) ∧ chainJ r
theorem opsF_ok (hl : l.length ≤ 65536) : ∀ (k a i : Nat), k = l.length + 1 - i → 1 ≤ i → i ≤ l.length → a < i → seg l a i →
    symF (opsF l k a i) = l.drop a ∧ (∀ x ∈ opsF l k a i, isRB x m = true) ∧ (opsF l k a i).length ≤ k ∧ chainJ (opsF l k a i) ∧ ∃ x r, opsF l k a i = x :: r ∧ x.1 = kndB (gtY l a) ∧ x.2.1 = (gtY l a).2.1 := by
  intro k
  induction k with
  | zero => intro a i hk h1 hi; omega
  | succ k ih =>
    intro a i hk h1 hi ha hs
    have hpt : ptL l a i ++ l.drop i = l.drop a := by
      have : ptL l a i = (l.drop a).take (i - a) := by simp [ptL, Px.part, List.drop_take]
      rw [this]
      have e : l.drop i = (l.drop a).drop (i - a) := by rw [List.drop_drop]; congr 1; omega
      rw [e, List.take_append_drop]
    have h0 : gtY (ptL l a i) 0 = gtY l a := by rw [pt_at hi (by omega)]; rfl
    obtain ⟨q1, q2, q3⟩ := mdO_1 h0
    have hsy := mdO_sym hr hm ha hi hs
    have hri := mdO_right hr hm ha hi hl hs
    by_cases hc : i = l.length ∨ goB (gtY l (i - 1)) (gtY l i) = false
    · rw [cut1 hc]
      by_cases he : i = l.length
      · have hk0 : k = 0 := by omega
        subst hk0
        have e0 : opsF l 0 i (i + 1) = [] := rfl
        rw [e0]
        refine ⟨?_, fun x hx => ?_, by simp, ⟨fun y hy => (by cases hy), trivial⟩, _, _, rfl, q1, q2⟩
        · rw [symF, symF, hsy, List.append_nil]
          rw [he, List.drop_length, List.append_nil] at hpt
          rw [he]; exact hpt
        · rw [List.mem_singleton] at hx; subst hx; exact hri
      · have hg : goB (gtY l (i - 1)) (gtY l i) = false := by rcases hc with hc | hc; exact absurd hc he; exact hc
        obtain ⟨i1, i2, i3, i4, x, r, i5, i6, i7⟩ := ih i (i + 1) (by omega) (by omega) (by omega) (by omega) (fun j h1 h2 => by omega)
        refine ⟨?_, fun y hy => ?_, by rw [List.length_cons]; omega, ⟨fun y hy => ?_, i4⟩, _, _, rfl, q1, q2⟩
        · rw [symF, hsy, i1]; exact hpt
        · rcases List.mem_cons.1 hy with rfl | hy
          · exact hri
          · exact i2 y hy
        · rw [i5] at hy
          have hy : x = y := by simpa using hy
          subst hy
          exact mdO_noJ hr hm ha (by omega) hs hg i6 i7
    · rw [cut0 hc]
      have hil : i < l.length := by
        rcases Nat.lt_or_ge i l.length with h | h
        · exact h
        · exact absurd (.inl (by omega)) hc
      have hg : goB (gtY l (i - 1)) (gtY l i) = true := by
        cases q : goB (gtY l (i - 1)) (gtY l i)
        · exact absurd (.inr q) hc
        · rfl
      obtain ⟨i1, i2, i3, i4, i5⟩ := ih a (i + 1) (by omega) (by omega) (by omega) (by omega) (fun j h1 h2 => by
        by_cases e : j + 1 < i
        · exact hs j h1 e
        · have : j = i - 1 := by omega
          subst this
          have e : i - 1 + 1 = i := by omega
          rw [e]; exact hg)
      exact ⟨i1, i2, by omega, i4, i5⟩
theorem opsL_ok (hl : l.length ≤ 65536) : symF (opsL l) = l ∧ (∀ x ∈ opsL l, isRB x m = true) ∧ (opsL l).length ≤ l.length ∧ chainJ (opsL l) := by
  unfold opsL
  by_cases h : l.length = 0
  · have : l = [] := List.eq_nil_of_length_eq_zero h
    subst this
    show symF ([] : List OpT) = [] ∧ (∀ x ∈ ([] : List OpT), isRB x m = true) ∧ ([] : List OpT).length ≤ 0 ∧ chainJ []
    exact ⟨rfl, fun x hx => (by cases hx), Nat.le_refl 0, trivial⟩
  · obtain ⟨h1, h2, h3, h4, _⟩ := opsF_ok hr hm hl l.length 0 1 (by omega) (by omega) (by omega) (by omega) (fun j h1 h2 => by omega)
    exact ⟨by rw [h1]; rfl, h2, h3, h4⟩
end
end Go.Proofs.YtikikmhlicoheaaGreatDoor
namespace Go.Proofs.YtikikmhlicoheaaGreatDoor
open Go.Px Go.Ax
set_option maxRecDepth 100000
def ctOps0 : Ctr := ⟨[.sl syS], fun x => List.length x.1 = 0, fun x => [.sl opS (opsL x.1)], fun _ => []⟩
def ctOpsA : Ctr := ⟨[.sl syS], fun x => List.length x.1 < 16777216, fun x => [.sl opS (opsL x.1)], fun _ => []⟩
set_option maxRecDepth 100000
theorem vc_rop53 (k f n b m : Int) (d : List Int) (Q : List SV → List (Nat × LB) → Prop) (R : List Item → PS → Prop) : sy tt G0 [(43, .inl ctIn)] Tryz.f53.ntmps Tryz.f53.results.toList Q R 1000 [.code (bodyOf Tryz.f53)] (entry [opS, iI] ((k, f, n, b, d), m, ())) =
    (ctIn.pre (n, (1 : Int), (65536 : Int), ()) ∧
 bc (!(decide ((1 : Int) ≤ n) && decide (n ≤ (65536 : Int)))) (Q [.bool false] [(2, .var [.int .i64 k, .int .i64 f, .int .i64 n, .int .u8 b, .sl uB d])]) (ctIn.pre (f, (0 : Int), IntKind.i64.wrap (m - n), ()) ∧
 bc (decide (k = (1 : Int))) (bc (decide ((0 : Int) ≤ f) && decide (f ≤ IntKind.i64.wrap (m - n))) (bc (decide (b = (0 : Int))) (Q [.bool (decide ((↑d.length : Int) = (0 : Int)))] [(2, .var [.int .i64 k, .int .i64 f, .int .i64 n, .int .u8 b, .sl uB d])]) (false = false ∧
 Q [.bool false] [(2, .var [.int .i64 k, .int .i64 f, .int .i64 n, .int .u8 b, .sl uB d])])) (false = false ∧
 false = false ∧
 Q [.bool false] [(2, .var [.int .i64 k, .int .i64 f, .int .i64 n, .int .u8 b, .sl uB d])])) (bc (decide (k = (2 : Int))) (bc (decide ((0 : Int) ≤ f) && decide (f ≤ IntKind.i64.wrap (m - n))) (bc (decide (b = (0 : Int))) (Q [.bool (decide ((↑d.length : Int) = n))] [(2, .var [.int .i64 k, .int .i64 f, .int .i64 n, .int .u8 b, .sl uB d])]) (false = false ∧
 Q [.bool false] [(2, .var [.int .i64 k, .int .i64 f, .int .i64 n, .int .u8 b, .sl uB d])])) (false = false ∧
 false = false ∧
 Q [.bool false] [(2, .var [.int .i64 k, .int .i64 f, .int .i64 n, .int .u8 b, .sl uB d])])) (bc (decide (k = (3 : Int))) (bc (decide (f = (0 : Int))) (Q [.bool (decide ((↑d.length : Int) = (0 : Int)))] [(2, .var [.int .i64 k, .int .i64 f, .int .i64 n, .int .u8 b, .sl uB d])]) (false = false ∧
 Q [.bool false] [(2, .var [.int .i64 k, .int .i64 f, .int .i64 n, .int .u8 b, .sl uB d])])) (bc (decide (k = (4 : Int))) (bc (decide (f = (0 : Int))) (bc (decide (b = (0 : Int))) (Q [.bool (decide ((↑d.length : Int) = n))] [(2, .var [.int .i64 k, .int .i64 f, .int .i64 n, .int .u8 b, .sl uB d])]) (false = false ∧
 Q [.bool false] [(2, .var [.int .i64 k, .int .i64 f, .int .i64 n, .int .u8 b, .sl uB d])])) (false = false ∧
 false = false ∧
 Q [.bool false] [(2, .var [.int .i64 k, .int .i64 f, .int .i64 n, .int .u8 b, .sl uB d])])) (Q [.bool false] [(2, .var [.int .i64 k, .int .i64 f, .int .i64 n, .int .u8 b, .sl uB d])])))))) := by kernel_rfl
theorem vc_of2 (l : List SyT) (m : Int) (Q : List SV → List (Nat × LB) → Prop) (R : List Item → PS → Prop) : sy tt G0 ((47, .inl ctOpsA) :: (46, .inl ctAre) :: C1) Tryz.f20.ntmps Tryz.f20.results.toList Q R 1000 [.code (bodyOf Tryz.f20)] (entry [.sl syS, iI] (l, m, ())) =
    (ctSize.pre (m, ()) ∧
 bc (!(decide ((0 : iI.D) ≤ m) && decide (m ≤ (65536 : iI.D)))) (true = true ∧
 true = true ∧
 Q [.agg [.bool false, .int .i64 0, .int .i64 0, .nils], .int .i64 60] [(4, .var [.bool false, .int .i64 0, .int .i64 0, .nils])]) (ctSize.pre ((↑l.length : Int), ()) ∧
 bc (bif false then true else !(decide ((0 : iI.D) ≤ (↑l.length : Int)) && decide ((↑l.length : Int) ≤ (65536 : iI.D)))) (true = true ∧
 Q [.agg [.bool false, .int .i64 0, .int .i64 0, .nils], .int .i64 60] [(4, .var [.bool false, .int .i64 0, .int .i64 0, .nils])]) (ctAre.pre (l, m, ()) ∧
 bc (bif false then true else !l.all (sOK m)) (Q [.agg [.bool false, .int .i64 0, .int .i64 0, .nils], .int .i64 60] [(4, .var [.bool false, .int .i64 0, .int .i64 0, .nils])]) (ctOpsA.pre (l, ()) ∧
 bc (decide ((4096 : Int) < (↑(opsL l).length : Int))) (Q [.agg [.bool false, .int .i64 0, .int .i64 0, .nils], .int .i64 2] [(4, .var [.bool false, .int .i64 0, .int .i64 0, .nils])]) (Q [.agg [.bool false, .int .i64 m, .int .i64 (↑l.length : Int), .sl opS (opsL l)], .int .i64 0] [(4, .var [.bool false, .int .i64 m, .int .i64 (↑l.length : Int), .sl opS (opsL l)])]))))) := by kernel_rfl
end Go.Proofs.YtikikmhlicoheaaGreatDoor
namespace Go.Proofs.YtikikmhlicoheaaGreatDoor
open Go.Px Go.Ax
set_option maxRecDepth 100000
attribute [local irreducible] Go.Px.sy Go.Px.syE
def ctRop : Ctr := ⟨[opS, iI], fun _ => True, fun x => [.bool (isRB x.1 x.2.1)], fun _ => []⟩
theorem rop_run (k f n b m : Int) (d : List Int) : sy tt G0 [(43, .inl ctIn)] Tryz.f53.ntmps Tryz.f53.results.toList (QC ctRop ((k, f, n, b, d), m, ())) (Px.Good Tryz.prog tt G0 53 Tryz.f53.ntmps Tryz.f53.results.toList (QC ctRop ((k, f, n, b, d), m, ()))) 1000 [.code (bodyOf Tryz.f53)] (entry [opS, iI] ((k, f, n, b, d), m, ())) := by
  have fin : ∀ (v : Bool) (blk : List (Nat × LB)), isRB (k, f, n, b, d) m = v → QC ctRop ((k, f, n, b, d), m, ()) [SV.bool v] blk := fun v blk h => QC.flat (by show [SV.bool (isRB _ _)] = _; rw [h]) rfl rfl
  refine (vc_rop53 k f n b m d _ _).mpr ⟨trivial, bc_of (fun h => ?_) (fun h => ?_)⟩
  · have h : (!(decide (1 ≤ n) && decide (n ≤ 65536))) = true := h
    refine fin _ _ ?_
    show (decide (1 ≤ n) && (decide (n ≤ 65536) && kR _ m)) = false
    rw [Bool.not_eq_true'] at h
    rw [← Bool.and_assoc, h]; rfl
  · have h : (!(decide (1 ≤ n) && decide (n ≤ 65536))) = false := h
    rw [Bool.not_eq_false'] at h
    have hk : isRB (k, f, n, b, d) m = kR (k, f, n, b, d) m := by
      show (decide (1 ≤ n) && (decide (n ≤ 65536) && kR _ m)) = _
      rw [← Bool.and_assoc, h, Bool.true_and]
    refine ⟨trivial, bc_of (fun h1 => ?_) (fun h1 => bc_of (fun h2 => ?_) (fun h2 => bc_of (fun h3 => ?_) (fun h3 => bc_of (fun h4 => ?_) (fun h4 => ?_))))⟩
    · have h1 : k = 1 := of_decide_eq_true h1
      have e : kR (k, f, n, b, d) m = (isPartB f n m && (decide (b = 0) && decide ((d.length : Int) = 0))) := by subst h1; rfl
      rw [e] at hk
      refine bc_of (fun a => bc_of (fun c => ?_) (fun c => ⟨rfl, ?_⟩)) (fun a => ⟨rfl, rfl, ?_⟩)
      · exact fin _ _ (by rw [hk, show isPartB f n m = true from a, c]; rfl)
      · exact fin _ _ (by rw [hk, show isPartB f n m = true from a, c]; rfl)
      · exact fin _ _ (by rw [hk, show isPartB f n m = false from a]; rfl)
    · have h2 : k = 2 := of_decide_eq_true h2
      have e : kR (k, f, n, b, d) m = (isPartB f n m && (decide (b = 0) && decide ((d.length : Int) = n))) := by subst h2; rfl
      rw [e] at hk
      refine bc_of (fun a => bc_of (fun c => ?_) (fun c => ⟨rfl, ?_⟩)) (fun a => ⟨rfl, rfl, ?_⟩)
      · exact fin _ _ (by rw [hk, show isPartB f n m = true from a, c]; rfl)
      · exact fin _ _ (by rw [hk, show isPartB f n m = true from a, c]; rfl)
      · exact fin _ _ (by rw [hk, show isPartB f n m = false from a]; rfl)
    · have h3 : k = 3 := of_decide_eq_true h3
      have e : kR (k, f, n, b, d) m = (decide (f = 0) && decide ((d.length : Int) = 0)) := by subst h3; rfl
      rw [e] at hk
      refine bc_of (fun a => ?_) (fun a => ⟨rfl, ?_⟩)
      · exact fin _ _ (by rw [hk, a]; rfl)
      · exact fin _ _ (by rw [hk, a]; rfl)
    · have h4 : k = 4 := of_decide_eq_true h4
      have e : kR (k, f, n, b, d) m = (decide (f = 0) && (decide (b = 0) && decide ((d.length : Int) = n))) := by subst h4; rfl
      rw [e] at hk
      refine bc_of (fun a => bc_of (fun c => ?_) (fun c => ⟨rfl, ?_⟩)) (fun a => ⟨rfl, rfl, ?_⟩)
      · exact fin _ _ (by rw [hk, a, c]; rfl)
      · exact fin _ _ (by rw [hk, a, c]; rfl)
      · exact fin _ _ (by rw [hk, a]; rfl)
    · have h1 : ¬ k = 1 := of_decide_eq_false h1
      have h2 : ¬ k = 2 := of_decide_eq_false h2
      have h3 : ¬ k = 3 := of_decide_eq_false h3
      have h4 : ¬ k = 4 := of_decide_eq_false h4
      refine fin _ _ ?_
      rw [hk]
      show (if k = 1 then _ else if k = 2 then _ else if k = 3 then _ else if k = 4 then _ else false) = false
      rw [if_neg h1, if_neg h2, if_neg h3, if_neg h4]
theorem rop_held : Held Tryz.prog G0 53 ctRop :=
  Held.run (cx0.cons in_held (fn := Tryz.f43) rfl rfl rfl) (fn := Tryz.f53) rfl rfl ⟨by decide, by decide⟩ fun ⟨⟨k, f, n, b, d⟩, m, _⟩ _ => rop_run k f n b m d
theorem ops0_held : Held Tryz.prog G0 47 ctOps0 := by
  refine Held.run dxO (fn := Tryz.f47) rfl rfl ⟨by decide, by decide⟩ ?_
  rintro ⟨l, ⟨⟩⟩ hp
  replace hp : l.length = 0 := hp
  have e : l = [] := List.eq_nil_of_length_eq_zero hp
  subst e
  refine (vc_ops [] _ _).mpr ?_
  refine Good.only (S' := ⟨[(0, .sl syS []), (3, .nils), (4, .int .i64 ((0 : Nat) : Int)), (5, .int .i64 ((1 : Nat) : Int))], []⟩) (sy_sound dxO _ _ _ ((vc_opsA [] 0 1 _ _).mpr ?_)) ⟨rfl, rfl, rfl, rfl, trivial⟩ trivial
  rw [decide_eq_false (by decide), bc_f]
  exact QC.mt ⟨_, _, rfl, .inr ⟨rfl, rfl⟩, rfl⟩ rfl
theorem opsA_held : Held Tryz.prog G0 47 ctOpsA := fun x hp => by
  by_cases h : List.length x.1 = 0
  · exact ops0_held x h
  · exact ops_held x ⟨Nat.pos_of_ne_zero h, hp⟩
def ctOfA : Ctr := ⟨[.sl syS, iI], fun x => List.length x.1 < 16777216, fun x => [paV (ofV x.1 x.2.1).1, .int .i64 (ofV x.1 x.2.1).2], fun _ => []⟩
theorem ofA_held : Held Tryz.prog G0 20 ctOfA := by
  refine Held.run ((cx1.cons are_held (fn := Tryz.f46) rfl rfl rfl).cons opsA_held (fn := Tryz.f47) rfl rfl rfl) (fn := Tryz.f20) rfl rfl ⟨by decide, by decide⟩ ?_
  rintro ⟨l, m, ⟨⟩⟩ hp
  replace hp : l.length < 16777216 := hp
  have bad : ¬ (szB m = true ∧ szB l.length = true ∧ l.all (sOK m) = true) → ofV l m = ((false, 0, 0, []), 60) := fun q => if_neg q
  refine (vc_of2 l m _ _).mpr ⟨trivial, bc_of (fun h => ⟨rfl, rfl, ?_⟩) (fun h => ⟨trivial, bc_of (fun h2 => ⟨rfl, ?_⟩) (fun h2 => ⟨(show l.length < 1099511627776 by omega), bc_of (fun h3 => ?_) (fun h3 => ⟨hp, bc_of (fun h4 => ?_) (fun h4 => ?_)⟩)⟩)⟩)⟩
  · have h : (!szB m) = true := h
    have hv := bad fun q => by rw [q.1] at h; cases h
    exact QC.mt (by show MtL _ [paV (ofV l m).1, .int .i64 (ofV l m).2] _; rw [hv]; exact ⟨_, _, rfl, ⟨_, rfl, _, _, rfl, rfl, _, _, rfl, rfl, _, _, rfl, rfl, _, _, rfl, .inr ⟨rfl, rfl⟩, rfl⟩, _, _, rfl, rfl, rfl⟩) rfl
  · have h2 : (!szB l.length) = true := h2
    have hv := bad fun q => by rw [q.2.1] at h2; cases h2
    exact QC.mt (by show MtL _ [paV (ofV l m).1, .int .i64 (ofV l m).2] _; rw [hv]; exact ⟨_, _, rfl, ⟨_, rfl, _, _, rfl, rfl, _, _, rfl, rfl, _, _, rfl, rfl, _, _, rfl, .inr ⟨rfl, rfl⟩, rfl⟩, _, _, rfl, rfl, rfl⟩) rfl
  · have h3 : (!l.all (sOK m)) = true := h3
    have hv := bad fun q => by rw [q.2.2] at h3; cases h3
    exact QC.mt (by show MtL _ [paV (ofV l m).1, .int .i64 (ofV l m).2] _; rw [hv]; exact ⟨_, _, rfl, ⟨_, rfl, _, _, rfl, rfl, _, _, rfl, rfl, _, _, rfl, rfl, _, _, rfl, .inr ⟨rfl, rfl⟩, rfl⟩, _, _, rfl, rfl, rfl⟩) rfl
  all_goals
    have h : (!szB m) = false := h
    have h2 : (!szB l.length) = false := h2
    have h3 : (!l.all (sOK m)) = false := h3
    have hg : szB m = true ∧ szB l.length = true ∧ l.all (sOK m) = true := ⟨by simpa using h, by simpa using h2, by simpa using h3⟩
  · have h4 : (4096 : Int) < ((opsL l).length : Int) := of_decide_eq_true h4
    have hv : ofV l m = ((false, 0, 0, []), 2) := by unfold ofV; rw [if_pos hg, if_pos (by omega)]
    exact QC.mt (by show MtL _ [paV (ofV l m).1, .int .i64 (ofV l m).2] _; rw [hv]; exact ⟨_, _, rfl, ⟨_, rfl, _, _, rfl, rfl, _, _, rfl, rfl, _, _, rfl, rfl, _, _, rfl, .inr ⟨rfl, rfl⟩, rfl⟩, _, _, rfl, rfl, rfl⟩) rfl
  · have h4 : ¬ (4096 : Int) < ((opsL l).length : Int) := of_decide_eq_false h4
    have hv : ofV l m = (((false, m, (l.length : Int), opsL l) : PaT), (0 : Int)) := by unfold ofV; rw [if_pos hg, if_neg (by omega)]
    exact QC.flat (by show [paV (ofV l m).1, .int .i64 (ofV l m).2] = _; rw [hv]; rfl) rfl rfl
end Go.Proofs.YtikikmhlicoheaaGreatDoor
namespace Go.Proofs.YtikikmhlicoheaaGreatDoor
open Go.Px Go.Ax
set_option maxRecDepth 100000
def CRc : CV := [(53, .inl ctRop), (43, .inl ctIn)]
theorem cxRc : CxOK Tryz.prog tt G0 CRc := (cx0.cons in_held (fn := Tryz.f43) rfl rfl rfl).cons rop_held (fn := Tryz.f53) rfl rfl rfl
set_option maxRecDepth 100000
theorem vc_rchk (li : Bool) (m o : Int) (l : List OpT) (Q : List SV → List (Nat × LB) → Prop) (R : List Item → PS → Prop) : sy tt G0 CRc Tryz.f27.ntmps Tryz.f27.results.toList Q (fun it S => R it (keepS [1, 4, 5] [1] S)) 1000 [.code (bodyOf Tryz.f27)] (entry [paS] ((li, m, o, l), ())) =
    (ctIn.pre (m, (0 : Int), (65536 : Int), ()) ∧
 bc (!(decide ((0 : Int) ≤ m) && decide (m ≤ (65536 : Int)))) (true = true ∧
 true = true ∧
 Q [.int .i64 (-1 : Int), .int .i64 60] [(1, .var [.bool li, .int .i64 m, .int .i64 o, .sl opS l])]) (ctIn.pre (o, (0 : Int), (65536 : Int), ()) ∧
 bc (bif false then true else !(decide ((0 : Int) ≤ o) && decide (o ≤ (65536 : Int)))) (true = true ∧
 Q [.int .i64 (-1 : Int), .int .i64 60] [(1, .var [.bool li, .int .i64 m, .int .i64 o, .sl opS l])]) (bc (bif false then true else decide ((4096 : Int) < (↑l.length : Int))) (Q [.int .i64 (-1 : Int), .int .i64 60] [(1, .var [.bool li, .int .i64 m, .int .i64 o, .sl opS l])]) (R (hd Tryz.f27 0) { env := [(1, .ptr 1 0), (4, .int .i64 0), (5, .int .i64 0)], blk := [(1, .var [.bool li, .int .i64 m, .int .i64 o, .sl opS l])] })))) := by kernel_rfl
theorem vc_rchkL (li : Bool) (m o s : Int) (l : List OpT) (i : Nat) (Q : List SV → List (Nat × LB) → Prop) (R : List Item → PS → Prop) : sy tt G0 CRc Tryz.f27.ntmps Tryz.f27.results.toList Q (fun it S => R it (keepS [1, 4, 5] [1] S)) 1000 (hd Tryz.f27 0) ⟨[(1, .ptr 1 0), (4, .int .i64 s), (5, .int .i64 (i : Nat))], [(1, .var [.bool li, .int .i64 m, .int .i64 o, .sl opS l])]⟩ =
    (bc (decide ((↑i : Int) < (↑l.length : Int))) ((0 : Int) ≤ (↑i : Int) ∧
 (↑i : Int) < (↑l.length : Int) ∧
 ctRop.pre ((gtO l (↑i : Int).toNat), m, ()) ∧
 bc (!isRB (gtO l (↑i : Int).toNat) m) (true = true ∧
 Q [.int .i64 (↑i : Int), .int .i64 60] [(1, .var [.bool li, .int .i64 m, .int .i64 o, .sl opS l])]) ((0 : Int) ≤ (↑i : Int) ∧
 (↑i : Int) < (↑l.length : Int) ∧
 bc (bif false then true else decide (o < IntKind.i64.wrap (s + (gtO l (↑i : Int).toNat).snd.snd.fst))) (Q [.int .i64 (↑i : Int), .int .i64 60] [(1, .var [.bool li, .int .i64 m, .int .i64 o, .sl opS l])]) ((0 : Int) ≤ (↑i : Int) ∧
 (↑i : Int) < (↑l.length : Int) ∧
 R (hd Tryz.f27 0) { env := [(1, .ptr 1 0), (4, .int .i64 (IntKind.i64.wrap (s + (gtO l (↑i : Int).toNat).snd.snd.fst))), (5, .int .i64 (IntKind.i64.wrap ((↑i : Int) + (1 : Int))))], blk := [(1, .var [.bool li, .int .i64 m, .int .i64 o, .sl opS l])] }))) (bc (decide (s ≠ o)) (Q [.int .i64 (↑l.length : Int), .int .i64 60] [(1, .var [.bool li, .int .i64 m, .int .i64 o, .sl opS l])]) (Q [.int .i64 (↑l.length : Int), .int .i64 0] [(1, .var [.bool li, .int .i64 m, .int .i64 o, .sl opS l])]))) := by kernel_rfl
theorem vc_rsymb (f : Bool) (a b n : Int) (Q : List SV → List (Nat × LB) → Prop) (R : List Item → PS → Prop) : sy tt G0 [(43, .inl ctIn)] Tryz.f29.ntmps Tryz.f29.results.toList Q R 1000 [.code (bodyOf Tryz.f29)] (entry [syS, iI] ((f, a, b), n, ())) =
    (bc f (ctIn.pre (a, (0 : Int), IntKind.i64.wrap (n - (1 : Int)), ()) ∧
 Q [.bool (decide ((0 : Int) ≤ a) && decide (a ≤ IntKind.i64.wrap (n - (1 : Int))))] [(2, .var [.bool f, .int .i64 a, .int .u8 b])]) (Q [.bool (decide (a = (0 : Int)))] [(2, .var [.bool f, .int .i64 a, .int .u8 b])])) := by kernel_rfl
theorem vc_right (li : Bool) (m o : Int) (l : List OpT) (Q : List SV → List (Nat × LB) → Prop) (R : List Item → PS → Prop) : sy tt G0 [(27, .inl ctChk)] Tryz.f28.ntmps Tryz.f28.results.toList Q R 1000 [.code (bodyOf Tryz.f28)] (entry [paS] ((li, m, o, l), ())) =
    (ctChk.pre ((li, m, o, l), ()) ∧
 Q [.bool (decide ((chkV (li, m, o, l)).snd = (0 : Int)))] [(1, .var [.bool li, .int .i64 m, .int .i64 o, .sl opS l])]) := by kernel_rfl
end Go.Proofs.YtikikmhlicoheaaGreatDoor
namespace Go.Proofs.YtikikmhlicoheaaGreatDoor
open Go.Px Go.Ax
set_option maxRecDepth 100000
attribute [local irreducible] Go.Px.sy Go.Px.syE
abbrev ChQ (a b : Int) : List SV → List (Nat × LB) → Prop := fun rs _ => rs = [.int .i64 a, .int .i64 b]
theorem rchk_loop (li : Bool) (m o : Int) (l : List OpT) (ho : 0 ≤ o ∧ o ≤ 65536) (hl : l.length ≤ 4096) : ∀ (k i : Nat) (s : Int), l.length - i = k → i ≤ l.length → 0 ≤ s → s ≤ o →
    GD 27 Tryz.f27 (ChQ (chkF m l.length (l.drop i) (o - s) i).1 (chkF m l.length (l.drop i) (o - s) i).2) (hd Tryz.f27 0) ⟨[(1, .ptr 1 0), (4, .int .i64 s), (5, .int .i64 (i : Nat))], [(1, .var [.bool li, .int .i64 m, .int .i64 o, .sl opS l])]⟩ := by
  intro k
  induction k with
  | zero =>
    intro i s hk hi h0 hs
    have hi : i = l.length := by omega
    subst hi
    refine sy_goK cxRc (vc_rchkL li m o s l _ _ _) ?_
    rw [decide_eq_false (by omega), bc_f, List.drop_length]
    simp only [chkF]
    refine bc_of (fun h => ?_) (fun h => ?_)
    · have h : s ≠ o := of_decide_eq_true h
      rw [if_pos (by omega)]
    · have h : ¬ s ≠ o := of_decide_eq_false h
      rw [if_neg (by omega)]
  | succ k ih =>
    intro i s hk hi h0 hs
    have hil : i < l.length := by omega
    refine sy_goK cxRc (vc_rchkL li m o s l i _ _) ?_
    rw [decide_eq_true (show (i : Int) < (l.length : Int) by omega), bc_t, Int.toNat_natCast, gtO_at hil, IntWalk.i64_in ((i : Int) + 1) (by omega), dropc hil]
    simp only [chkF]
    refine ⟨by omega, by omega, trivial, bc_of (fun h => ⟨trivial, ?_⟩) (fun h => ⟨by omega, by omega, ?_⟩)⟩
    · have h : isRB l[i] m = false := by simpa using h
      rw [if_pos h]
    · have h : isRB l[i] m = true := by simpa using h
      have hx := isRB_len h
      have w : IntKind.i64.wrap (s + l[i].2.2.1) = s + l[i].2.2.1 := IntWalk.i64_in _ (by omega)
      have h2 : ¬ isRB l[i] m = false := by rw [h]; decide
      rw [w, if_neg h2]
      refine bc_of (fun h3 => ?_) (fun h3 => ?_)
      · have h3 : o < s + l[i].2.2.1 := of_decide_eq_true h3
        rw [if_pos (by omega)]
      · have h3 : ¬ o < s + l[i].2.2.1 := of_decide_eq_false h3
        have nx := ih (i + 1) (s + l[i].2.2.1) (by omega) (by omega) (by omega) (by omega)
        have e : o - (s + l[i].2.2.1) = o - s - l[i].2.2.1 := by omega
        rw [e] at nx
        rw [if_neg (by omega)]
        exact ⟨by omega, by omega, nx.only ⟨rfl, rfl, rfl, trivial⟩ ⟨rfl, trivial⟩⟩
theorem rchk_run (li : Bool) (m o : Int) (l : List OpT) : GD 27 Tryz.f27 (ChQ (chkV (li, m, o, l)).1 (chkV (li, m, o, l)).2) [.code (bodyOf Tryz.f27)] (entry [paS] ((li, m, o, l), ())) := by
  have bad : ¬ (szB m = true ∧ szB o = true ∧ l.length ≤ 4096) → chkV (li, m, o, l) = (-1, 60) := fun q => if_neg q
  refine sy_goK cxRc (vc_rchk li m o l _ _) ⟨trivial, bc_of (fun h => ⟨rfl, rfl, ?_⟩) (fun h => ⟨trivial, bc_of (fun h2 => ⟨rfl, ?_⟩) (fun h2 => bc_of (fun h3 => ?_) (fun h3 => ?_))⟩)⟩
  · have h : (!szB m) = true := h
    rw [bad fun q => by rw [q.1] at h; cases h]
  · have h2 : (!szB o) = true := h2
    rw [bad fun q => by rw [q.2.1] at h2; cases h2]
  · have h3 : (4096 : Int) < (l.length : Int) := of_decide_eq_true h3
    rw [bad fun q => by omega]
  · have h : (!szB m) = false := h
    have h2 : (!szB o) = false := h2
    have h3 : ¬ (4096 : Int) < (l.length : Int) := of_decide_eq_false h3
    have hg : szB m = true ∧ szB o = true ∧ l.length ≤ 4096 := ⟨by simpa using h, by simpa using h2, by omega⟩
    have ho : 0 ≤ o ∧ o ≤ 65536 := by
      have := hg.2.1
      simpa [szB] using this
    have hv : chkV (li, m, o, l) = chkF m l.length (l.drop 0) (o - 0) ((0 : Nat) : Int) := by
      unfold chkV; rw [if_pos hg, Int.sub_zero]; rfl
    rw [hv]
    exact (rchk_loop li m o l ho hg.2.2 _ 0 0 rfl (by omega) (by omega) ho.1).only ⟨rfl, rfl, rfl, trivial⟩ ⟨rfl, trivial⟩
theorem rchk_held : Held Tryz.prog G0 27 ctChk :=
  Held.of cxRc (fn := Tryz.f27) rfl rfl ⟨by decide, by decide⟩ fun ⟨⟨li, m, o, l⟩, _⟩ _ =>
    (rchk_run li m o l).post fun rs blk hq => QC.flat (by rw [hq]; rfl) rfl (by rw [hq]; rfl)
def ctRi : Ctr := ⟨[paS], fun _ => True, fun x => [.bool (decide ((chkV x.1).2 = 0))], fun _ => []⟩
theorem right_held : Held Tryz.prog G0 28 ctRi :=
  Held.run (cx0.cons rchk_held (fn := Tryz.f27) rfl rfl rfl) (fn := Tryz.f28) rfl rfl ⟨by decide, by decide⟩ fun ⟨⟨li, m, o, l⟩, _⟩ _ =>
    (vc_right li m o l _ _).mpr ⟨trivial, QC.flat rfl rfl rfl⟩
def ctRsy : Ctr := ⟨[syS, iI], fun x => preN x.2.1, fun x => [.bool (sOK x.2.1 x.1)], fun _ => []⟩
theorem rsym_run (f : Bool) (a b n : Int) (h0 : 0 ≤ n) (h1 : n < 16777216) : sy tt G0 [(43, .inl ctIn)] Tryz.f29.ntmps Tryz.f29.results.toList (QC ctRsy ((f, a, b), n, ())) (Px.Good Tryz.prog tt G0 29 Tryz.f29.ntmps Tryz.f29.results.toList (QC ctRsy ((f, a, b), n, ()))) 1000 [.code (bodyOf Tryz.f29)] (entry [syS, iI] ((f, a, b), n, ())) := by
  have w : IntKind.i64.wrap (n - 1) = n - 1 := IntWalk.i64_in _ (by omega)
  refine (vc_rsymb f a b n _ _).mpr ?_
  rw [w]
  refine bc_of (fun h => ⟨trivial, ?_⟩) (fun h => ?_)
  · have h : f = true := h
    subst h
    refine QC.flat ?_ rfl rfl
    show [SV.bool (decide (0 ≤ a) && decide (a < n))] = _
    rw [decide_eq_decide.2 (show a < n ↔ a ≤ n - 1 by omega)]
  · have h : f = false := h
    subst h
    exact QC.flat rfl rfl rfl
theorem rsym_held : Held Tryz.prog G0 29 ctRsy :=
  Held.run (cx0.cons in_held (fn := Tryz.f43) rfl rfl rfl) (fn := Tryz.f29) rfl rfl ⟨by decide, by decide⟩ fun ⟨⟨f, a, b⟩, n, _⟩ hp => rsym_run f a b n hp.1 hp.2
end Go.Proofs.YtikikmhlicoheaaGreatDoor
namespace Go.Proofs.YtikikmhlicoheaaGreatDoor
open Go.Px Go.Ax
set_option maxRecDepth 100000
abbrev a3S : Sh := .arr 3 (.int .i8)
def CL6 : CV := [(29, .inl ctRsy), (28, .inl ctRi), (20, .inl ctOfA), (23, .inl ctSS), (19, .inl ctSym), (13, .inl ctRaw), (9, .inl ctSan)]
theorem cxL6 : CxOK Tryz.prog tt G0 CL6 := ((((((cx0.cons san_held (fn := Tryz.f9) rfl rfl rfl).cons raw_held (fn := Tryz.f13) rfl rfl rfl).cons sym_held (fn := Tryz.f19) rfl rfl rfl).cons ss_held (fn := Tryz.f23) rfl rfl rfl).cons ofA_held (fn := Tryz.f20) rfl rfl rfl).cons right_held (fn := Tryz.f28) rfl rfl rfl).cons rsym_held (fn := Tryz.f29) rfl rfl rfl
abbrev gI (l : List Int) (i : Nat) : Int := gt (Sh.int IntKind.i8) l i
set_option maxRecDepth 100000
theorem vc_s6a (l : List (List Int)) (z : Int) (bd : List Int) (Q : List SV → List (Nat × LB) → Prop) (R : List Item → PS → Prop) : sy tt G0 CL6 Tryz.f6.ntmps Tryz.f6.results.toList Q (fun it S => R it (keepS [5, 7, 8, 9] [5, 1114688] S)) 9 [.code (bodyOf Tryz.f6)] (entry [.sl a2S, uB, a3S] (l, z, bd, ())) =
    (ctSan.pre () ∧
 (13 : Int) ≠ (0 : Int) ∧
 ctRaw.pre (l, (IntKind.i64.wrap z).tmod (13 : Int), ()) ∧
 R (midI 9 [] [Item.code (bodyOf Tryz.f6)]) { env := [(5, .ptr 5 0), (7, .bool true), (8, .int .i64 ((IntKind.i64.wrap z).tmod (13 : Int))), (9, .win true syS 1114688 0 (rawL l ((IntKind.i64.wrap z).tmod (13 : Int)) (rawK l)).length)], blk := [(5, .var [.arr (3 : Nat) (Sh.int IntKind.i8) bd]), (1114688, .row 60 syS (rawL l ((IntKind.i64.wrap z).tmod (13 : Int)) (rawK l)))] }) := by kernel_rfl
theorem vc_s6b (n : Int) (s : List SyT) (bd : List Int) (Q : List SV → List (Nat × LB) → Prop) (R : List Item → PS → Prop) : sy tt G0 CL6 Tryz.f6.ntmps Tryz.f6.results.toList Q (fun it S => R it (keepS [5, 7, 8, 9, 10, 11] [5, 10] S)) 3 (midI 9 [] [.code (bodyOf Tryz.f6)]) ⟨[(5, .ptr 5 0), (7, .bool true), (8, .int .i64 n), (9, .sl syS s)], [(5, .var [.arr 3 (.int .i8) bd])]⟩ =
    (ctOfA.pre (s, n, ()) ∧
 R (midI 12 [] [Item.code (bodyOf Tryz.f6)]) { env := [(5, .ptr 5 0), (7, .bool true), (8, .int .i64 n), (9, .sl syS s), (10, .ptr 10 0), (11, .int .i64 (ofV s n).snd)], blk := [(5, .var [.arr (3 : Nat) (Sh.int IntKind.i8) bd]), (10, .var [.bool (ofV s n).fst.fst, .int .i64 (ofV s n).fst.snd.fst, .int .i64 (ofV s n).fst.snd.snd.fst, .sl opS (ofV s n).fst.snd.snd.snd])] }) := by kernel_rfl
theorem vc_s6c (n : Int) (l : List OpT) (s : List SyT) (bd : List Int) (Q : List SV → List (Nat × LB) → Prop) (R : List Item → PS → Prop) : sy tt G0 CL6 Tryz.f6.ntmps Tryz.f6.results.toList Q (fun it S => R it (keepS [5, 7, 8, 9, 10, 14] [5, 10] S)) 1000 (midI 12 [] [.code (bodyOf Tryz.f6)]) ⟨[(5, .ptr 5 0), (7, .bool true), (8, .int .i64 n), (9, .sl syS s), (10, .ptr 10 0), (11, .int .i64 0)], [(5, .var [.arr 3 (.int .i8) bd]), (10, .var [.bool false, .int .i64 n, .int .i64 s.length, .sl opS l])]⟩ =
    (ctRi.pre ((false, n, (↑s.length : Int), l), ()) ∧
 bc (bif false then true else !decide ((chkV (false, n, (↑s.length : Int), l)).snd = (0 : Int))) (true = true ∧
 true = true ∧
 Q [.bool false] [(5, .var [.arr (3 : Nat) (Sh.int IntKind.i8) bd]), (10, .var [.bool false, .int .i64 n, .int .i64 (↑s.length : Int), .sl opS l])]) (bc (bif false then true else decide (n ≠ n)) (Q [.bool false] [(5, .var [.arr (3 : Nat) (Sh.int IntKind.i8) bd]), (10, .var [.bool false, .int .i64 n, .int .i64 (↑s.length : Int), .sl opS l])]) (ctSym.pre ((false, n, (↑s.length : Int), l), ()) ∧
 bc (decide ((symV (false, n, (↑s.length : Int), l)).snd ≠ (0 : Int))) (true = true ∧
 Q [.bool false] [(5, .var [.arr (3 : Nat) (Sh.int IntKind.i8) bd]), (10, .var [.bool false, .int .i64 n, .int .i64 (↑s.length : Int), .sl opS l]), (1221184, .row 60 syS (symV (false, n, (↑s.length : Int), l)).fst)]) ((0 : Nat) + (symV (false, n, (↑s.length : Int), l)).fst.length ≤ (symV (false, n, (↑s.length : Int), l)).fst.length ∧
 ctSS.pre (s, winL syS 0 (symV (false, n, (↑s.length : Int), l)).fst.length (symV (false, n, (↑s.length : Int), l)).fst, ()) ∧
 bc (bif false then true else !decide ((have this := s; this) = winL syS 0 (symV (false, n, (↑s.length : Int), l)).fst.length (symV (false, n, (↑s.length : Int), l)).fst)) (Q [.bool false] [(5, .var [.arr (3 : Nat) (Sh.int IntKind.i8) bd]), (10, .var [.bool false, .int .i64 n, .int .i64 (↑s.length : Int), .sl opS l]), (1221184, .row 60 syS (symV (false, n, (↑s.length : Int), l)).fst)]) (R (hd Tryz.f6 0) { env := [(5, .ptr 5 0), (7, .bool true), (8, .int .i64 n), (9, .sl syS s), (10, .ptr 10 0), (14, .int .i64 1)], blk := [(5, .var [.arr (3 : Nat) (Sh.int IntKind.i8) bd]), (10, .var [.bool false, .int .i64 n, .int .i64 (↑s.length : Int), .sl opS l])] }))))) := by kernel_rfl
theorem vc_s6L (n : Int) (l : List OpT) (s : List SyT) (bd : List Int) (i : Nat) (Q : List SV → List (Nat × LB) → Prop) (R : List Item → PS → Prop) : sy tt G0 CL6 Tryz.f6.ntmps Tryz.f6.results.toList Q (fun it S => R it (keepS [5, 7, 8, 9, 10, 14] [5, 10] S)) 1000 (hd Tryz.f6 0) ⟨[(5, .ptr 5 0), (7, .bool true), (8, .int .i64 n), (9, .sl syS s), (10, .ptr 10 0), (14, .int .i64 (i : Nat))], [(5, .var [.arr 3 (.int .i8) bd]), (10, .var [.bool false, .int .i64 n, .int .i64 s.length, .sl opS l])]⟩ =
    (bc (decide ((↑i : Int) < (↑l.length : Int))) ((0 : Int) ≤ IntKind.i64.wrap ((↑i : Int) - (1 : Int)) ∧
 IntKind.i64.wrap ((↑i : Int) - (1 : Int)) < (↑l.length : Int) ∧
 (0 : Int) ≤ (↑i : Int) ∧
 (↑i : Int) < (↑l.length : Int) ∧
 bc (decide ((gtO l (IntKind.i64.wrap ((↑i : Int) - (1 : Int))).toNat).fst = (3 : Int))) (true = true ∧
 true = true ∧
 Q [.bool false] [(5, .var [.arr (3 : Nat) (Sh.int IntKind.i8) bd]), (10, .var [.bool false, .int .i64 n, .int .i64 (↑s.length : Int), .sl opS l]), (15, .var [.int .i64 (gtO l (IntKind.i64.wrap ((↑i : Int) - (1 : Int))).toNat).fst, .int .i64 (gtO l (IntKind.i64.wrap ((↑i : Int) - (1 : Int))).toNat).snd.fst, .int .i64 (gtO l (IntKind.i64.wrap ((↑i : Int) - (1 : Int))).toNat).snd.snd.fst, .int .u8 (gtO l (IntKind.i64.wrap ((↑i : Int) - (1 : Int))).toNat).snd.snd.snd.fst, .sl uB (gtO l (IntKind.i64.wrap ((↑i : Int) - (1 : Int))).toNat).snd.snd.snd.snd]), (16, .var [.int .i64 (gtO l (↑i : Int).toNat).fst, .int .i64 (gtO l (↑i : Int).toNat).snd.fst, .int .i64 (gtO l (↑i : Int).toNat).snd.snd.fst, .int .u8 (gtO l (↑i : Int).toNat).snd.snd.snd.fst, .sl uB (gtO l (↑i : Int).toNat).snd.snd.snd.snd])]) (bc (bif false then true else decide ((gtO l (↑i : Int).toNat).fst = (3 : Int))) (true = true ∧
 Q [.bool false] [(5, .var [.arr (3 : Nat) (Sh.int IntKind.i8) bd]), (10, .var [.bool false, .int .i64 n, .int .i64 (↑s.length : Int), .sl opS l]), (15, .var [.int .i64 (gtO l (IntKind.i64.wrap ((↑i : Int) - (1 : Int))).toNat).fst, .int .i64 (gtO l (IntKind.i64.wrap ((↑i : Int) - (1 : Int))).toNat).snd.fst, .int .i64 (gtO l (IntKind.i64.wrap ((↑i : Int) - (1 : Int))).toNat).snd.snd.fst, .int .u8 (gtO l (IntKind.i64.wrap ((↑i : Int) - (1 : Int))).toNat).snd.snd.snd.fst, .sl uB (gtO l (IntKind.i64.wrap ((↑i : Int) - (1 : Int))).toNat).snd.snd.snd.snd]), (16, .var [.int .i64 (gtO l (↑i : Int).toNat).fst, .int .i64 (gtO l (↑i : Int).toNat).snd.fst, .int .i64 (gtO l (↑i : Int).toNat).snd.snd.fst, .int .u8 (gtO l (↑i : Int).toNat).snd.snd.snd.fst, .sl uB (gtO l (↑i : Int).toNat).snd.snd.snd.snd])]) (bc (decide ((gtO l (IntKind.i64.wrap ((↑i : Int) - (1 : Int))).toNat).fst = (gtO l (↑i : Int).toNat).fst)) (bc (decide ((gtO l (IntKind.i64.wrap ((↑i : Int) - (1 : Int))).toNat).fst = (4 : Int))) (true = true ∧
 Q [.bool false] [(5, .var [.arr (3 : Nat) (Sh.int IntKind.i8) bd]), (10, .var [.bool false, .int .i64 n, .int .i64 (↑s.length : Int), .sl opS l]), (15, .var [.int .i64 (gtO l (IntKind.i64.wrap ((↑i : Int) - (1 : Int))).toNat).fst, .int .i64 (gtO l (IntKind.i64.wrap ((↑i : Int) - (1 : Int))).toNat).snd.fst, .int .i64 (gtO l (IntKind.i64.wrap ((↑i : Int) - (1 : Int))).toNat).snd.snd.fst, .int .u8 (gtO l (IntKind.i64.wrap ((↑i : Int) - (1 : Int))).toNat).snd.snd.snd.fst, .sl uB (gtO l (IntKind.i64.wrap ((↑i : Int) - (1 : Int))).toNat).snd.snd.snd.snd]), (16, .var [.int .i64 (gtO l (↑i : Int).toNat).fst, .int .i64 (gtO l (↑i : Int).toNat).snd.fst, .int .i64 (gtO l (↑i : Int).toNat).snd.snd.fst, .int .u8 (gtO l (↑i : Int).toNat).snd.snd.snd.fst, .sl uB (gtO l (↑i : Int).toNat).snd.snd.snd.snd])]) (bc (bif false then true else bif true then bif false then true else decide (IntKind.i64.wrap ((gtO l (IntKind.i64.wrap ((↑i : Int) - (1 : Int))).toNat).snd.fst + (gtO l (IntKind.i64.wrap ((↑i : Int) - (1 : Int))).toNat).snd.snd.fst) = (gtO l (↑i : Int).toNat).snd.fst) else false) (Q [.bool false] [(5, .var [.arr (3 : Nat) (Sh.int IntKind.i8) bd]), (10, .var [.bool false, .int .i64 n, .int .i64 (↑s.length : Int), .sl opS l]), (15, .var [.int .i64 (gtO l (IntKind.i64.wrap ((↑i : Int) - (1 : Int))).toNat).fst, .int .i64 (gtO l (IntKind.i64.wrap ((↑i : Int) - (1 : Int))).toNat).snd.fst, .int .i64 (gtO l (IntKind.i64.wrap ((↑i : Int) - (1 : Int))).toNat).snd.snd.fst, .int .u8 (gtO l (IntKind.i64.wrap ((↑i : Int) - (1 : Int))).toNat).snd.snd.snd.fst, .sl uB (gtO l (IntKind.i64.wrap ((↑i : Int) - (1 : Int))).toNat).snd.snd.snd.snd]), (16, .var [.int .i64 (gtO l (↑i : Int).toNat).fst, .int .i64 (gtO l (↑i : Int).toNat).snd.fst, .int .i64 (gtO l (↑i : Int).toNat).snd.snd.fst, .int .u8 (gtO l (↑i : Int).toNat).snd.snd.snd.fst, .sl uB (gtO l (↑i : Int).toNat).snd.snd.snd.snd])]) (R (hd Tryz.f6 0) { env := [(5, .ptr 5 0), (7, .bool true), (8, .int .i64 n), (9, .sl syS s), (10, .ptr 10 0), (14, .int .i64 (IntKind.i64.wrap ((↑i : Int) + (1 : Int))))], blk := [(5, .var [.arr (3 : Nat) (Sh.int IntKind.i8) bd]), (10, .var [.bool false, .int .i64 n, .int .i64 (↑s.length : Int), .sl opS l])] }))) (false = false ∧
 R (hd Tryz.f6 0) { env := [(5, .ptr 5 0), (7, .bool true), (8, .int .i64 n), (9, .sl syS s), (10, .ptr 10 0), (14, .int .i64 (IntKind.i64.wrap ((↑i : Int) + (1 : Int))))], blk := [(5, .var [.arr (3 : Nat) (Sh.int IntKind.i8) bd]), (10, .var [.bool false, .int .i64 n, .int .i64 (↑s.length : Int), .sl opS l])] })))) ((0 : Nat) = (List.replicate (0 : Nat) syS.dflt).length ∧
 (0 : Nat) = (0 : Nat) ∧
 (0 : Nat) + s.length < (2 : Nat) ^ (30 : Nat) ∧
 (24 : Nat) ≤ (2 : Nat) ^ (10 : Nat) ∧
 (0 : Int) ≤ (0 : Int) ∧
 (0 : Int) < (↑(3 : Nat) : Int) ∧
 0 < (3 : Nat) ∧
 (0 : Int) ≤ (1 : Int) ∧
 (1 : Int) < (↑(3 : Nat) : Int) ∧
 1 < (3 : Nat) ∧
 (0 : Nat) + (1 : Nat) ≤ ([(decide ((0 : Int) < gI bd (0)), IntKind.i64.wrap (gI bd (1)), (0 : Int))] : List syS.D).length ∧
 (0 : Nat) + s.length = (List.replicate (0 : Nat) syS.dflt ++ s).length ∧
 (0 : Nat) = (0 : Nat) ∧
 (0 : Nat) + s.length + (([(decide ((0 : Int) < gI bd (0)), IntKind.i64.wrap (gI bd (1)), (0 : Int))] : List syS.D)).length < (2 : Nat) ^ (30 : Nat) ∧
 (24 : Nat) ≤ (2 : Nat) ^ (10 : Nat) ∧
 (0 : Nat) + ((0 : Nat) + s.length + (([(decide ((0 : Int) < gI bd (0)), IntKind.i64.wrap (gI bd (1)), (0 : Int))] : List syS.D)).length) ≤ (List.replicate (0 : Nat) syS.dflt ++ s ++ ([(decide ((0 : Int) < gI bd (0)), IntKind.i64.wrap (gI bd (1)), (0 : Int))] : List syS.D)).length ∧
 (0 : Nat) + ((0 : Nat) + s.length + (([(decide ((0 : Int) < gI bd (0)), IntKind.i64.wrap (gI bd (1)), (0 : Int))] : List syS.D)).length) ≤ (List.replicate (0 : Nat) syS.dflt ++ s ++ ([(decide ((0 : Int) < gI bd (0)), IntKind.i64.wrap (gI bd (1)), (0 : Int))] : List syS.D)).length ∧
 (0 : Nat) + ((0 : Nat) + s.length + (([(decide ((0 : Int) < gI bd (0)), IntKind.i64.wrap (gI bd (1)), (0 : Int))] : List syS.D)).length) ≤ (List.replicate (0 : Nat) syS.dflt ++ s ++ ([(decide ((0 : Int) < gI bd (0)), IntKind.i64.wrap (gI bd (1)), (0 : Int))] : List syS.D)).length ∧
 ctOfA.pre (winL syS 0 ((0 : Nat) + s.length + (([(decide ((0 : Int) < gI bd (0)), IntKind.i64.wrap (gI bd (1)), (0 : Int))] : List syS.D)).length) (List.replicate (0 : Nat) syS.dflt ++ s ++ ([(decide ((0 : Int) < gI bd (0)), IntKind.i64.wrap (gI bd (1)), (0 : Int))] : List syS.D)), n, ()) ∧
 (0 : Int) ≤ (2 : Int) ∧
 (2 : Int) < (↑(3 : Nat) : Int) ∧
 2 < (3 : Nat) ∧
 ctOfA.pre (s, IntKind.i64.wrap ((-1 : Int) - IntKind.i64.wrap (IntKind.u8.wrap (gI bd (2)))), ()) ∧
 (0 : Int) ≤ (↑s.length : Int) ∧
 (↑s.length : Int) < (↑(winL syS 0 ((0 : Nat) + s.length + (([(decide ((0 : Int) < gI bd (0)), IntKind.i64.wrap (gI bd (1)), (0 : Int))] : List syS.D)).length) (List.replicate (0 : Nat) syS.dflt ++ s ++ ([(decide ((0 : Int) < gI bd (0)), IntKind.i64.wrap (gI bd (1)), (0 : Int))] : List syS.D))).length : Int) ∧
 ctRsy.pre ((gtY (winL syS 0 ((0 : Nat) + s.length + (([(decide ((0 : Int) < gI bd (0)), IntKind.i64.wrap (gI bd (1)), (0 : Int))] : List syS.D)).length) (List.replicate (0 : Nat) syS.dflt ++ s ++ ([(decide ((0 : Int) < gI bd (0)), IntKind.i64.wrap (gI bd (1)), (0 : Int))] : List syS.D))) (↑s.length : Int).toNat), n, ()) ∧
 bc (decide ((ofV (winL syS 0 ((0 : Nat) + s.length + (([(decide ((0 : Int) < gI bd (0)), IntKind.i64.wrap (gI bd (1)), (0 : Int))] : List syS.D)).length) (List.replicate (0 : Nat) syS.dflt ++ s ++ ([(decide ((0 : Int) < gI bd (0)), IntKind.i64.wrap (gI bd (1)), (0 : Int))] : List syS.D))) n).snd = (0 : Int)) == sOK n (gtY (winL syS 0 ((0 : Nat) + s.length + (([(decide ((0 : Int) < gI bd (0)), IntKind.i64.wrap (gI bd (1)), (0 : Int))] : List syS.D)).length) (List.replicate (0 : Nat) syS.dflt ++ s ++ ([(decide ((0 : Int) < gI bd (0)), IntKind.i64.wrap (gI bd (1)), (0 : Int))] : List syS.D))) (↑s.length : Int).toNat)) (bc (decide ((ofV (winL syS 0 ((0 : Nat) + s.length + (([(decide ((0 : Int) < gI bd (0)), IntKind.i64.wrap (gI bd (1)), (0 : Int))] : List syS.D)).length) (List.replicate (0 : Nat) syS.dflt ++ s ++ ([(decide ((0 : Int) < gI bd (0)), IntKind.i64.wrap (gI bd (1)), (0 : Int))] : List syS.D))) n).snd = (0 : Int))) (true = true ∧
 bc (decide ((ofV s (IntKind.i64.wrap ((-1 : Int) - IntKind.i64.wrap (IntKind.u8.wrap (gI bd (2)))))).snd = (60 : Int))) (Q [.bool true] [(5, .var [.arr (3 : Nat) (Sh.int IntKind.i8) bd]), (10, .var [.bool false, .int .i64 n, .int .i64 (↑s.length : Int), .sl opS l]), (18, .var [.bool (ofV (winL syS 0 ((0 : Nat) + s.length + (([(decide ((0 : Int) < gI bd (0)), IntKind.i64.wrap (gI bd (1)), (0 : Int))] : List syS.D)).length) (List.replicate (0 : Nat) syS.dflt ++ s ++ ([(decide ((0 : Int) < gI bd (0)), IntKind.i64.wrap (gI bd (1)), (0 : Int))] : List syS.D))) n).fst.fst, .int .i64 (ofV (winL syS 0 ((0 : Nat) + s.length + (([(decide ((0 : Int) < gI bd (0)), IntKind.i64.wrap (gI bd (1)), (0 : Int))] : List syS.D)).length) (List.replicate (0 : Nat) syS.dflt ++ s ++ ([(decide ((0 : Int) < gI bd (0)), IntKind.i64.wrap (gI bd (1)), (0 : Int))] : List syS.D))) n).fst.snd.fst, .int .i64 (ofV (winL syS 0 ((0 : Nat) + s.length + (([(decide ((0 : Int) < gI bd (0)), IntKind.i64.wrap (gI bd (1)), (0 : Int))] : List syS.D)).length) (List.replicate (0 : Nat) syS.dflt ++ s ++ ([(decide ((0 : Int) < gI bd (0)), IntKind.i64.wrap (gI bd (1)), (0 : Int))] : List syS.D))) n).fst.snd.snd.fst, .sl opS (ofV (winL syS 0 ((0 : Nat) + s.length + (([(decide ((0 : Int) < gI bd (0)), IntKind.i64.wrap (gI bd (1)), (0 : Int))] : List syS.D)).length) (List.replicate (0 : Nat) syS.dflt ++ s ++ ([(decide ((0 : Int) < gI bd (0)), IntKind.i64.wrap (gI bd (1)), (0 : Int))] : List syS.D))) n).fst.snd.snd.snd]), (20, .var [.bool (ofV s (IntKind.i64.wrap ((-1 : Int) - IntKind.i64.wrap (IntKind.u8.wrap (gI bd (2)))))).fst.fst, .int .i64 (ofV s (IntKind.i64.wrap ((-1 : Int) - IntKind.i64.wrap (IntKind.u8.wrap (gI bd (2)))))).fst.snd.fst, .int .i64 (ofV s (IntKind.i64.wrap ((-1 : Int) - IntKind.i64.wrap (IntKind.u8.wrap (gI bd (2)))))).fst.snd.snd.fst, .sl opS (ofV s (IntKind.i64.wrap ((-1 : Int) - IntKind.i64.wrap (IntKind.u8.wrap (gI bd (2)))))).fst.snd.snd.snd]), (124, .row 60 syS ([(decide ((0 : Int) < gI bd (0)), IntKind.i64.wrap (gI bd (1)), (0 : Int))] : List syS.D))]) (false = false ∧
 Q [.bool false] [(5, .var [.arr (3 : Nat) (Sh.int IntKind.i8) bd]), (10, .var [.bool false, .int .i64 n, .int .i64 (↑s.length : Int), .sl opS l]), (18, .var [.bool (ofV (winL syS 0 ((0 : Nat) + s.length + (([(decide ((0 : Int) < gI bd (0)), IntKind.i64.wrap (gI bd (1)), (0 : Int))] : List syS.D)).length) (List.replicate (0 : Nat) syS.dflt ++ s ++ ([(decide ((0 : Int) < gI bd (0)), IntKind.i64.wrap (gI bd (1)), (0 : Int))] : List syS.D))) n).fst.fst, .int .i64 (ofV (winL syS 0 ((0 : Nat) + s.length + (([(decide ((0 : Int) < gI bd (0)), IntKind.i64.wrap (gI bd (1)), (0 : Int))] : List syS.D)).length) (List.replicate (0 : Nat) syS.dflt ++ s ++ ([(decide ((0 : Int) < gI bd (0)), IntKind.i64.wrap (gI bd (1)), (0 : Int))] : List syS.D))) n).fst.snd.fst, .int .i64 (ofV (winL syS 0 ((0 : Nat) + s.length + (([(decide ((0 : Int) < gI bd (0)), IntKind.i64.wrap (gI bd (1)), (0 : Int))] : List syS.D)).length) (List.replicate (0 : Nat) syS.dflt ++ s ++ ([(decide ((0 : Int) < gI bd (0)), IntKind.i64.wrap (gI bd (1)), (0 : Int))] : List syS.D))) n).fst.snd.snd.fst, .sl opS (ofV (winL syS 0 ((0 : Nat) + s.length + (([(decide ((0 : Int) < gI bd (0)), IntKind.i64.wrap (gI bd (1)), (0 : Int))] : List syS.D)).length) (List.replicate (0 : Nat) syS.dflt ++ s ++ ([(decide ((0 : Int) < gI bd (0)), IntKind.i64.wrap (gI bd (1)), (0 : Int))] : List syS.D))) n).fst.snd.snd.snd]), (20, .var [.bool (ofV s (IntKind.i64.wrap ((-1 : Int) - IntKind.i64.wrap (IntKind.u8.wrap (gI bd (2)))))).fst.fst, .int .i64 (ofV s (IntKind.i64.wrap ((-1 : Int) - IntKind.i64.wrap (IntKind.u8.wrap (gI bd (2)))))).fst.snd.fst, .int .i64 (ofV s (IntKind.i64.wrap ((-1 : Int) - IntKind.i64.wrap (IntKind.u8.wrap (gI bd (2)))))).fst.snd.snd.fst, .sl opS (ofV s (IntKind.i64.wrap ((-1 : Int) - IntKind.i64.wrap (IntKind.u8.wrap (gI bd (2)))))).fst.snd.snd.snd]), (124, .row 60 syS ([(decide ((0 : Int) < gI bd (0)), IntKind.i64.wrap (gI bd (1)), (0 : Int))] : List syS.D))])) (bc (decide ((ofV (winL syS 0 ((0 : Nat) + s.length + (([(decide ((0 : Int) < gI bd (0)), IntKind.i64.wrap (gI bd (1)), (0 : Int))] : List syS.D)).length) (List.replicate (0 : Nat) syS.dflt ++ s ++ ([(decide ((0 : Int) < gI bd (0)), IntKind.i64.wrap (gI bd (1)), (0 : Int))] : List syS.D))) n).snd = (60 : Int))) (bc (decide ((ofV s (IntKind.i64.wrap ((-1 : Int) - IntKind.i64.wrap (IntKind.u8.wrap (gI bd (2)))))).snd = (60 : Int))) (Q [.bool true] [(5, .var [.arr (3 : Nat) (Sh.int IntKind.i8) bd]), (10, .var [.bool false, .int .i64 n, .int .i64 (↑s.length : Int), .sl opS l]), (18, .var [.bool (ofV (winL syS 0 ((0 : Nat) + s.length + (([(decide ((0 : Int) < gI bd (0)), IntKind.i64.wrap (gI bd (1)), (0 : Int))] : List syS.D)).length) (List.replicate (0 : Nat) syS.dflt ++ s ++ ([(decide ((0 : Int) < gI bd (0)), IntKind.i64.wrap (gI bd (1)), (0 : Int))] : List syS.D))) n).fst.fst, .int .i64 (ofV (winL syS 0 ((0 : Nat) + s.length + (([(decide ((0 : Int) < gI bd (0)), IntKind.i64.wrap (gI bd (1)), (0 : Int))] : List syS.D)).length) (List.replicate (0 : Nat) syS.dflt ++ s ++ ([(decide ((0 : Int) < gI bd (0)), IntKind.i64.wrap (gI bd (1)), (0 : Int))] : List syS.D))) n).fst.snd.fst, .int .i64 (ofV (winL syS 0 ((0 : Nat) + s.length + (([(decide ((0 : Int) < gI bd (0)), IntKind.i64.wrap (gI bd (1)), (0 : Int))] : List syS.D)).length) (List.replicate (0 : Nat) syS.dflt ++ s ++ ([(decide ((0 : Int) < gI bd (0)), IntKind.i64.wrap (gI bd (1)), (0 : Int))] : List syS.D))) n).fst.snd.snd.fst, .sl opS (ofV (winL syS 0 ((0 : Nat) + s.length + (([(decide ((0 : Int) < gI bd (0)), IntKind.i64.wrap (gI bd (1)), (0 : Int))] : List syS.D)).length) (List.replicate (0 : Nat) syS.dflt ++ s ++ ([(decide ((0 : Int) < gI bd (0)), IntKind.i64.wrap (gI bd (1)), (0 : Int))] : List syS.D))) n).fst.snd.snd.snd]), (20, .var [.bool (ofV s (IntKind.i64.wrap ((-1 : Int) - IntKind.i64.wrap (IntKind.u8.wrap (gI bd (2)))))).fst.fst, .int .i64 (ofV s (IntKind.i64.wrap ((-1 : Int) - IntKind.i64.wrap (IntKind.u8.wrap (gI bd (2)))))).fst.snd.fst, .int .i64 (ofV s (IntKind.i64.wrap ((-1 : Int) - IntKind.i64.wrap (IntKind.u8.wrap (gI bd (2)))))).fst.snd.snd.fst, .sl opS (ofV s (IntKind.i64.wrap ((-1 : Int) - IntKind.i64.wrap (IntKind.u8.wrap (gI bd (2)))))).fst.snd.snd.snd]), (124, .row 60 syS ([(decide ((0 : Int) < gI bd (0)), IntKind.i64.wrap (gI bd (1)), (0 : Int))] : List syS.D))]) (false = false ∧
 Q [.bool false] [(5, .var [.arr (3 : Nat) (Sh.int IntKind.i8) bd]), (10, .var [.bool false, .int .i64 n, .int .i64 (↑s.length : Int), .sl opS l]), (18, .var [.bool (ofV (winL syS 0 ((0 : Nat) + s.length + (([(decide ((0 : Int) < gI bd (0)), IntKind.i64.wrap (gI bd (1)), (0 : Int))] : List syS.D)).length) (List.replicate (0 : Nat) syS.dflt ++ s ++ ([(decide ((0 : Int) < gI bd (0)), IntKind.i64.wrap (gI bd (1)), (0 : Int))] : List syS.D))) n).fst.fst, .int .i64 (ofV (winL syS 0 ((0 : Nat) + s.length + (([(decide ((0 : Int) < gI bd (0)), IntKind.i64.wrap (gI bd (1)), (0 : Int))] : List syS.D)).length) (List.replicate (0 : Nat) syS.dflt ++ s ++ ([(decide ((0 : Int) < gI bd (0)), IntKind.i64.wrap (gI bd (1)), (0 : Int))] : List syS.D))) n).fst.snd.fst, .int .i64 (ofV (winL syS 0 ((0 : Nat) + s.length + (([(decide ((0 : Int) < gI bd (0)), IntKind.i64.wrap (gI bd (1)), (0 : Int))] : List syS.D)).length) (List.replicate (0 : Nat) syS.dflt ++ s ++ ([(decide ((0 : Int) < gI bd (0)), IntKind.i64.wrap (gI bd (1)), (0 : Int))] : List syS.D))) n).fst.snd.snd.fst, .sl opS (ofV (winL syS 0 ((0 : Nat) + s.length + (([(decide ((0 : Int) < gI bd (0)), IntKind.i64.wrap (gI bd (1)), (0 : Int))] : List syS.D)).length) (List.replicate (0 : Nat) syS.dflt ++ s ++ ([(decide ((0 : Int) < gI bd (0)), IntKind.i64.wrap (gI bd (1)), (0 : Int))] : List syS.D))) n).fst.snd.snd.snd]), (20, .var [.bool (ofV s (IntKind.i64.wrap ((-1 : Int) - IntKind.i64.wrap (IntKind.u8.wrap (gI bd (2)))))).fst.fst, .int .i64 (ofV s (IntKind.i64.wrap ((-1 : Int) - IntKind.i64.wrap (IntKind.u8.wrap (gI bd (2)))))).fst.snd.fst, .int .i64 (ofV s (IntKind.i64.wrap ((-1 : Int) - IntKind.i64.wrap (IntKind.u8.wrap (gI bd (2)))))).fst.snd.snd.fst, .sl opS (ofV s (IntKind.i64.wrap ((-1 : Int) - IntKind.i64.wrap (IntKind.u8.wrap (gI bd (2)))))).fst.snd.snd.snd]), (124, .row 60 syS ([(decide ((0 : Int) < gI bd (0)), IntKind.i64.wrap (gI bd (1)), (0 : Int))] : List syS.D))])) (false = false ∧
 false = false ∧
 Q [.bool false] [(5, .var [.arr (3 : Nat) (Sh.int IntKind.i8) bd]), (10, .var [.bool false, .int .i64 n, .int .i64 (↑s.length : Int), .sl opS l]), (18, .var [.bool (ofV (winL syS 0 ((0 : Nat) + s.length + (([(decide ((0 : Int) < gI bd (0)), IntKind.i64.wrap (gI bd (1)), (0 : Int))] : List syS.D)).length) (List.replicate (0 : Nat) syS.dflt ++ s ++ ([(decide ((0 : Int) < gI bd (0)), IntKind.i64.wrap (gI bd (1)), (0 : Int))] : List syS.D))) n).fst.fst, .int .i64 (ofV (winL syS 0 ((0 : Nat) + s.length + (([(decide ((0 : Int) < gI bd (0)), IntKind.i64.wrap (gI bd (1)), (0 : Int))] : List syS.D)).length) (List.replicate (0 : Nat) syS.dflt ++ s ++ ([(decide ((0 : Int) < gI bd (0)), IntKind.i64.wrap (gI bd (1)), (0 : Int))] : List syS.D))) n).fst.snd.fst, .int .i64 (ofV (winL syS 0 ((0 : Nat) + s.length + (([(decide ((0 : Int) < gI bd (0)), IntKind.i64.wrap (gI bd (1)), (0 : Int))] : List syS.D)).length) (List.replicate (0 : Nat) syS.dflt ++ s ++ ([(decide ((0 : Int) < gI bd (0)), IntKind.i64.wrap (gI bd (1)), (0 : Int))] : List syS.D))) n).fst.snd.snd.fst, .sl opS (ofV (winL syS 0 ((0 : Nat) + s.length + (([(decide ((0 : Int) < gI bd (0)), IntKind.i64.wrap (gI bd (1)), (0 : Int))] : List syS.D)).length) (List.replicate (0 : Nat) syS.dflt ++ s ++ ([(decide ((0 : Int) < gI bd (0)), IntKind.i64.wrap (gI bd (1)), (0 : Int))] : List syS.D))) n).fst.snd.snd.snd]), (20, .var [.bool (ofV s (IntKind.i64.wrap ((-1 : Int) - IntKind.i64.wrap (IntKind.u8.wrap (gI bd (2)))))).fst.fst, .int .i64 (ofV s (IntKind.i64.wrap ((-1 : Int) - IntKind.i64.wrap (IntKind.u8.wrap (gI bd (2)))))).fst.snd.fst, .int .i64 (ofV s (IntKind.i64.wrap ((-1 : Int) - IntKind.i64.wrap (IntKind.u8.wrap (gI bd (2)))))).fst.snd.snd.fst, .sl opS (ofV s (IntKind.i64.wrap ((-1 : Int) - IntKind.i64.wrap (IntKind.u8.wrap (gI bd (2)))))).fst.snd.snd.snd]), (124, .row 60 syS ([(decide ((0 : Int) < gI bd (0)), IntKind.i64.wrap (gI bd (1)), (0 : Int))] : List syS.D))]))) (false = false ∧
 false = false ∧
 false = false ∧
 Q [.bool false] [(5, .var [.arr (3 : Nat) (Sh.int IntKind.i8) bd]), (10, .var [.bool false, .int .i64 n, .int .i64 (↑s.length : Int), .sl opS l]), (18, .var [.bool (ofV (winL syS 0 ((0 : Nat) + s.length + (([(decide ((0 : Int) < gI bd (0)), IntKind.i64.wrap (gI bd (1)), (0 : Int))] : List syS.D)).length) (List.replicate (0 : Nat) syS.dflt ++ s ++ ([(decide ((0 : Int) < gI bd (0)), IntKind.i64.wrap (gI bd (1)), (0 : Int))] : List syS.D))) n).fst.fst, .int .i64 (ofV (winL syS 0 ((0 : Nat) + s.length + (([(decide ((0 : Int) < gI bd (0)), IntKind.i64.wrap (gI bd (1)), (0 : Int))] : List syS.D)).length) (List.replicate (0 : Nat) syS.dflt ++ s ++ ([(decide ((0 : Int) < gI bd (0)), IntKind.i64.wrap (gI bd (1)), (0 : Int))] : List syS.D))) n).fst.snd.fst, .int .i64 (ofV (winL syS 0 ((0 : Nat) + s.length + (([(decide ((0 : Int) < gI bd (0)), IntKind.i64.wrap (gI bd (1)), (0 : Int))] : List syS.D)).length) (List.replicate (0 : Nat) syS.dflt ++ s ++ ([(decide ((0 : Int) < gI bd (0)), IntKind.i64.wrap (gI bd (1)), (0 : Int))] : List syS.D))) n).fst.snd.snd.fst, .sl opS (ofV (winL syS 0 ((0 : Nat) + s.length + (([(decide ((0 : Int) < gI bd (0)), IntKind.i64.wrap (gI bd (1)), (0 : Int))] : List syS.D)).length) (List.replicate (0 : Nat) syS.dflt ++ s ++ ([(decide ((0 : Int) < gI bd (0)), IntKind.i64.wrap (gI bd (1)), (0 : Int))] : List syS.D))) n).fst.snd.snd.snd]), (20, .var [.bool (ofV s (IntKind.i64.wrap ((-1 : Int) - IntKind.i64.wrap (IntKind.u8.wrap (gI bd (2)))))).fst.fst, .int .i64 (ofV s (IntKind.i64.wrap ((-1 : Int) - IntKind.i64.wrap (IntKind.u8.wrap (gI bd (2)))))).fst.snd.fst, .int .i64 (ofV s (IntKind.i64.wrap ((-1 : Int) - IntKind.i64.wrap (IntKind.u8.wrap (gI bd (2)))))).fst.snd.snd.fst, .sl opS (ofV s (IntKind.i64.wrap ((-1 : Int) - IntKind.i64.wrap (IntKind.u8.wrap (gI bd (2)))))).fst.snd.snd.snd]), (124, .row 60 syS ([(decide ((0 : Int) < gI bd (0)), IntKind.i64.wrap (gI bd (1)), (0 : Int))] : List syS.D))]))) := by kernel_rfl
end Go.Proofs.YtikikmhlicoheaaGreatDoor
