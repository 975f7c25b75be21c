/-
  A part of the proof: what pieces of the program give; conditions: those of each theorem.
-/
import Derived.Test.YtikikmhlicoheaaGreatDoorQ1
import Derived.KernelRfl
import Derived.Test.YtikikmhlicoheaaGreatDoorHD
set_option linter.unusedVariables false
set_option linter.unusedSimpArgs false
namespace Go.Proofs.YtikikmhlicoheaaGreatDoor
open Go.Px Go.Ax
set_option maxRecDepth 100000
set_option maxRecDepth 100000
theorem vc_san  (Q : List SV → List (Nat × LB) → Prop) (R : List Item → PS → Prop) : sy tt G0 CN Tryz.f9.ntmps Tryz.f9.results.toList Q R 1000 [.code (bodyOf Tryz.f9)] (entry [] ()) =
    ((0 : Nat) + (2 : Nat) ≤ (((List.replicate (2 : Nat) uB.dflt).set (0 : Nat) (255 : Int)).set (1 : Nat) (1 : Int)).length ∧
 (0 : Nat) + (2 : Nat) ≤ (((List.replicate (2 : Nat) uB.dflt).set (0 : Nat) (255 : Int)).set (1 : Nat) (1 : Int)).length ∧
 (0 : Nat) + (3 : Nat) ≤ ((((List.replicate (3 : Nat) uB.dflt).set (0 : Nat) (1 : Int)).set (1 : Nat) (2 : Int)).set (2 : Nat) (3 : Int)).length ∧
 (0 : Nat) + (2 : Nat) ≤ (((List.replicate (2 : Nat) opS.dflt).set (0 : Nat) ((1 : Int), (1 : Int), (2 : Int), (0 : Int), [])).set (1 : Nat) ((3 : Int), (0 : Int), (2 : Int), (9 : Int), [])).length ∧
 ctAp.pre (winL uB (0 : Nat) (3 : Nat) ((((List.replicate (3 : Nat) uB.dflt).set (0 : Nat) (1 : Int)).set (1 : Nat) (2 : Int)).set (2 : Nat) (3 : Int)), (false, (3 : Int), (4 : Int), winL opS (0 : Nat) (2 : Nat) (((List.replicate (2 : Nat) opS.dflt).set (0 : Nat) ((1 : Int), (1 : Int), (2 : Int), (0 : Int), [])).set (1 : Nat) ((3 : Int), (0 : Int), (2 : Int), (9 : Int), []))), ()) ∧
 (0 : Nat) + (3 : Nat) ≤ ((((List.replicate (3 : Nat) uB.dflt).set (0 : Nat) (1 : Int)).set (1 : Nat) (2 : Int)).set (2 : Nat) (3 : Int)).length ∧
 (0 : Nat) + (1 : Nat) ≤ ([((2 : Int), (0 : Int), (2 : Int), (0 : Int), winL uB (0 : Nat) (2 : Nat) (((List.replicate (2 : Nat) uB.dflt).set (0 : Nat) (255 : Int)).set (1 : Nat) (1 : Int)))] : List opS.D).length ∧
 ctAp.pre (winL uB (0 : Nat) (3 : Nat) ((((List.replicate (3 : Nat) uB.dflt).set (0 : Nat) (1 : Int)).set (1 : Nat) (2 : Int)).set (2 : Nat) (3 : Int)), (false, (3 : Int), (2 : Int), ([((2 : Int), (0 : Int), (2 : Int), (0 : Int), winL uB (0 : Nat) (2 : Nat) (((List.replicate (2 : Nat) uB.dflt).set (0 : Nat) (255 : Int)).set (1 : Nat) (1 : Int)))] : List opS.D)), ()) ∧
 (0 : Nat) + (2 : Nat) ≤ (((List.replicate (2 : Nat) opS.dflt).set (0 : Nat) ((1 : Int), (1 : Int), (2 : Int), (0 : Int), [])).set (1 : Nat) ((3 : Int), (0 : Int), (2 : Int), (9 : Int), [])).length ∧
 ctSym.pre ((false, (3 : Int), (4 : Int), winL opS (0 : Nat) (2 : Nat) (((List.replicate (2 : Nat) opS.dflt).set (0 : Nat) ((1 : Int), (1 : Int), (2 : Int), (0 : Int), [])).set (1 : Nat) ((3 : Int), (0 : Int), (2 : Int), (9 : Int), []))), ()) ∧
 (0 : Nat) + (1 : Nat) ≤ ([((1 : Int), (2 : Int), (2 : Int), (0 : Int), [])] : List opS.D).length ∧
 ctChk.pre ((false, (3 : Int), (2 : Int), ([((1 : Int), (2 : Int), (2 : Int), (0 : Int), [])] : List opS.D)), ()) ∧
 (0 : Nat) + (1 : Nat) ≤ ([(7 : Int)] : List uB.D).length ∧
 (0 : Nat) + (1 : Nat) ≤ ([(7 : Int)] : List uB.D).length ∧
 (0 : Nat) + (1 : Nat) ≤ ([((4 : Int), (0 : Int), (1 : Int), (0 : Int), ([(7 : Int)] : List uB.D))] : List opS.D).length ∧
 ctChk.pre ((false, (3 : Int), (2 : Int), ([((4 : Int), (0 : Int), (1 : Int), (0 : Int), winL uB (0 : Nat) (1 : Nat) ([(7 : Int)] : List uB.D))] : List opS.D)), ()) ∧
 (0 : Nat) + (4 : Nat) ≤ (((((List.replicate (4 : Nat) syS.dflt).set (0 : Nat) (true, (1 : Int), (0 : Int))).set (1 : Nat) (true, (2 : Int), (0 : Int))).set (2 : Nat) (false, (0 : Int), (9 : Int))).set (3 : Nat) (false, (0 : Int), (9 : Int))).length ∧
 ctOf.pre (winL syS (0 : Nat) (4 : Nat) (((((List.replicate (4 : Nat) syS.dflt).set (0 : Nat) (true, (1 : Int), (0 : Int))).set (1 : Nat) (true, (2 : Int), (0 : Int))).set (2 : Nat) (false, (0 : Int), (9 : Int))).set (3 : Nat) (false, (0 : Int), (9 : Int))), (3 : Int), ()) ∧
 (0 : Int) ≤ (2 : Int) ∧
 (2 : Int) ≤ (↑(3 : Nat) : Int) ∧
 (0 : Nat) + (3 : Nat) ≤ ((((List.replicate (3 : Nat) uB.dflt).set (0 : Nat) (1 : Int)).set (1 : Nat) (2 : Int)).set (2 : Nat) (3 : Int)).length ∧
 (0 : Nat) + (0 : Nat) + (Int.toNat (2 : Int) - (0 : Nat)) ≤ ((((List.replicate (3 : Nat) uB.dflt).set (0 : Nat) (1 : Int)).set (1 : Nat) (2 : Int)).set (2 : Nat) (3 : Int)).length ∧
 (0 : Nat) + (2 : Nat) ≤ (((List.replicate (2 : Nat) opS.dflt).set (0 : Nat) ((1 : Int), (1 : Int), (2 : Int), (0 : Int), [])).set (1 : Nat) ((3 : Int), (0 : Int), (2 : Int), (9 : Int), [])).length ∧
 ctAp.pre (winL uB ((0 : Nat) + (0 : Nat)) (Int.toNat (2 : Int) - (0 : Nat)) ((((List.replicate (3 : Nat) uB.dflt).set (0 : Nat) (1 : Int)).set (1 : Nat) (2 : Int)).set (2 : Nat) (3 : Int)), (false, (3 : Int), (4 : Int), winL opS (0 : Nat) (2 : Nat) (((List.replicate (2 : Nat) opS.dflt).set (0 : Nat) ((1 : Int), (1 : Int), (2 : Int), (0 : Int), [])).set (1 : Nat) ((3 : Int), (0 : Int), (2 : Int), (9 : Int), []))), ()) ∧
 (0 : Nat) + (2 : Nat) ≤ (((List.replicate (2 : Nat) uB.dflt).set (0 : Nat) (9 : Int)).set (1 : Nat) (9 : Int)).length ∧
 (0 : Nat) + (2 : Nat) ≤ (((List.replicate (2 : Nat) uB.dflt).set (0 : Nat) (9 : Int)).set (1 : Nat) (9 : Int)).length ∧
 (0 : Nat) + (apV (winL uB (0 : Nat) (3 : Nat) ((((List.replicate (3 : Nat) uB.dflt).set (0 : Nat) (1 : Int)).set (1 : Nat) (2 : Int)).set (2 : Nat) (3 : Int))) (false, (3 : Int), (4 : Int), winL opS (0 : Nat) (2 : Nat) (((List.replicate (2 : Nat) opS.dflt).set (0 : Nat) ((1 : Int), (1 : Int), (2 : Int), (0 : Int), [])).set (1 : Nat) ((3 : Int), (0 : Int), (2 : Int), (9 : Int), [])))).fst.length ≤ (apV (winL uB (0 : Nat) (3 : Nat) ((((List.replicate (3 : Nat) uB.dflt).set (0 : Nat) (1 : Int)).set (1 : Nat) (2 : Int)).set (2 : Nat) (3 : Int))) (false, (3 : Int), (4 : Int), winL opS (0 : Nat) (2 : Nat) (((List.replicate (2 : Nat) opS.dflt).set (0 : Nat) ((1 : Int), (1 : Int), (2 : Int), (0 : Int), [])).set (1 : Nat) ((3 : Int), (0 : Int), (2 : Int), (9 : Int), [])))).fst.length ∧
 (0 : Nat) + (4 : Nat) ≤ (((((List.replicate (4 : Nat) uB.dflt).set (0 : Nat) (2 : Int)).set (1 : Nat) (3 : Int)).set (2 : Nat) (9 : Int)).set (3 : Nat) (9 : Int)).length ∧
 ctR2.pre (winL uB 0 (apV (winL uB (0 : Nat) (3 : Nat) ((((List.replicate (3 : Nat) uB.dflt).set (0 : Nat) (1 : Int)).set (1 : Nat) (2 : Int)).set (2 : Nat) (3 : Int))) (false, (3 : Int), (4 : Int), winL opS (0 : Nat) (2 : Nat) (((List.replicate (2 : Nat) opS.dflt).set (0 : Nat) ((1 : Int), (1 : Int), (2 : Int), (0 : Int), [])).set (1 : Nat) ((3 : Int), (0 : Int), (2 : Int), (9 : Int), [])))).fst.length (apV (winL uB (0 : Nat) (3 : Nat) ((((List.replicate (3 : Nat) uB.dflt).set (0 : Nat) (1 : Int)).set (1 : Nat) (2 : Int)).set (2 : Nat) (3 : Int))) (false, (3 : Int), (4 : Int), winL opS (0 : Nat) (2 : Nat) (((List.replicate (2 : Nat) opS.dflt).set (0 : Nat) ((1 : Int), (1 : Int), (2 : Int), (0 : Int), [])).set (1 : Nat) ((3 : Int), (0 : Int), (2 : Int), (9 : Int), [])))).fst, winL uB (0 : Nat) (4 : Nat) (((((List.replicate (4 : Nat) uB.dflt).set (0 : Nat) (2 : Int)).set (1 : Nat) (3 : Int)).set (2 : Nat) (9 : Int)).set (3 : Nat) (9 : Int)), ()) ∧
 (0 : Nat) + (apV (winL uB (0 : Nat) (3 : Nat) ((((List.replicate (3 : Nat) uB.dflt).set (0 : Nat) (1 : Int)).set (1 : Nat) (2 : Int)).set (2 : Nat) (3 : Int))) (false, (3 : Int), (2 : Int), ([((2 : Int), (0 : Int), (2 : Int), (0 : Int), winL uB (0 : Nat) (2 : Nat) (((List.replicate (2 : Nat) uB.dflt).set (0 : Nat) (255 : Int)).set (1 : Nat) (1 : Int)))] : List opS.D))).fst.length ≤ (apV (winL uB (0 : Nat) (3 : Nat) ((((List.replicate (3 : Nat) uB.dflt).set (0 : Nat) (1 : Int)).set (1 : Nat) (2 : Int)).set (2 : Nat) (3 : Int))) (false, (3 : Int), (2 : Int), ([((2 : Int), (0 : Int), (2 : Int), (0 : Int), winL uB (0 : Nat) (2 : Nat) (((List.replicate (2 : Nat) uB.dflt).set (0 : Nat) (255 : Int)).set (1 : Nat) (1 : Int)))] : List opS.D))).fst.length ∧
 (0 : Nat) + (2 : Nat) ≤ (((List.replicate (2 : Nat) uB.dflt).set (0 : Nat) (0 : Int)).set (1 : Nat) (3 : Int)).length ∧
 ctR2.pre (winL uB 0 (apV (winL uB (0 : Nat) (3 : Nat) ((((List.replicate (3 : Nat) uB.dflt).set (0 : Nat) (1 : Int)).set (1 : Nat) (2 : Int)).set (2 : Nat) (3 : Int))) (false, (3 : Int), (2 : Int), ([((2 : Int), (0 : Int), (2 : Int), (0 : Int), winL uB (0 : Nat) (2 : Nat) (((List.replicate (2 : Nat) uB.dflt).set (0 : Nat) (255 : Int)).set (1 : Nat) (1 : Int)))] : List opS.D))).fst.length (apV (winL uB (0 : Nat) (3 : Nat) ((((List.replicate (3 : Nat) uB.dflt).set (0 : Nat) (1 : Int)).set (1 : Nat) (2 : Int)).set (2 : Nat) (3 : Int))) (false, (3 : Int), (2 : Int), ([((2 : Int), (0 : Int), (2 : Int), (0 : Int), winL uB (0 : Nat) (2 : Nat) (((List.replicate (2 : Nat) uB.dflt).set (0 : Nat) (255 : Int)).set (1 : Nat) (1 : Int)))] : List opS.D))).fst, winL uB (0 : Nat) (2 : Nat) (((List.replicate (2 : Nat) uB.dflt).set (0 : Nat) (0 : Int)).set (1 : Nat) (3 : Int)), ()) ∧
 (0 : Nat) + (symV (false, (3 : Int), (4 : Int), winL opS (0 : Nat) (2 : Nat) (((List.replicate (2 : Nat) opS.dflt).set (0 : Nat) ((1 : Int), (1 : Int), (2 : Int), (0 : Int), [])).set (1 : Nat) ((3 : Int), (0 : Int), (2 : Int), (9 : Int), [])))).fst.length ≤ (symV (false, (3 : Int), (4 : Int), winL opS (0 : Nat) (2 : Nat) (((List.replicate (2 : Nat) opS.dflt).set (0 : Nat) ((1 : Int), (1 : Int), (2 : Int), (0 : Int), [])).set (1 : Nat) ((3 : Int), (0 : Int), (2 : Int), (9 : Int), [])))).fst.length ∧
 (0 : Nat) + (4 : Nat) ≤ (((((List.replicate (4 : Nat) syS.dflt).set (0 : Nat) (true, (1 : Int), (0 : Int))).set (1 : Nat) (true, (2 : Int), (0 : Int))).set (2 : Nat) (false, (0 : Int), (9 : Int))).set (3 : Nat) (false, (0 : Int), (9 : Int))).length ∧
 ctSS.pre (winL syS 0 (symV (false, (3 : Int), (4 : Int), winL opS (0 : Nat) (2 : Nat) (((List.replicate (2 : Nat) opS.dflt).set (0 : Nat) ((1 : Int), (1 : Int), (2 : Int), (0 : Int), [])).set (1 : Nat) ((3 : Int), (0 : Int), (2 : Int), (9 : Int), [])))).fst.length (symV (false, (3 : Int), (4 : Int), winL opS (0 : Nat) (2 : Nat) (((List.replicate (2 : Nat) opS.dflt).set (0 : Nat) ((1 : Int), (1 : Int), (2 : Int), (0 : Int), [])).set (1 : Nat) ((3 : Int), (0 : Int), (2 : Int), (9 : Int), [])))).fst, winL syS (0 : Nat) (4 : Nat) (((((List.replicate (4 : Nat) syS.dflt).set (0 : Nat) (true, (1 : Int), (0 : Int))).set (1 : Nat) (true, (2 : Int), (0 : Int))).set (2 : Nat) (false, (0 : Int), (9 : Int))).set (3 : Nat) (false, (0 : Int), (9 : Int))), ()) ∧
 (0 : Nat) + (2 : Nat) ≤ (((List.replicate (2 : Nat) opS.dflt).set (0 : Nat) ((1 : Int), (1 : Int), (2 : Int), (0 : Int), [])).set (1 : Nat) ((4 : Int), (0 : Int), (2 : Int), (0 : Int), winL uB (0 : Nat) (2 : Nat) (((List.replicate (2 : Nat) uB.dflt).set (0 : Nat) (9 : Int)).set (1 : Nat) (9 : Int)))).length ∧
 ctSm.pre (((ofV (winL syS (0 : Nat) (4 : Nat) (((((List.replicate (4 : Nat) syS.dflt).set (0 : Nat) (true, (1 : Int), (0 : Int))).set (1 : Nat) (true, (2 : Int), (0 : Int))).set (2 : Nat) (false, (0 : Int), (9 : Int))).set (3 : Nat) (false, (0 : Int), (9 : Int)))) (3 : Int)).fst.fst, (ofV (winL syS (0 : Nat) (4 : Nat) (((((List.replicate (4 : Nat) syS.dflt).set (0 : Nat) (true, (1 : Int), (0 : Int))).set (1 : Nat) (true, (2 : Int), (0 : Int))).set (2 : Nat) (false, (0 : Int), (9 : Int))).set (3 : Nat) (false, (0 : Int), (9 : Int)))) (3 : Int)).fst.snd.fst, (ofV (winL syS (0 : Nat) (4 : Nat) (((((List.replicate (4 : Nat) syS.dflt).set (0 : Nat) (true, (1 : Int), (0 : Int))).set (1 : Nat) (true, (2 : Int), (0 : Int))).set (2 : Nat) (false, (0 : Int), (9 : Int))).set (3 : Nat) (false, (0 : Int), (9 : Int)))) (3 : Int)).fst.snd.snd.fst, (ofV (winL syS (0 : Nat) (4 : Nat) (((((List.replicate (4 : Nat) syS.dflt).set (0 : Nat) (true, (1 : Int), (0 : Int))).set (1 : Nat) (true, (2 : Int), (0 : Int))).set (2 : Nat) (false, (0 : Int), (9 : Int))).set (3 : Nat) (false, (0 : Int), (9 : Int)))) (3 : Int)).fst.snd.snd.snd), (false, (3 : Int), (4 : Int), winL opS (0 : Nat) (2 : Nat) (((List.replicate (2 : Nat) opS.dflt).set (0 : Nat) ((1 : Int), (1 : Int), (2 : Int), (0 : Int), [])).set (1 : Nat) ((4 : Int), (0 : Int), (2 : Int), (0 : Int), winL uB (0 : Nat) (2 : Nat) (((List.replicate (2 : Nat) uB.dflt).set (0 : Nat) (9 : Int)).set (1 : Nat) (9 : Int))))), ()) ∧
 (0 : Nat) + (2 : Nat) ≤ (((List.replicate (2 : Nat) opS.dflt).set (0 : Nat) ((1 : Int), (1 : Int), (2 : Int), (0 : Int), [])).set (1 : Nat) ((3 : Int), (0 : Int), (2 : Int), (9 : Int), [])).length ∧
 ctCost.pre ((false, (3 : Int), (4 : Int), winL opS (0 : Nat) (2 : Nat) (((List.replicate (2 : Nat) opS.dflt).set (0 : Nat) ((1 : Int), (1 : Int), (2 : Int), (0 : Int), [])).set (1 : Nat) ((3 : Int), (0 : Int), (2 : Int), (9 : Int), []))), ()) ∧
 (0 : Nat) + (1 : Nat) ≤ ([((2 : Int), (0 : Int), (2 : Int), (0 : Int), winL uB (0 : Nat) (2 : Nat) (((List.replicate (2 : Nat) uB.dflt).set (0 : Nat) (255 : Int)).set (1 : Nat) (1 : Int)))] : List opS.D).length ∧
 ctCost.pre ((false, (3 : Int), (2 : Int), ([((2 : Int), (0 : Int), (2 : Int), (0 : Int), winL uB (0 : Nat) (2 : Nat) (((List.replicate (2 : Nat) uB.dflt).set (0 : Nat) (255 : Int)).set (1 : Nat) (1 : Int)))] : List opS.D)), ()) ∧
 (0 : Nat) + (2 : Nat) ≤ (((List.replicate (2 : Nat) opS.dflt).set (0 : Nat) ((1 : Int), (1 : Int), (2 : Int), (0 : Int), [])).set (1 : Nat) ((4 : Int), (0 : Int), (2 : Int), (0 : Int), winL uB (0 : Nat) (2 : Nat) (((List.replicate (2 : Nat) uB.dflt).set (0 : Nat) (9 : Int)).set (1 : Nat) (9 : Int)))).length ∧
 ctCost.pre ((false, (3 : Int), (4 : Int), winL opS (0 : Nat) (2 : Nat) (((List.replicate (2 : Nat) opS.dflt).set (0 : Nat) ((1 : Int), (1 : Int), (2 : Int), (0 : Int), [])).set (1 : Nat) ((4 : Int), (0 : Int), (2 : Int), (0 : Int), winL uB (0 : Nat) (2 : Nat) (((List.replicate (2 : Nat) uB.dflt).set (0 : Nat) (9 : Int)).set (1 : Nat) (9 : Int))))), ()) ∧
 ctWh.pre ((3 : Int), ()) ∧
 ctRw.pre ((3 : Int), ()) ∧
 ctSm.pre (((whV (3 : Int)).fst, (whV (3 : Int)).snd.fst, (whV (3 : Int)).snd.snd.fst, (whV (3 : Int)).snd.snd.snd), ((rwV (3 : Int)).fst, (rwV (3 : Int)).snd.fst, (rwV (3 : Int)).snd.snd.fst, (rwV (3 : Int)).snd.snd.snd), ()) ∧
 ctWh.pre ((0 : Int), ()) ∧
 ctSm.pre (((whV (0 : Int)).fst, (whV (0 : Int)).snd.fst, (whV (0 : Int)).snd.snd.fst, (whV (0 : Int)).snd.snd.snd), (false, (0 : Int), (0 : Int), []), ()) ∧
 Q [.bool (bif true then smB ((whV (0 : Int)).fst, (whV (0 : Int)).snd.fst, (whV (0 : Int)).snd.snd.fst, (whV (0 : Int)).snd.snd.snd) (false, (0 : Int), (0 : Int), []) else false)] [(2, .var [.bool false, .int .i64 3, .int .i64 4, .win true opS 23 0 (2 : Nat)]), (3, .var [.bool false, .int .i64 3, .int .i64 2, .win true opS 27 0 (1 : Nat)]), (14, .var [.bool (ofV (winL syS (0 : Nat) (4 : Nat) (((((List.replicate (4 : Nat) syS.dflt).set (0 : Nat) (true, (1 : Int), (0 : Int))).set (1 : Nat) (true, (2 : Int), (0 : Int))).set (2 : Nat) (false, (0 : Int), (9 : Int))).set (3 : Nat) (false, (0 : Int), (9 : Int)))) (3 : Int)).fst.fst, .int .i64 (ofV (winL syS (0 : Nat) (4 : Nat) (((((List.replicate (4 : Nat) syS.dflt).set (0 : Nat) (true, (1 : Int), (0 : Int))).set (1 : Nat) (true, (2 : Int), (0 : Int))).set (2 : Nat) (false, (0 : Int), (9 : Int))).set (3 : Nat) (false, (0 : Int), (9 : Int)))) (3 : Int)).fst.snd.fst, .int .i64 (ofV (winL syS (0 : Nat) (4 : Nat) (((((List.replicate (4 : Nat) syS.dflt).set (0 : Nat) (true, (1 : Int), (0 : Int))).set (1 : Nat) (true, (2 : Int), (0 : Int))).set (2 : Nat) (false, (0 : Int), (9 : Int))).set (3 : Nat) (false, (0 : Int), (9 : Int)))) (3 : Int)).fst.snd.snd.fst, .sl opS (ofV (winL syS (0 : Nat) (4 : Nat) (((((List.replicate (4 : Nat) syS.dflt).set (0 : Nat) (true, (1 : Int), (0 : Int))).set (1 : Nat) (true, (2 : Int), (0 : Int))).set (2 : Nat) (false, (0 : Int), (9 : Int))).set (3 : Nat) (false, (0 : Int), (9 : Int)))) (3 : Int)).fst.snd.snd.snd]), (18, .var [.bool false, .int .i64 3, .int .i64 4, .win true opS 80 0 (2 : Nat)]), (20, .row 5 uB ((((List.replicate (3 : Nat) uB.dflt).set (0 : Nat) (1 : Int)).set (1 : Nat) (2 : Int)).set (2 : Nat) (3 : Int))), (23, .row 55 opS (((List.replicate (2 : Nat) opS.dflt).set (0 : Nat) ((1 : Int), (1 : Int), (2 : Int), (0 : Int), [])).set (1 : Nat) ((3 : Int), (0 : Int), (2 : Int), (9 : Int), []))), (27, .row 55 opS ([((2 : Int), (0 : Int), (2 : Int), (0 : Int), winL uB (0 : Nat) (2 : Nat) (((List.replicate (2 : Nat) uB.dflt).set (0 : Nat) (255 : Int)).set (1 : Nat) (1 : Int)))] : List opS.D)), (48, .row 55 opS ([((1 : Int), (2 : Int), (2 : Int), (0 : Int), [])] : List opS.D)), (56, .row 55 opS ([((4 : Int), (0 : Int), (1 : Int), (0 : Int), ([(7 : Int)] : List uB.D))] : List opS.D)), (80, .row 55 opS (((List.replicate (2 : Nat) opS.dflt).set (0 : Nat) ((1 : Int), (1 : Int), (2 : Int), (0 : Int), [])).set (1 : Nat) ((4 : Int), (0 : Int), (2 : Int), (0 : Int), winL uB (0 : Nat) (2 : Nat) (((List.replicate (2 : Nat) uB.dflt).set (0 : Nat) (9 : Int)).set (1 : Nat) (9 : Int))))), (86, .row 5 uB (((((List.replicate (4 : Nat) uB.dflt).set (0 : Nat) (2 : Int)).set (1 : Nat) (3 : Int)).set (2 : Nat) (9 : Int)).set (3 : Nat) (9 : Int))), (95, .row 5 uB (((List.replicate (2 : Nat) uB.dflt).set (0 : Nat) (0 : Int)).set (1 : Nat) (3 : Int))), (108, .row 60 syS (((((List.replicate (4 : Nat) syS.dflt).set (0 : Nat) (true, (1 : Int), (0 : Int))).set (1 : Nat) (true, (2 : Int), (0 : Int))).set (2 : Nat) (false, (0 : Int), (9 : Int))).set (3 : Nat) (false, (0 : Int), (9 : Int)))), (1131072, .row 5 uB (apV (winL uB (0 : Nat) (3 : Nat) ((((List.replicate (3 : Nat) uB.dflt).set (0 : Nat) (1 : Int)).set (1 : Nat) (2 : Int)).set (2 : Nat) (3 : Int))) (false, (3 : Int), (4 : Int), winL opS (0 : Nat) (2 : Nat) (((List.replicate (2 : Nat) opS.dflt).set (0 : Nat) ((1 : Int), (1 : Int), (2 : Int), (0 : Int), [])).set (1 : Nat) ((3 : Int), (0 : Int), (2 : Int), (9 : Int), [])))).fst), (1155648, .row 5 uB (apV (winL uB (0 : Nat) (3 : Nat) ((((List.replicate (3 : Nat) uB.dflt).set (0 : Nat) (1 : Int)).set (1 : Nat) (2 : Int)).set (2 : Nat) (3 : Int))) (false, (3 : Int), (2 : Int), ([((2 : Int), (0 : Int), (2 : Int), (0 : Int), winL uB (0 : Nat) (2 : Nat) (((List.replicate (2 : Nat) uB.dflt).set (0 : Nat) (255 : Int)).set (1 : Nat) (1 : Int)))] : List opS.D))).fst), (1176128, .row 60 syS (symV (false, (3 : Int), (4 : Int), winL opS (0 : Nat) (2 : Nat) (((List.replicate (2 : Nat) opS.dflt).set (0 : Nat) ((1 : Int), (1 : Int), (2 : Int), (0 : Int), [])).set (1 : Nat) ((3 : Int), (0 : Int), (2 : Int), (9 : Int), [])))).fst), (1303104, .row 5 uB (apV (winL uB ((0 : Nat) + (0 : Nat)) (Int.toNat (2 : Int) - (0 : Nat)) ((((List.replicate (3 : Nat) uB.dflt).set (0 : Nat) (1 : Int)).set (1 : Nat) (2 : Int)).set (2 : Nat) (3 : Int))) (false, (3 : Int), (4 : Int), winL opS (0 : Nat) (2 : Nat) (((List.replicate (2 : Nat) opS.dflt).set (0 : Nat) ((1 : Int), (1 : Int), (2 : Int), (0 : Int), [])).set (1 : Nat) ((3 : Int), (0 : Int), (2 : Int), (9 : Int), [])))).fst)]) := by kernel_rfl
end Go.Proofs.YtikikmhlicoheaaGreatDoor
namespace Go.Proofs.YtikikmhlicoheaaGreatDoor
open Go.Px Go.Ax
set_option maxRecDepth 100000
attribute [local irreducible] Go.Px.sy Go.Px.syE
def ctSan : Ctr := ⟨[], fun _ => True, fun _ => [.bool true], fun _ => []⟩
instance (x : OpT) : Decidable (k14 x) := by unfold k14; infer_instance
instance (l : List SyT) : Decidable (preMd l) := by unfold preMd; infer_instance
theorem san_run (R : List Item → PS → Prop) : sy tt G0 CN Tryz.f9.ntmps Tryz.f9.results.toList (QC ctSan ()) R 1000 [.code (bodyOf Tryz.f9)] (entry [] ()) := by
  refine (vc_san _ _).mpr ?_
  repeat' first
    | exact trivial
    | decide +kernel
    | refine And.intro ?_ ?_
    | (refine QC.flat ?_ rfl rfl)
    | exact (rfl : _ = false)
    | (show List.length _ < 1099511627776; decide +kernel)
    | (refine congrArg (fun b => [SV.bool b]) ?_; decide +kernel)
theorem san_held : Held Tryz.prog G0 9 ctSan := Held.run cxN (fn := Tryz.f9) rfl rfl ⟨by decide, by decide⟩ fun x _ => san_run _
end Go.Proofs.YtikikmhlicoheaaGreatDoor
namespace Go.Proofs.YtikikmhlicoheaaGreatDoor
open Go.Px Go.Ax
set_option maxRecDepth 100000
set_option maxRecDepth 100000
theorem vc_input (x : List Int) (n : Int) (Q : List SV → List (Nat × LB) → Prop) (R : List Item → PS → Prop) : sy tt G0 [] Tryz.f11.ntmps Tryz.f11.results.toList Q R 1000 [.code (bodyOf Tryz.f11)] (entry [.sl uB, iI] (x, n, ())) =
    (R (hd Tryz.f11 0) { env := [(0, .sl uB x), (1, .int .i64 n), (4, .nils), (5, .win true uB 8 0 (0 : Nat)), (6, .int .i64 0), (8, .win true uB 8 0 (0 : Nat))], blk := [(8, .row 5 uB (List.replicate (0 : Nat) uB.dflt))] }) := by kernel_rfl
theorem vc_inputL (x o : List Int) (n : Int) (i : Nat) (Q : List SV → List (Nat × LB) → Prop) (R : List Item → PS → Prop) : sy tt G0 [] Tryz.f11.ntmps Tryz.f11.results.toList Q R 1000 (hd Tryz.f11 0) ⟨[(0, .sl uB x), (1, .int .i64 n), (5, .win true uB 5 0 o.length), (6, .int .i64 (i : Nat))], [(5, .row 5 uB o)]⟩ =
    (bc (decide ((↑i : Int) < n)) (bc (decide ((↑i : Int) < (↑x.length : Int))) ((0 : Int) ≤ (↑i : Int) ∧
 (↑i : Int) < (↑x.length : Int) ∧
 (0 : Nat) + (1 : Nat) ≤ ([(gtB x (↑i : Int).toNat)] : List uB.D).length ∧
 o.length = o.length ∧
 (0 : Nat) = (0 : Nat) ∧
 o.length + (([(gtB x (↑i : Int).toNat)] : List uB.D)).length < (2 : Nat) ^ (30 : Nat) ∧
 (1 : Nat) ≤ (2 : Nat) ^ (10 : Nat) ∧
 R (hd Tryz.f11 0) { env := [(0, .sl uB x), (1, .int .i64 n), (5, .win true uB 28 0 (o.length + (([(gtB x (↑i : Int).toNat)] : List uB.D)).length)), (6, .int .i64 (IntKind.i64.wrap ((↑i : Int) + (1 : Int)))), (7, .int .u8 (gtB x (↑i : Int).toNat)), (9, .int .i64 (↑i : Int)), (10, .int .i64 n), (11, .bool (decide ((↑i : Int) < n))), (12, .int .i64 (↑i : Int)), (13, .int .i64 (IntKind.i64.wrap ((↑i : Int) + (1 : Int)))), (14, .int .i64 (↑i : Int)), (15, .int .i64 (IntKind.i64.wrap ((7 : Int) * (↑i : Int)))), (16, .int .u8 (IntKind.u8.wrap (IntKind.i64.wrap ((7 : Int) * (↑i : Int))))), (17, .int .i64 (↑i : Int)), (18, .sl uB x), (19, .int .i64 (↑x.length : Int)), (20, .bool (decide ((↑i : Int) < (↑x.length : Int)))), (21, .sl uB x), (22, .int .i64 (↑i : Int)), (23, .elv uB (gtB x (↑i : Int).toNat)), (24, .int .u8 (gtB x (↑i : Int).toNat)), (25, .dead), (26, .int .u8 (gtB x (↑i : Int).toNat)), (27, .win true uB 27 0 (1 : Nat)), (28, .win true uB 28 0 (o.length + (([(gtB x (↑i : Int).toNat)] : List uB.D)).length))], blk := [(27, .row 5 uB ([(gtB x (↑i : Int).toNat)] : List uB.D)), (28, .row 5 uB (o ++ ([(gtB x (↑i : Int).toNat)] : List uB.D)))] }) ((0 : Nat) + (1 : Nat) ≤ ([(IntKind.u8.wrap (IntKind.i64.wrap ((7 : Int) * (↑i : Int))))] : List uB.D).length ∧
 o.length = o.length ∧
 (0 : Nat) = (0 : Nat) ∧
 o.length + (([(IntKind.u8.wrap (IntKind.i64.wrap ((7 : Int) * (↑i : Int))))] : List uB.D)).length < (2 : Nat) ^ (30 : Nat) ∧
 (1 : Nat) ≤ (2 : Nat) ^ (10 : Nat) ∧
 R (hd Tryz.f11 0) { env := [(0, .sl uB x), (1, .int .i64 n), (5, .win true uB 28 0 (o.length + (([(IntKind.u8.wrap (IntKind.i64.wrap ((7 : Int) * (↑i : Int))))] : List uB.D)).length)), (6, .int .i64 (IntKind.i64.wrap ((↑i : Int) + (1 : Int)))), (7, .int .u8 (IntKind.u8.wrap (IntKind.i64.wrap ((7 : Int) * (↑i : Int))))), (9, .int .i64 (↑i : Int)), (10, .int .i64 n), (11, .bool (decide ((↑i : Int) < n))), (12, .int .i64 (↑i : Int)), (13, .int .i64 (IntKind.i64.wrap ((↑i : Int) + (1 : Int)))), (14, .int .i64 (↑i : Int)), (15, .int .i64 (IntKind.i64.wrap ((7 : Int) * (↑i : Int)))), (16, .int .u8 (IntKind.u8.wrap (IntKind.i64.wrap ((7 : Int) * (↑i : Int))))), (17, .int .i64 (↑i : Int)), (18, .sl uB x), (19, .int .i64 (↑x.length : Int)), (20, .bool (decide ((↑i : Int) < (↑x.length : Int)))), (25, .dead), (26, .int .u8 (IntKind.u8.wrap (IntKind.i64.wrap ((7 : Int) * (↑i : Int))))), (27, .win true uB 27 0 (1 : Nat)), (28, .win true uB 28 0 (o.length + (([(IntKind.u8.wrap (IntKind.i64.wrap ((7 : Int) * (↑i : Int))))] : List uB.D)).length))], blk := [(27, .row 5 uB ([(IntKind.u8.wrap (IntKind.i64.wrap ((7 : Int) * (↑i : Int))))] : List uB.D)), (28, .row 5 uB (o ++ ([(IntKind.u8.wrap (IntKind.i64.wrap ((7 : Int) * (↑i : Int))))] : List uB.D)))] })) (Q [.win true uB 5 0 o.length] [(5, .row 5 uB o)])) := by kernel_rfl
end Go.Proofs.YtikikmhlicoheaaGreatDoor
namespace Go.Proofs.YtikikmhlicoheaaGreatDoor
open Go.Px Go.Ax
set_option maxRecDepth 100000
attribute [local irreducible] Go.Px.sy Go.Px.syE
theorem qc_row {ct : Ctr} {x : DL ct.args} {rs : List SV} {blk : List (Nat × LB)} {e : Sh} {et : TypeId} {a k : Nat} {xs : List e.D} (h : ct.out x = [.win true e 0 0 xs.length]) (hr : ct.rows x = [.row et e xs]) (hs : rs = [.win true e a 0 k]) (hk : k = xs.length) (hb : lk blk a = some (.row et e xs)) : QC ct x rs blk := by
  subst hs; subst hk
  refine ⟨fun i => if i = 0 then some a else none, ?_, ?_, fun i j b h1 h2 => ?_, by rw [hr]; rfl⟩
  · rw [h]
    exact ⟨_, _, rfl, .inl ⟨true, a, rfl, rfl, fun h => h⟩, rfl⟩
  · rw [hr]
    exact ⟨.inl ⟨a, rfl, hb⟩, trivial⟩
  · simp only at h1 h2
    split at h1
    · split at h2
      · omega
      · cases h2
    · cases h1
def inB (x : List Int) (i : Nat) : Int := if i < x.length then gtB x i else IntKind.u8.wrap (IntKind.i64.wrap (7 * (i : Int)))
def inpL (x : List Int) (n : Nat) : List Int := (List.range n).map (inB x)
theorem inpL_len (x : List Int) (n : Nat) : (inpL x n).length = n := by simp [inpL]
theorem inpL_succ (x : List Int) (i : Nat) : inpL x (i + 1) = inpL x i ++ [inB x i] := by simp [inpL, List.range_succ]
def preI (n : Int) : Prop := 0 ≤ n ∧ n < 16777216
def ctInp : Ctr := ⟨[.sl uB, iI], fun x => preI x.2.1, fun x => [.win true uB 0 0 (inpL x.1 x.2.1.toNat).length], fun x => [.row 5 uB (inpL x.1 x.2.1.toNat)]⟩
abbrev IQ (x : List Int) (n : Int) : List SV → List (Nat × LB) → Prop := QC ctInp (x, n, ())
theorem inp_loop (x : List Int) (n : Nat) (hn : n < 16777216) : ∀ (k i : Nat), n - i = k → i ≤ n →
    GD 11 Tryz.f11 (IQ x n) (hd Tryz.f11 0) ⟨[(0, .sl uB x), (1, .int .i64 (n : Nat)), (5, .win true uB 5 0 (inpL x i).length), (6, .int .i64 (i : Nat))], [(5, .row 5 uB (inpL x i))]⟩ := by
  intro k
  induction k with
  | zero =>
    intro i hk hi
    have hi : i = n := by omega
    subst hi
    refine sy_sound cx0 _ _ _ ((vc_inputL x (inpL x i) (i : Int) i _ _).mpr ?_)
    rw [decide_eq_false (by omega), bc_f]
    exact qc_row (e := uB) (et := 5) (a := 5) (xs := inpL x i) rfl rfl rfl rfl rfl
  | succ k ih =>
    intro i hk hi
    have nx := ih (i + 1) (by omega) (by omega)
    have hlen := inpL_len x i
    rw [inpL_succ] at nx
    refine sy_sound cx0 _ _ _ ((vc_inputL x (inpL x i) (n : Int) i _ _).mpr ?_)
    rw [decide_eq_true (show (i : Int) < (n : Int) by omega), bc_t, Int.toNat_natCast, IntWalk.i64_in ((i : Int) + 1) (by omega)]
    refine bc_of (fun h => ?_) (fun h => ?_)
    · have h : i < x.length := by have := of_decide_eq_true h; omega
      have e : inB x i = gtB x i := if_pos h
      rw [e] at nx
      refine ⟨by omega, by omega, Nat.le_refl 1, rfl, rfl, (show (inpL x i).length + 1 < 2 ^ 30 by omega), by decide, ?_⟩
      exact nx.onlyR [(5, 28)] rfl ⟨rfl, rfl, by rw [List.length_append]; rfl, rfl, trivial⟩ ⟨rfl, trivial⟩
    · have h : ¬ i < x.length := by have := of_decide_eq_false h; omega
      have e : inB x i = IntKind.u8.wrap (IntKind.i64.wrap (7 * (i : Int))) := if_neg h
      rw [e] at nx
      refine ⟨Nat.le_refl 1, rfl, rfl, (show (inpL x i).length + 1 < 2 ^ 30 by omega), by decide, ?_⟩
      exact nx.onlyR [(5, 28)] rfl ⟨rfl, rfl, by rw [List.length_append]; rfl, rfl, trivial⟩ ⟨rfl, trivial⟩
theorem inp_held : Held Tryz.prog G0 11 ctInp := by
  refine Held.run cx0 (fn := Tryz.f11) rfl rfl ⟨by decide, by decide⟩ ?_
  rintro ⟨x, n, ⟨⟩⟩ hp
  obtain ⟨h0, h1⟩ : preI n := hp
  obtain ⟨N, rfl⟩ := Int.eq_ofNat_of_zero_le h0
  refine (vc_input x (N : Int) _ _).mpr ?_
  exact (inp_loop x N (by omega) _ 0 rfl (by omega)).onlyR [(5, 8)] rfl ⟨rfl, rfl, rfl, rfl, trivial⟩ ⟨rfl, trivial⟩
end Go.Proofs.YtikikmhlicoheaaGreatDoor
namespace Go.Proofs.YtikikmhlicoheaaGreatDoor
open Go.Px Go.Ax
set_option maxRecDepth 100000
set_option maxRecDepth 100000
theorem vc_op (x : List Int) (n : Int) (Q : List SV → List (Nat × LB) → Prop) (R : List Item → PS → Prop) : sy tt G0 [] Tryz.f54.ntmps Tryz.f54.results.toList Q (fun it S => R it (keepS [2, 4, 5, 6] [2, 4, 5] S)) 1000 [.code (bodyOf Tryz.f54)] (entry [.arr 4 uB, iI] (x, n, ())) =
    ((0 : Int) ≤ (0 : Int) ∧
 (0 : Int) < (↑(4 : Nat) : Int) ∧
 0 < (4 : Nat) ∧
 (4 : Int) ≠ (0 : Int) ∧
 (0 : Int) ≤ (2 : Int) ∧
 (2 : Int) < (↑(4 : Nat) : Int) ∧
 2 < (4 : Nat) ∧
 (5 : Int) ≠ (0 : Int) ∧
 bc (decide (IntKind.i64.wrap ((1 : Int) + (IntKind.i64.wrap (gtB x (0))).tmod (4 : Int)) ≤ (2 : Int))) (bc (decide (n = (0 : Int))) (R (hd Tryz.f54 0) { env := [(2, .ptr 2 0), (4, .ptr 4 0), (5, .ptr 5 0), (6, .int .i64 0)], blk := [(2, .var [.arr (4 : Nat) uB x]), (4, .var [.int .i64 0, .int .i64 0, .int .i64 0, .int .u8 0, .nils]), (5, .var [.int .i64 4, .int .i64 0, .int .i64 (IntKind.i64.wrap ((1 : Int) + (IntKind.i64.wrap (gtB x (2))).tmod (5 : Int))), .int .u8 0, .nils])] }) ((0 : Int) ≤ (1 : Int) ∧
 (1 : Int) < (↑(4 : Nat) : Int) ∧
 1 < (4 : Nat) ∧
 n ≠ (0 : Int) ∧
 (0 : Int) ≤ (2 : Int) ∧
 (2 : Int) < (↑(4 : Nat) : Int) ∧
 2 < (4 : Nat) ∧
 IntKind.i64.wrap (n - (IntKind.i64.wrap (gtB x (1))).tmod n) ≠ (0 : Int) ∧
 (5 : Int) ≠ (0 : Int) ∧
 bc (decide (IntKind.i64.wrap ((1 : Int) + (IntKind.i64.wrap (gtB x (0))).tmod (4 : Int)) = (3 : Int))) ((0 : Int) ≤ (3 : Int) ∧
 (3 : Int) < (↑(4 : Nat) : Int) ∧
 3 < (4 : Nat) ∧
 R (hd Tryz.f54 0) { env := [(2, .ptr 2 0), (4, .ptr 4 0), (5, .ptr 5 0), (6, .int .i64 0)], blk := [(2, .var [.arr (4 : Nat) uB x]), (4, .var [.int .i64 0, .int .i64 0, .int .i64 0, .int .u8 0, .nils]), (5, .var [.int .i64 (IntKind.i64.wrap ((1 : Int) + (IntKind.i64.wrap (gtB x (0))).tmod (4 : Int))), .int .i64 ((IntKind.i64.wrap (gtB x (1))).tmod n), .int .i64 (IntKind.i64.wrap ((1 : Int) + ((IntKind.i64.wrap (gtB x (2))).tmod (IntKind.i64.wrap (n - (IntKind.i64.wrap (gtB x (1))).tmod n))).tmod (5 : Int))), .int .u8 (gtB x (3)), .nils])] }) (R (hd Tryz.f54 0) { env := [(2, .ptr 2 0), (4, .ptr 4 0), (5, .ptr 5 0), (6, .int .i64 0)], blk := [(2, .var [.arr (4 : Nat) uB x]), (4, .var [.int .i64 0, .int .i64 0, .int .i64 0, .int .u8 0, .nils]), (5, .var [.int .i64 (IntKind.i64.wrap ((1 : Int) + (IntKind.i64.wrap (gtB x (0))).tmod (4 : Int))), .int .i64 ((IntKind.i64.wrap (gtB x (1))).tmod n), .int .i64 (IntKind.i64.wrap ((1 : Int) + ((IntKind.i64.wrap (gtB x (2))).tmod (IntKind.i64.wrap (n - (IntKind.i64.wrap (gtB x (1))).tmod n))).tmod (5 : Int))), .int .u8 0, .nils])] }))) (bc (decide (IntKind.i64.wrap ((1 : Int) + (IntKind.i64.wrap (gtB x (0))).tmod (4 : Int)) = (3 : Int))) ((0 : Int) ≤ (3 : Int) ∧
 (3 : Int) < (↑(4 : Nat) : Int) ∧
 3 < (4 : Nat) ∧
 R (hd Tryz.f54 0) { env := [(2, .ptr 2 0), (4, .ptr 4 0), (5, .ptr 5 0), (6, .int .i64 0)], blk := [(2, .var [.arr (4 : Nat) uB x]), (4, .var [.int .i64 0, .int .i64 0, .int .i64 0, .int .u8 0, .nils]), (5, .var [.int .i64 (IntKind.i64.wrap ((1 : Int) + (IntKind.i64.wrap (gtB x (0))).tmod (4 : Int))), .int .i64 0, .int .i64 (IntKind.i64.wrap ((1 : Int) + (IntKind.i64.wrap (gtB x (2))).tmod (5 : Int))), .int .u8 (gtB x (3)), .nils])] }) (R (hd Tryz.f54 0) { env := [(2, .ptr 2 0), (4, .ptr 4 0), (5, .ptr 5 0), (6, .int .i64 0)], blk := [(2, .var [.arr (4 : Nat) uB x]), (4, .var [.int .i64 0, .int .i64 0, .int .i64 0, .int .u8 0, .nils]), (5, .var [.int .i64 (IntKind.i64.wrap ((1 : Int) + (IntKind.i64.wrap (gtB x (0))).tmod (4 : Int))), .int .i64 0, .int .i64 (IntKind.i64.wrap ((1 : Int) + (IntKind.i64.wrap (gtB x (2))).tmod (5 : Int))), .int .u8 0, .nils])] }))) := by kernel_rfl
theorem vc_opA (x : List Int) (k a n b : Int) (i : Nat) (Q : List SV → List (Nat × LB) → Prop) (R : List Item → PS → Prop) : sy tt G0 [] Tryz.f54.ntmps Tryz.f54.results.toList Q (fun it S => R it (keepS [2, 4, 5, 6] [2, 4, 5, 76] S)) 1000 (hd Tryz.f54 0) ⟨[(2, .ptr 2 0), (4, .ptr 4 0), (5, .ptr 5 0), (6, .int .i64 (i : Nat))], [(2, .var [.arr 4 uB x]), (4, .var [.int .i64 0, .int .i64 0, .int .i64 0, .int .u8 0, .nils]), (5, .var [.int .i64 k, .int .i64 a, .int .i64 n, .int .u8 b, .nils])]⟩ =
    (bc (decide ((↑i : Int) < n)) (bc (decide (k = (2 : Int))) (true = true ∧
 (0 : Int) ≤ (3 : Int) ∧
 (3 : Int) < (↑(4 : Nat) : Int) ∧
 3 < (4 : Nat) ∧
 (0 : Int) ≤ (0 : Int) ∧
 (0 : Int) < (↑(4 : Nat) : Int) ∧
 0 < (4 : Nat) ∧
 (4 : Int) ≠ (0 : Int) ∧
 (0 : Nat) + (1 : Nat) ≤ ([(IntKind.u8.wrap (gtB x (3) * IntKind.u8.wrap (IntKind.i64.wrap ((↑i : Int) + IntKind.i64.wrap ((IntKind.i64.wrap (gtB x (0))).tdiv (4 : Int))))))] : List uB.D).length ∧
 (([(IntKind.u8.wrap (gtB x (3) * IntKind.u8.wrap (IntKind.i64.wrap ((↑i : Int) + IntKind.i64.wrap ((IntKind.i64.wrap (gtB x (0))).tdiv (4 : Int))))))] : List uB.D)).length < (2 : Nat) ^ (30 : Nat) ∧
 (1 : Nat) ≤ (2 : Nat) ^ (10 : Nat) ∧
 R (hd Tryz.f54 0) { env := [(2, .ptr 2 0), (4, .ptr 4 0), (5, .ptr 5 0), (6, .int .i64 (IntKind.i64.wrap ((↑i : Int) + (1 : Int))))], blk := [(2, .var [.arr (4 : Nat) uB x]), (4, .var [.int .i64 0, .int .i64 0, .int .i64 0, .int .u8 0, .nils]), (5, .var [.int .i64 k, .int .i64 a, .int .i64 n, .int .u8 b, .win true uB 76 0 (1 : Nat)]), (76, .row 5 uB (([(IntKind.u8.wrap (gtB x (3) * IntKind.u8.wrap (IntKind.i64.wrap ((↑i : Int) + IntKind.i64.wrap ((IntKind.i64.wrap (gtB x (0))).tdiv (4 : Int))))))] : List uB.D)))] }) (bc (decide (k = (4 : Int))) ((0 : Int) ≤ (3 : Int) ∧
 (3 : Int) < (↑(4 : Nat) : Int) ∧
 3 < (4 : Nat) ∧
 (0 : Int) ≤ (0 : Int) ∧
 (0 : Int) < (↑(4 : Nat) : Int) ∧
 0 < (4 : Nat) ∧
 (4 : Int) ≠ (0 : Int) ∧
 (0 : Nat) + (1 : Nat) ≤ ([(IntKind.u8.wrap (gtB x (3) * IntKind.u8.wrap (IntKind.i64.wrap ((↑i : Int) + IntKind.i64.wrap ((IntKind.i64.wrap (gtB x (0))).tdiv (4 : Int))))))] : List uB.D).length ∧
 (([(IntKind.u8.wrap (gtB x (3) * IntKind.u8.wrap (IntKind.i64.wrap ((↑i : Int) + IntKind.i64.wrap ((IntKind.i64.wrap (gtB x (0))).tdiv (4 : Int))))))] : List uB.D)).length < (2 : Nat) ^ (30 : Nat) ∧
 (1 : Nat) ≤ (2 : Nat) ^ (10 : Nat) ∧
 R (hd Tryz.f54 0) { env := [(2, .ptr 2 0), (4, .ptr 4 0), (5, .ptr 5 0), (6, .int .i64 (IntKind.i64.wrap ((↑i : Int) + (1 : Int))))], blk := [(2, .var [.arr (4 : Nat) uB x]), (4, .var [.int .i64 0, .int .i64 0, .int .i64 0, .int .u8 0, .nils]), (5, .var [.int .i64 k, .int .i64 a, .int .i64 n, .int .u8 b, .win true uB 76 0 (1 : Nat)]), (76, .row 5 uB (([(IntKind.u8.wrap (gtB x (3) * IntKind.u8.wrap (IntKind.i64.wrap ((↑i : Int) + IntKind.i64.wrap ((IntKind.i64.wrap (gtB x (0))).tdiv (4 : Int))))))] : List uB.D)))] }) (Q [.agg [.int .i64 k, .int .i64 a, .int .i64 n, .int .u8 b, .nils]] [(2, .var [.arr (4 : Nat) uB x]), (4, .var [.int .i64 k, .int .i64 a, .int .i64 n, .int .u8 b, .nils]), (5, .var [.int .i64 k, .int .i64 a, .int .i64 n, .int .u8 b, .nils])]))) (false = false ∧
 Q [.agg [.int .i64 k, .int .i64 a, .int .i64 n, .int .u8 b, .nils]] [(2, .var [.arr (4 : Nat) uB x]), (4, .var [.int .i64 k, .int .i64 a, .int .i64 n, .int .u8 b, .nils]), (5, .var [.int .i64 k, .int .i64 a, .int .i64 n, .int .u8 b, .nils])])) := by kernel_rfl
theorem vc_opB (x d : List Int) (k a n b : Int) (i : Nat) (Q : List SV → List (Nat × LB) → Prop) (R : List Item → PS → Prop) : sy tt G0 [] Tryz.f54.ntmps Tryz.f54.results.toList Q (fun it S => R it (keepS [2, 4, 5, 6] [2, 4, 5, 76] S)) 1000 (hd Tryz.f54 0) ⟨[(2, .ptr 2 0), (4, .ptr 4 0), (5, .ptr 5 0), (6, .int .i64 (i : Nat))], [(2, .var [.arr 4 uB x]), (4, .var [.int .i64 0, .int .i64 0, .int .i64 0, .int .u8 0, .nils]), (5, .var [.int .i64 k, .int .i64 a, .int .i64 n, .int .u8 b, .win true uB 76 0 d.length]), (76, .row 5 uB d)]⟩ =
    (bc (decide ((↑i : Int) < n)) (bc (decide (k = (2 : Int))) (true = true ∧
 (0 : Int) ≤ (3 : Int) ∧
 (3 : Int) < (↑(4 : Nat) : Int) ∧
 3 < (4 : Nat) ∧
 (0 : Int) ≤ (0 : Int) ∧
 (0 : Int) < (↑(4 : Nat) : Int) ∧
 0 < (4 : Nat) ∧
 (4 : Int) ≠ (0 : Int) ∧
 (0 : Nat) + (1 : Nat) ≤ ([(IntKind.u8.wrap (gtB x (3) * IntKind.u8.wrap (IntKind.i64.wrap ((↑i : Int) + IntKind.i64.wrap ((IntKind.i64.wrap (gtB x (0))).tdiv (4 : Int))))))] : List uB.D).length ∧
 d.length = d.length ∧
 (0 : Nat) = (0 : Nat) ∧
 d.length + (([(IntKind.u8.wrap (gtB x (3) * IntKind.u8.wrap (IntKind.i64.wrap ((↑i : Int) + IntKind.i64.wrap ((IntKind.i64.wrap (gtB x (0))).tdiv (4 : Int))))))] : List uB.D)).length < (2 : Nat) ^ (30 : Nat) ∧
 (1 : Nat) ≤ (2 : Nat) ^ (10 : Nat) ∧
 R (hd Tryz.f54 0) { env := [(2, .ptr 2 0), (4, .ptr 4 0), (5, .ptr 5 0), (6, .int .i64 (IntKind.i64.wrap ((↑i : Int) + (1 : Int))))], blk := [(2, .var [.arr (4 : Nat) uB x]), (4, .var [.int .i64 0, .int .i64 0, .int .i64 0, .int .u8 0, .nils]), (5, .var [.int .i64 k, .int .i64 a, .int .i64 n, .int .u8 b, .win true uB 76 0 (d.length + (([(IntKind.u8.wrap (gtB x (3) * IntKind.u8.wrap (IntKind.i64.wrap ((↑i : Int) + IntKind.i64.wrap ((IntKind.i64.wrap (gtB x (0))).tdiv (4 : Int))))))] : List uB.D)).length)]), (76, .row 5 uB (d ++ ([(IntKind.u8.wrap (gtB x (3) * IntKind.u8.wrap (IntKind.i64.wrap ((↑i : Int) + IntKind.i64.wrap ((IntKind.i64.wrap (gtB x (0))).tdiv (4 : Int))))))] : List uB.D)))] }) (bc (decide (k = (4 : Int))) ((0 : Int) ≤ (3 : Int) ∧
 (3 : Int) < (↑(4 : Nat) : Int) ∧
 3 < (4 : Nat) ∧
 (0 : Int) ≤ (0 : Int) ∧
 (0 : Int) < (↑(4 : Nat) : Int) ∧
 0 < (4 : Nat) ∧
 (4 : Int) ≠ (0 : Int) ∧
 (0 : Nat) + (1 : Nat) ≤ ([(IntKind.u8.wrap (gtB x (3) * IntKind.u8.wrap (IntKind.i64.wrap ((↑i : Int) + IntKind.i64.wrap ((IntKind.i64.wrap (gtB x (0))).tdiv (4 : Int))))))] : List uB.D).length ∧
 d.length = d.length ∧
 (0 : Nat) = (0 : Nat) ∧
 d.length + (([(IntKind.u8.wrap (gtB x (3) * IntKind.u8.wrap (IntKind.i64.wrap ((↑i : Int) + IntKind.i64.wrap ((IntKind.i64.wrap (gtB x (0))).tdiv (4 : Int))))))] : List uB.D)).length < (2 : Nat) ^ (30 : Nat) ∧
 (1 : Nat) ≤ (2 : Nat) ^ (10 : Nat) ∧
 R (hd Tryz.f54 0) { env := [(2, .ptr 2 0), (4, .ptr 4 0), (5, .ptr 5 0), (6, .int .i64 (IntKind.i64.wrap ((↑i : Int) + (1 : Int))))], blk := [(2, .var [.arr (4 : Nat) uB x]), (4, .var [.int .i64 0, .int .i64 0, .int .i64 0, .int .u8 0, .nils]), (5, .var [.int .i64 k, .int .i64 a, .int .i64 n, .int .u8 b, .win true uB 76 0 (d.length + (([(IntKind.u8.wrap (gtB x (3) * IntKind.u8.wrap (IntKind.i64.wrap ((↑i : Int) + IntKind.i64.wrap ((IntKind.i64.wrap (gtB x (0))).tdiv (4 : Int))))))] : List uB.D)).length)]), (76, .row 5 uB (d ++ ([(IntKind.u8.wrap (gtB x (3) * IntKind.u8.wrap (IntKind.i64.wrap ((↑i : Int) + IntKind.i64.wrap ((IntKind.i64.wrap (gtB x (0))).tdiv (4 : Int))))))] : List uB.D)))] }) (Q [.agg [.int .i64 k, .int .i64 a, .int .i64 n, .int .u8 b, .win true uB 76 0 d.length]] [(2, .var [.arr (4 : Nat) uB x]), (4, .var [.int .i64 k, .int .i64 a, .int .i64 n, .int .u8 b, .win true uB 76 0 d.length]), (5, .var [.int .i64 k, .int .i64 a, .int .i64 n, .int .u8 b, .win true uB 76 0 d.length]), (76, .row 5 uB d)]))) (false = false ∧
 Q [.agg [.int .i64 k, .int .i64 a, .int .i64 n, .int .u8 b, .win true uB 76 0 d.length]] [(2, .var [.arr (4 : Nat) uB x]), (4, .var [.int .i64 k, .int .i64 a, .int .i64 n, .int .u8 b, .win true uB 76 0 d.length]), (5, .var [.int .i64 k, .int .i64 a, .int .i64 n, .int .u8 b, .win true uB 76 0 d.length]), (76, .row 5 uB d)])) := by kernel_rfl
theorem vc_opE (x d : List Int) (k a n b : Int) (i : Nat) (Q : List SV → List (Nat × LB) → Prop) (R : List Item → PS → Prop) : sy tt G0 [] Tryz.f54.ntmps Tryz.f54.results.toList Q (fun it S => R it (keepS [2, 4, 5, 6] [2, 4, 5, 76] S)) 1000 (hd Tryz.f54 0) ⟨[(2, .ptr 2 0), (4, .ptr 4 0), (5, .ptr 5 0), (6, .int .i64 (i : Nat))], [(2, .var [.arr 4 uB x]), (4, .var [.int .i64 0, .int .i64 0, .int .i64 0, .int .u8 0, .nils]), (5, .var [.int .i64 k, .int .i64 a, .int .i64 n, .int .u8 b, .sl uB d])]⟩ =
    (bc (decide ((↑i : Int) < n)) (bc (decide (k = (2 : Int))) (true = true ∧
 (0 : Int) ≤ (3 : Int) ∧
 (3 : Int) < (↑(4 : Nat) : Int) ∧
 3 < (4 : Nat) ∧
 (0 : Int) ≤ (0 : Int) ∧
 (0 : Int) < (↑(4 : Nat) : Int) ∧
 0 < (4 : Nat) ∧
 (4 : Int) ≠ (0 : Int) ∧
 False) (bc (decide (k = (4 : Int))) ((0 : Int) ≤ (3 : Int) ∧
 (3 : Int) < (↑(4 : Nat) : Int) ∧
 3 < (4 : Nat) ∧
 (0 : Int) ≤ (0 : Int) ∧
 (0 : Int) < (↑(4 : Nat) : Int) ∧
 0 < (4 : Nat) ∧
 (4 : Int) ≠ (0 : Int) ∧
 False) (Q [.agg [.int .i64 k, .int .i64 a, .int .i64 n, .int .u8 b, .sl uB d]] [(2, .var [.arr (4 : Nat) uB x]), (4, .var [.int .i64 k, .int .i64 a, .int .i64 n, .int .u8 b, .sl uB d]), (5, .var [.int .i64 k, .int .i64 a, .int .i64 n, .int .u8 b, .sl uB d])]))) (false = false ∧
 Q [.agg [.int .i64 k, .int .i64 a, .int .i64 n, .int .u8 b, .sl uB d]] [(2, .var [.arr (4 : Nat) uB x]), (4, .var [.int .i64 k, .int .i64 a, .int .i64 n, .int .u8 b, .sl uB d]), (5, .var [.int .i64 k, .int .i64 a, .int .i64 n, .int .u8 b, .sl uB d])])) := by kernel_rfl
end Go.Proofs.YtikikmhlicoheaaGreatDoor
namespace Go.Proofs.YtikikmhlicoheaaGreatDoor
open Go.Px Go.Ax
set_option maxRecDepth 100000
attribute [local irreducible] Go.Px.sy Go.Px.syE
def elA (x : List Int) (i : Nat) : Int := IntKind.u8.wrap (gtB x 3 * IntKind.u8.wrap (IntKind.i64.wrap ((i : Int) + IntKind.i64.wrap ((IntKind.i64.wrap (gtB x 0)).tdiv 4))))
def datA (x : List Int) (n : Nat) : List Int := (List.range n).map (elA x)
theorem datA_len (x : List Int) (n : Nat) : (datA x n).length = n := by simp [datA]
theorem datA_succ (x : List Int) (i : Nat) : datA x (i + 1) = datA x i ++ [elA x i] := by simp [datA, List.range_succ]
def datO (x : List Int) (k n : Int) : List Int := if k = 2 ∨ k = 4 then datA x n.toNat else []
def opV (x : List Int) (n : Int) : OpT :=
  if 1 + (gtB x 0).tmod 4 ≤ 2 then
    if n = 0 then (4, 0, 1 + (gtB x 2).tmod 5, 0, datO x 4 (1 + (gtB x 2).tmod 5))
    else (1 + (gtB x 0).tmod 4, (gtB x 1).tmod n, 1 + ((gtB x 2).tmod (n - (gtB x 1).tmod n)).tmod 5, 0, datO x (1 + (gtB x 0).tmod 4) (1 + ((gtB x 2).tmod (n - (gtB x 1).tmod n)).tmod 5))
  else (1 + (gtB x 0).tmod 4, 0, 1 + (gtB x 2).tmod 5, if 1 + (gtB x 0).tmod 4 = 3 then gtB x 3 else 0, datO x (1 + (gtB x 0).tmod 4) (1 + (gtB x 2).tmod 5))
def preB4 (x : List Int) : Prop := ∀ j, 0 ≤ gtB x j ∧ gtB x j < 256
def preN (n : Int) : Prop := 0 ≤ n ∧ n < 16777216
def ctOp : Ctr := ⟨[.arr 4 uB, iI], fun x => preB4 x.1 ∧ preN x.2.1, fun x => mdV (opV x.1 x.2.1), fun _ => []⟩
abbrev OpQ (o : OpT) : List SV → List (Nat × LB) → Prop := fun rs _ => MtL (fun _ => none) (mdV o) rs
theorem opB_loop (x : List Int) (k a b : Int) (n : Nat) (hn : n < 16777216) (hk : k = 2 ∨ k = 4) : ∀ (m i : Nat), n - i = m → i ≤ n →
    GD 54 Tryz.f54 (OpQ (k, a, n, b, datA x n)) (hd Tryz.f54 0) ⟨[(2, .ptr 2 0), (4, .ptr 4 0), (5, .ptr 5 0), (6, .int .i64 (i : Nat))], [(2, .var [.arr 4 uB x]), (4, .var [.int .i64 0, .int .i64 0, .int .i64 0, .int .u8 0, .nils]), (5, .var [.int .i64 k, .int .i64 a, .int .i64 (n : Nat), .int .u8 b, .win true uB 76 0 (datA x i).length]), (76, .row 5 uB (datA x i))]⟩ := by
  intro m
  induction m with
  | zero =>
    intro i hm hi
    have hi : i = n := by omega
    subst hi
    refine Good.frz (i := 76) (e := uB) (et := 5) (xs := datA x i) rfl (fun c hc => ?_) ?_
    · have hc : c ∈ [0 + (datA x i).length ≤ (datA x i).length] := hc
      rw [List.mem_singleton] at hc; subst hc; omega
    · have e : GD 54 Tryz.f54 (OpQ (k, a, i, b, datA x i)) (hd Tryz.f54 0) ⟨[(2, .ptr 2 0), (4, .ptr 4 0), (5, .ptr 5 0), (6, .int .i64 (i : Nat))], [(2, .var [.arr 4 uB x]), (4, .var [.int .i64 0, .int .i64 0, .int .i64 0, .int .u8 0, .nils]), (5, .var [.int .i64 k, .int .i64 a, .int .i64 (i : Nat), .int .u8 b, .sl uB (winL uB 0 (datA x i).length (datA x i))])]⟩ := by
        refine sy_goK cx0 (vc_opE x (winL uB 0 (datA x i).length (datA x i)) k a i b i _ _) ?_
        rw [decide_eq_false (by omega), bc_f, winA]
        exact ⟨rfl, _, _, rfl, ⟨_, rfl, _, _, rfl, rfl, _, _, rfl, rfl, _, _, rfl, rfl, _, _, rfl, rfl, _, _, rfl, .inl rfl, rfl⟩, rfl⟩
      exact e.only ⟨rfl, rfl, rfl, rfl, trivial⟩ ⟨rfl, rfl, rfl, trivial⟩
  | succ m ih =>
    intro i hm hi
    have nx := ih (i + 1) (by omega) (by omega)
    have hl := datA_len x i
    have hl2 := datA_len x (i + 1)
    rw [datA_succ] at nx hl2
    refine sy_goK cx0 (vc_opB x (datA x i) k a n b i _ _) ?_
    rw [decide_eq_true (show (i : Int) < (n : Int) by omega), bc_t, IntWalk.i64_in ((i : Int) + 1) (by omega)]
    have tl : GD 54 Tryz.f54 (OpQ (k, a, n, b, datA x n)) (hd Tryz.f54 0) ⟨[(2, .ptr 2 0), (4, .ptr 4 0), (5, .ptr 5 0), (6, .int .i64 ((i : Int) + 1))], [(2, .var [.arr 4 uB x]), (4, .var [.int .i64 0, .int .i64 0, .int .i64 0, .int .u8 0, .nils]), (5, .var [.int .i64 k, .int .i64 a, .int .i64 (n : Nat), .int .u8 b, .win true uB 76 0 ((datA x i).length + 1)]), (76, .row 5 uB (datA x i ++ [elA x i]))]⟩ :=
      nx.only ⟨rfl, rfl, rfl, rfl, trivial⟩ ⟨rfl, rfl, by rw [List.length_append]; rfl, rfl, trivial⟩
    have h30 : (datA x i).length + 1 < 2 ^ 30 := by omega
    rcases hk with rfl | rfl
    · rw [decide_eq_true rfl, bc_t]
      exact ⟨rfl, by decide, by decide, by decide, by decide, by decide, by decide, by decide, Nat.le_refl 1, rfl, rfl, h30, by decide, tl⟩
    · rw [decide_eq_false (by decide), bc_f, decide_eq_true rfl, bc_t]
      exact ⟨by decide, by decide, by decide, by decide, by decide, by decide, by decide, Nat.le_refl 1, rfl, rfl, h30, by decide, tl⟩
theorem opA_loop (x : List Int) (k a b : Int) (n : Nat) (hn : n < 16777216) (h0 : 0 < n) :
    GD 54 Tryz.f54 (OpQ (k, a, n, b, datO x k n)) (hd Tryz.f54 0) ⟨[(2, .ptr 2 0), (4, .ptr 4 0), (5, .ptr 5 0), (6, .int .i64 0)], [(2, .var [.arr 4 uB x]), (4, .var [.int .i64 0, .int .i64 0, .int .i64 0, .int .u8 0, .nils]), (5, .var [.int .i64 k, .int .i64 a, .int .i64 (n : Nat), .int .u8 b, .nils])]⟩ := by
  refine sy_goK cx0 (vc_opA x k a n b 0 _ _) ?_
  rw [decide_eq_true (show ((0 : Nat) : Int) < (n : Int) by omega), bc_t, IntWalk.i64_in (((0 : Nat) : Int) + 1) (by omega)]
  have tl : (k = 2 ∨ k = 4) → GD 54 Tryz.f54 (OpQ (k, a, n, b, datO x k n)) (hd Tryz.f54 0) ⟨[(2, .ptr 2 0), (4, .ptr 4 0), (5, .ptr 5 0), (6, .int .i64 (((0 : Nat) : Int) + 1))], [(2, .var [.arr 4 uB x]), (4, .var [.int .i64 0, .int .i64 0, .int .i64 0, .int .u8 0, .nils]), (5, .var [.int .i64 k, .int .i64 a, .int .i64 (n : Nat), .int .u8 b, .win true uB 76 0 1]), (76, .row 5 uB [elA x 0])]⟩ := fun hk => by
    have := opB_loop x k a b n hn hk _ 1 rfl (by omega)
    have e : datO x k n = datA x n := by unfold datO; rw [if_pos hk, Int.toNat_natCast]
    rw [e]
    exact this
  refine bc_of (fun h => ?_) (fun h => bc_of (fun h2 => ?_) (fun h2 => ?_))
  · have h : k = 2 := of_decide_eq_true h
    exact ⟨rfl, by decide, by decide, by decide, by decide, by decide, by decide, by decide, Nat.le_refl 1, (show 1 < 2 ^ 30 by decide), by decide, tl (.inl h)⟩
  · have h2 : k = 4 := of_decide_eq_true h2
    exact ⟨by decide, by decide, by decide, by decide, by decide, by decide, by decide, Nat.le_refl 1, (show 1 < 2 ^ 30 by decide), by decide, tl (.inr h2)⟩
  · have h : ¬ k = 2 := of_decide_eq_false h
    have h2 : ¬ k = 4 := of_decide_eq_false h2
    have e : datO x k n = [] := if_neg (by omega)
    rw [e]
    exact ⟨_, _, rfl, ⟨_, rfl, _, _, rfl, rfl, _, _, rfl, rfl, _, _, rfl, rfl, _, _, rfl, rfl, _, _, rfl, .inr ⟨rfl, rfl⟩, rfl⟩, rfl⟩
theorem tm_pos {a b : Int} (h : 0 ≤ a) (hb : 0 < b) : 0 ≤ a.tmod b ∧ a.tmod b < b := ⟨Int.tmod_nonneg _ h, Int.tmod_lt_of_pos _ hb⟩
theorem op_run (x : List Int) (n : Int) (hx : preB4 x) (hn0 : 0 ≤ n) (hn1 : n < 16777216) : GD 54 Tryz.f54 (QC ctOp (x, n, ())) [.code (bodyOf Tryz.f54)] (entry [.arr 4 uB, iI] (x, n, ())) := by
  have wx : ∀ j, IntKind.i64.wrap (gtB x j) = gtB x j := fun j => IntWalk.i64_in _ (by have := hx j; omega)
  have m0 := tm_pos (hx 0).1 (b := 4) (by decide)
  have m2 := tm_pos (hx 2).1 (b := 5) (by decide)
  have w0 : IntKind.i64.wrap (1 + (gtB x 0).tmod 4) = 1 + (gtB x 0).tmod 4 := IntWalk.i64_in _ (by omega)
  have w2 : IntKind.i64.wrap (1 + (gtB x 2).tmod 5) = 1 + (gtB x 2).tmod 5 := IntWalk.i64_in _ (by omega)
  have go : ∀ (k a len b : Int), 0 < len → len < 16777216 → opV x n = (k, a, len, b, datO x k len) → GD 54 Tryz.f54 (QC ctOp (x, n, ())) (hd Tryz.f54 0) ⟨[(2, .ptr 2 0), (4, .ptr 4 0), (5, .ptr 5 0), (6, .int .i64 0)], [(2, .var [.arr 4 uB x]), (4, .var [.int .i64 0, .int .i64 0, .int .i64 0, .int .u8 0, .nils]), (5, .var [.int .i64 k, .int .i64 a, .int .i64 len, .int .u8 b, .nils])]⟩ := fun k a len b h1 h2 h3 => by
    obtain ⟨N, rfl⟩ := Int.eq_ofNat_of_zero_le (Int.le_of_lt h1)
    refine (opA_loop x k a b N (by omega) (by omega)).post fun rs blk hq => QC.mt ?_ rfl
    show MtL _ (mdV (opV x n)) _
    rw [h3]; exact hq
  refine sy_goK cx0 (vc_op x n _ _) ?_
  simp only [wx, w0, w2]
  refine ⟨by decide, by decide, by decide, by decide, by decide, by decide, by decide, by decide, bc_of (fun h => ?_) (fun h => ?_)⟩
  · have h : 1 + (gtB x 0).tmod 4 ≤ 2 := of_decide_eq_true h
    refine bc_of (fun h2 => ?_) (fun h2 => ?_)
    · have h2 : n = 0 := of_decide_eq_true h2
      exact go _ _ _ _ (by omega) (by omega) (by unfold opV; rw [if_pos h, if_pos h2])
    · have h2 : ¬ n = 0 := of_decide_eq_false h2
      have m1 := tm_pos (hx 1).1 (b := n) (by omega)
      have w1 : IntKind.i64.wrap (n - (gtB x 1).tmod n) = n - (gtB x 1).tmod n := IntWalk.i64_in _ (by omega)
      have m3 := tm_pos (hx 2).1 (b := n - (gtB x 1).tmod n) (by omega)
      have m4 := tm_pos m3.1 (b := 5) (by decide)
      have w3 : IntKind.i64.wrap (1 + ((gtB x 2).tmod (n - (gtB x 1).tmod n)).tmod 5) = 1 + ((gtB x 2).tmod (n - (gtB x 1).tmod n)).tmod 5 := IntWalk.i64_in _ (by omega)
      rw [w1, w3]
      refine ⟨by decide, by decide, by decide, h2, by decide, by decide, by decide, by omega, by decide, bc_of (fun h3 => ?_) (fun h3 => ?_)⟩
      · have h3 : 1 + (gtB x 0).tmod 4 = 3 := of_decide_eq_true h3
        omega
      · exact go _ _ _ _ (by omega) (by omega) (by unfold opV; rw [if_pos h, if_neg h2])
  · have h : ¬ 1 + (gtB x 0).tmod 4 ≤ 2 := of_decide_eq_false h
    refine bc_of (fun h3 => ?_) (fun h3 => ?_)
    · have h3 : 1 + (gtB x 0).tmod 4 = 3 := of_decide_eq_true h3
      exact ⟨by decide, by decide, by decide, go _ _ _ _ (by omega) (by omega) (by unfold opV; rw [if_neg h, if_pos h3])⟩
    · have h3 : ¬ 1 + (gtB x 0).tmod 4 = 3 := of_decide_eq_false h3
      exact go _ _ _ _ (by omega) (by omega) (by unfold opV; rw [if_neg h, if_neg h3])
theorem op_held : Held Tryz.prog G0 54 ctOp :=
  Held.of cx0 (fn := Tryz.f54) rfl rfl ⟨by decide, by decide⟩ fun ⟨x, n, _⟩ hp => op_run x n hp.1 hp.2.1 hp.2.2
end Go.Proofs.YtikikmhlicoheaaGreatDoor
namespace Go.Proofs.YtikikmhlicoheaaGreatDoor
open Go.Px Go.Ax
set_option maxRecDepth 100000
abbrev a4S : Sh := .arr 4 uB
abbrev raS : Sh := .pair uB (.sl a4S)
def C54 : CV := [(54, .inl ctOp)]
theorem cx54 : CxOK Tryz.prog tt G0 C54 := cx0.cons op_held (fn := Tryz.f54) rfl rfl rfl
set_option maxRecDepth 100000
theorem vc_sized (z m : Int) (l : List (List Int)) (Q : List SV → List (Nat × LB) → Prop) (R : List Item → PS → Prop) : sy tt G0 C54 Tryz.f30.ntmps Tryz.f30.results.toList Q (fun it S => R it (keepS [1, 2, 4, 5, 6] [2, 4, 5, 32] S)) 1000 [.code (bodyOf Tryz.f30)] (entry [raS, iI] ((z, l), m, ())) =
    (R (hd Tryz.f30 0) { env := [(1, .int .i64 m), (2, .ptr 2 0), (4, .ptr 4 0), (5, .ptr 5 0), (6, .int .i64 0)], blk := [(2, .var [.int .u8 z, .sl a4S l]), (4, .var [.bool false, .int .i64 0, .int .i64 0, .nils]), (5, .var [.bool false, .int .i64 m, .int .i64 0, .nils])] }) := by kernel_rfl
theorem vc_szA (z m o : Int) (l : List (List Int)) (i : Nat) (Q : List SV → List (Nat × LB) → Prop) (R : List Item → PS → Prop) : sy tt G0 C54 Tryz.f30.ntmps Tryz.f30.results.toList Q (fun it S => R it (keepS [1, 2, 4, 5, 6] [2, 4, 5, 32] S)) 1000 (hd Tryz.f30 0) ⟨[(1, .int .i64 m), (2, .ptr 2 0), (4, .ptr 4 0), (5, .ptr 5 0), (6, .int .i64 (i : Nat))], [(2, .var [.int .u8 z, .sl a4S l]), (4, .var [.bool false, .int .i64 0, .int .i64 0, .nils]), (5, .var [.bool false, .int .i64 m, .int .i64 o, .nils])]⟩ =
    (bc (decide ((↑i : Int) < (↑l.length : Int))) (bc (decide ((↑i : Int) < (6 : Int))) ((0 : Int) ≤ (↑i : Int) ∧
 (↑i : Int) < (↑l.length : Int) ∧
 ctOp.pre (gt a4S l (↑i : Int).toNat, m, ()) ∧
 (0 : Nat) + (1 : Nat) ≤ ([(opV (gt a4S l (↑i : Int).toNat) m)] : List opS.D).length ∧
 (([(opV (gt a4S l (↑i : Int).toNat) m)] : List opS.D)).length < (2 : Nat) ^ (30 : Nat) ∧
 (56 : Nat) ≤ (2 : Nat) ^ (10 : Nat) ∧
 R (hd Tryz.f30 0) { env := [(1, .int .i64 m), (2, .ptr 2 0), (4, .ptr 4 0), (5, .ptr 5 0), (6, .int .i64 (IntKind.i64.wrap ((↑i : Int) + (1 : Int))))], blk := [(2, .var [.int .u8 z, .sl a4S l]), (4, .var [.bool false, .int .i64 0, .int .i64 0, .nils]), (5, .var [.bool false, .int .i64 m, .int .i64 (IntKind.i64.wrap (o + (opV (gt a4S l (↑i : Int).toNat) m).snd.snd.fst)), .win true opS 32 0 (1 : Nat)]), (32, .row 55 opS (([(opV (gt a4S l (↑i : Int).toNat) m)] : List opS.D)))] }) (Q [.agg [.bool false, .int .i64 m, .int .i64 o, .nils]] [(2, .var [.int .u8 z, .sl a4S l]), (4, .var [.bool false, .int .i64 m, .int .i64 o, .nils]), (5, .var [.bool false, .int .i64 m, .int .i64 o, .nils])])) (false = false ∧
 Q [.agg [.bool false, .int .i64 m, .int .i64 o, .nils]] [(2, .var [.int .u8 z, .sl a4S l]), (4, .var [.bool false, .int .i64 m, .int .i64 o, .nils]), (5, .var [.bool false, .int .i64 m, .int .i64 o, .nils])])) := by kernel_rfl
theorem vc_szB (z m o : Int) (l : List (List Int)) (d : List OpT) (i : Nat) (Q : List SV → List (Nat × LB) → Prop) (R : List Item → PS → Prop) : sy tt G0 C54 Tryz.f30.ntmps Tryz.f30.results.toList Q (fun it S => R it (keepS [1, 2, 4, 5, 6] [2, 4, 5, 32] S)) 1000 (hd Tryz.f30 0) ⟨[(1, .int .i64 m), (2, .ptr 2 0), (4, .ptr 4 0), (5, .ptr 5 0), (6, .int .i64 (i : Nat))], [(2, .var [.int .u8 z, .sl a4S l]), (4, .var [.bool false, .int .i64 0, .int .i64 0, .nils]), (5, .var [.bool false, .int .i64 m, .int .i64 o, .win true opS 32 0 d.length]), (32, .row 55 opS d)]⟩ =
    (bc (decide ((↑i : Int) < (↑l.length : Int))) (bc (decide ((↑i : Int) < (6 : Int))) ((0 : Int) ≤ (↑i : Int) ∧
 (↑i : Int) < (↑l.length : Int) ∧
 ctOp.pre (gt a4S l (↑i : Int).toNat, m, ()) ∧
 (0 : Nat) + (1 : Nat) ≤ ([(opV (gt a4S l (↑i : Int).toNat) m)] : List opS.D).length ∧
 d.length = d.length ∧
 (0 : Nat) = (0 : Nat) ∧
 d.length + (([(opV (gt a4S l (↑i : Int).toNat) m)] : List opS.D)).length < (2 : Nat) ^ (30 : Nat) ∧
 (56 : Nat) ≤ (2 : Nat) ^ (10 : Nat) ∧
 R (hd Tryz.f30 0) { env := [(1, .int .i64 m), (2, .ptr 2 0), (4, .ptr 4 0), (5, .ptr 5 0), (6, .int .i64 (IntKind.i64.wrap ((↑i : Int) + (1 : Int))))], blk := [(2, .var [.int .u8 z, .sl a4S l]), (4, .var [.bool false, .int .i64 0, .int .i64 0, .nils]), (5, .var [.bool false, .int .i64 m, .int .i64 (IntKind.i64.wrap (o + (opV (gt a4S l (↑i : Int).toNat) m).snd.snd.fst)), .win true opS 32 0 (d.length + (([(opV (gt a4S l (↑i : Int).toNat) m)] : List opS.D)).length)]), (32, .row 55 opS (d ++ ([(opV (gt a4S l (↑i : Int).toNat) m)] : List opS.D)))] }) (Q [.agg [.bool false, .int .i64 m, .int .i64 o, .win true opS 32 0 d.length]] [(2, .var [.int .u8 z, .sl a4S l]), (4, .var [.bool false, .int .i64 m, .int .i64 o, .win true opS 32 0 d.length]), (5, .var [.bool false, .int .i64 m, .int .i64 o, .win true opS 32 0 d.length]), (32, .row 55 opS d)])) (false = false ∧
 Q [.agg [.bool false, .int .i64 m, .int .i64 o, .win true opS 32 0 d.length]] [(2, .var [.int .u8 z, .sl a4S l]), (4, .var [.bool false, .int .i64 m, .int .i64 o, .win true opS 32 0 d.length]), (5, .var [.bool false, .int .i64 m, .int .i64 o, .win true opS 32 0 d.length]), (32, .row 55 opS d)])) := by kernel_rfl
theorem vc_szE (z m o : Int) (l : List (List Int)) (d : List OpT) (i : Nat) (Q : List SV → List (Nat × LB) → Prop) (R : List Item → PS → Prop) : sy tt G0 C54 Tryz.f30.ntmps Tryz.f30.results.toList Q (fun it S => R it (keepS [1, 2, 4, 5, 6] [2, 4, 5, 32] S)) 1000 (hd Tryz.f30 0) ⟨[(1, .int .i64 m), (2, .ptr 2 0), (4, .ptr 4 0), (5, .ptr 5 0), (6, .int .i64 (i : Nat))], [(2, .var [.int .u8 z, .sl a4S l]), (4, .var [.bool false, .int .i64 0, .int .i64 0, .nils]), (5, .var [.bool false, .int .i64 m, .int .i64 o, .sl opS d])]⟩ =
    (bc (decide ((↑i : Int) < (↑l.length : Int))) (bc (decide ((↑i : Int) < (6 : Int))) ((0 : Int) ≤ (↑i : Int) ∧
 (↑i : Int) < (↑l.length : Int) ∧
 ctOp.pre (gt a4S l (↑i : Int).toNat, m, ()) ∧
 False) (Q [.agg [.bool false, .int .i64 m, .int .i64 o, .sl opS d]] [(2, .var [.int .u8 z, .sl a4S l]), (4, .var [.bool false, .int .i64 m, .int .i64 o, .sl opS d]), (5, .var [.bool false, .int .i64 m, .int .i64 o, .sl opS d])])) (false = false ∧
 Q [.agg [.bool false, .int .i64 m, .int .i64 o, .sl opS d]] [(2, .var [.int .u8 z, .sl a4S l]), (4, .var [.bool false, .int .i64 m, .int .i64 o, .sl opS d]), (5, .var [.bool false, .int .i64 m, .int .i64 o, .sl opS d])])) := by kernel_rfl
end Go.Proofs.YtikikmhlicoheaaGreatDoor
namespace Go.Proofs.YtikikmhlicoheaaGreatDoor
open Go.Px Go.Ax
set_option maxRecDepth 100000
attribute [local irreducible] Go.Px.sy Go.Px.syE
def szL (l : List (List Int)) (m : Int) (i : Nat) : List OpT := (List.range i).map fun j => opV (gt a4S l j) m
def szK (l : List (List Int)) : Nat := min l.length 6
def szO (l : List (List Int)) (m : Int) : List OpT := szL l m (szK l)
def szV (l : List (List Int)) (m : Int) : PaT := (false, m, lenS (szO l m), szO l m)
theorem szL_len (l : List (List Int)) (m : Int) (i : Nat) : (szL l m i).length = i := by simp [szL]
theorem szL_succ (l : List (List Int)) (m : Int) (i : Nat) : szL l m (i + 1) = szL l m i ++ [opV (gt a4S l i) m] := by simp [szL, List.range_succ]
theorem lenS_app (a b : List OpT) : lenS (a ++ b) = lenS a + lenS b := by simp [lenS]
theorem opV_len {x : List Int} {m : Int} (hx : preB4 x) (h0 : 0 ≤ m) : 1 ≤ (opV x m).2.2.1 ∧ (opV x m).2.2.1 ≤ 5 := by
  have m2 := tm_pos (hx 2).1 (b := 5) (by decide)
  unfold opV
  split
  · split
    · show 1 ≤ 1 + _ ∧ 1 + _ ≤ 5
      omega
    · have m1 := tm_pos (hx 1).1 (b := m) (by omega)
      have m3 := tm_pos (hx 2).1 (b := m - (gtB x 1).tmod m) (by omega)
      have m4 := tm_pos m3.1 (b := 5) (by decide)
      show 1 ≤ 1 + _ ∧ 1 + _ ≤ 5
      omega
  · show 1 ≤ 1 + _ ∧ 1 + _ ≤ 5
    omega
theorem szL_sum {l : List (List Int)} {m : Int} (hl : ∀ j, preB4 (gt a4S l j)) (h0 : 0 ≤ m) : ∀ i, 0 ≤ lenS (szL l m i) ∧ lenS (szL l m i) ≤ 5 * i
  | 0 => by simp [szL, lenS]
  | i + 1 => by
    have := szL_sum hl h0 i
    have h := opV_len (hl i) h0
    rw [szL_succ, lenS_app]
    have e : lenS [opV (gt a4S l i) m] = (opV (gt a4S l i) m).2.2.1 := by simp [lenS]
    rw [e]
    omega
def preL4 (l : List (List Int)) : Prop := ∀ j, preB4 (gt a4S l j)
def preSz (l : List (List Int)) (m : Int) : Prop := preL4 l ∧ preN m ∧ l.length < 9223372036854775808
def ctSz : Ctr := ⟨[raS, iI], fun x => preSz x.1.2 x.2.1, fun x => [paV (szV x.1.2 x.2.1)], fun _ => []⟩
abbrev PaQ (p : PaT) : List SV → List (Nat × LB) → Prop := fun rs _ => MtL (fun _ => none) [paV p] rs
section
variable (z m : Int) (l : List (List Int)) (hl : preL4 l) (hm0 : 0 ≤ m) (hm1 : m < 16777216) (hn : l.length < 9223372036854775808)
abbrev szBs (i : Nat) (d : List OpT) (o : Int) : PS := ⟨[(1, .int .i64 m), (2, .ptr 2 0), (4, .ptr 4 0), (5, .ptr 5 0), (6, .int .i64 (i : Nat))], [(2, .var [.int .u8 z, .sl a4S l]), (4, .var [.bool false, .int .i64 0, .int .i64 0, .nils]), (5, .var [.bool false, .int .i64 m, .int .i64 o, .win true opS 32 0 d.length]), (32, .row 55 opS d)]⟩
include hl hm0 hm1 hn
theorem szB_end (i : Nat) (hi : i = szK l) : GD 30 Tryz.f30 (PaQ (szV l m)) (hd Tryz.f30 0) (szBs z m l i (szL l m i) (lenS (szL l m i))) := by
  have _ := And.intro hl (And.intro hm0 (And.intro hm1 hn))
  have hd : szL l m i = szO l m := by rw [hi]; rfl
  rw [hd]
  refine Good.frz (i := 32) (e := opS) (et := 55) (xs := szO l m) rfl (fun c hc => ?_) ?_
  · have hc : c ∈ [0 + (szO l m).length ≤ (szO l m).length] := hc
    rw [List.mem_singleton] at hc; subst hc; omega
  · have e : GD 30 Tryz.f30 (PaQ (szV l m)) (Px.hd Tryz.f30 0) ⟨[(1, .int .i64 m), (2, .ptr 2 0), (4, .ptr 4 0), (5, .ptr 5 0), (6, .int .i64 (i : Nat))], [(2, .var [.int .u8 z, .sl a4S l]), (4, .var [.bool false, .int .i64 0, .int .i64 0, .nils]), (5, .var [.bool false, .int .i64 m, .int .i64 (lenS (szO l m)), .sl opS (winL opS 0 (szO l m).length (szO l m))])]⟩ := by
      refine sy_goK cx54 (vc_szE z m (lenS (szO l m)) l (winL opS 0 (szO l m).length (szO l m)) i _ _) ?_
      rw [winA]
      have fin : PaQ (szV l m) [SV.agg [SV.bool false, SV.int IntKind.i64 m, SV.int IntKind.i64 (lenS (szO l m)), SV.sl opS (szO l m)]] [] := ⟨_, _, rfl, ⟨_, rfl, _, _, rfl, rfl, _, _, rfl, rfl, _, _, rfl, rfl, _, _, rfl, .inl rfl, rfl⟩, rfl⟩
      refine bc_of (fun h => bc_of (fun h2 => ?_) (fun h2 => fin)) (fun h => ⟨rfl, fin⟩)
      have h := of_decide_eq_true h
      have h2 := of_decide_eq_true h2
      unfold szK at hi
      omega
    exact e.only ⟨rfl, rfl, rfl, rfl, rfl, trivial⟩ ⟨rfl, rfl, rfl, trivial⟩
theorem szB_loop : ∀ (k i : Nat), szK l - i = k → i ≤ szK l → GD 30 Tryz.f30 (PaQ (szV l m)) (hd Tryz.f30 0) (szBs z m l i (szL l m i) (lenS (szL l m i))) := by
  intro k
  induction k with
  | zero => intro i hk hi; exact szB_end z m l hl hm0 hm1 hn i (by omega)
  | succ k ih =>
    intro i hk hi
    have nx := ih (i + 1) (by omega) (by omega)
    have hs := szL_sum hl hm0 i
    have hs2 := szL_sum hl hm0 (i + 1)
    have h6 : i < l.length ∧ i < 6 := by unfold szK at hk hi; omega
    rw [szL_succ, lenS_app] at nx hs2
    have e1 : lenS [opV (gt a4S l i) m] = (opV (gt a4S l i) m).2.2.1 := by simp [lenS]
    rw [e1] at nx hs2
    refine sy_goK cx54 (vc_szB z m (lenS (szL l m i)) l (szL l m i) i _ _) ?_
    rw [decide_eq_true (show (i : Int) < (l.length : Int) by omega), bc_t, decide_eq_true (show (i : Int) < (6 : Int) by omega), bc_t, Int.toNat_natCast, IntWalk.i64_in ((i : Int) + 1) (by omega), IntWalk.i64_in (lenS (szL l m i) + (opV (gt a4S l i) m).2.2.1) (by omega)]
    refine ⟨by omega, by omega, ⟨hl i, hm0, hm1⟩, Nat.le_refl 1, rfl, rfl, ?_, by decide, nx.only ⟨rfl, rfl, rfl, rfl, rfl, trivial⟩ ⟨rfl, rfl, by rw [List.length_append]; rfl, rfl, trivial⟩⟩
    show (szL l m i).length + 1 < 2 ^ 30
    rw [szL_len]; omega
theorem szA_loop : GD 30 Tryz.f30 (PaQ (szV l m)) (hd Tryz.f30 0) ⟨[(1, .int .i64 m), (2, .ptr 2 0), (4, .ptr 4 0), (5, .ptr 5 0), (6, .int .i64 0)], [(2, .var [.int .u8 z, .sl a4S l]), (4, .var [.bool false, .int .i64 0, .int .i64 0, .nils]), (5, .var [.bool false, .int .i64 m, .int .i64 0, .nils])]⟩ := by
  refine sy_goK cx54 (vc_szA z m 0 l 0 _ _) ?_
  refine bc_of (fun h => bc_of (fun h2 => ?_) (fun h2 => ?_)) (fun h => ⟨rfl, ?_⟩)
  · have h := of_decide_eq_true h
    have nx := szB_loop z m l hl hm0 hm1 hn _ 1 rfl (by unfold szK; omega)
    have hs := opV_len (hl 0) hm0
    have e0 : szL l m 1 = [opV (gt a4S l 0) m] := rfl
    have e1 : lenS [opV (gt a4S l 0) m] = (opV (gt a4S l 0) m).2.2.1 := by simp [lenS]
    rw [e0, e1] at nx
    rw [Int.toNat_natCast, IntWalk.i64_in (((0 : Nat) : Int) + 1) (by omega), IntWalk.i64_in (0 + (opV (gt a4S l 0) m).2.2.1) (by omega), Int.zero_add]
    exact ⟨by omega, by omega, ⟨hl 0, hm0, hm1⟩, Nat.le_refl 1, (show 1 < 2 ^ 30 by decide), by decide, nx.only ⟨rfl, rfl, rfl, rfl, rfl, trivial⟩ ⟨rfl, rfl, rfl, rfl, trivial⟩⟩
  · exact absurd (of_decide_eq_false h2) (by decide)
  · have h := of_decide_eq_false h
    have e : szO l m = [] := by
      have : l.length = 0 := by omega
      unfold szO szK; rw [this]; rfl
    show MtL _ [paV (szV l m)] _
    unfold szV
    rw [e]
    exact ⟨_, _, rfl, ⟨_, rfl, _, _, rfl, rfl, _, _, rfl, rfl, _, _, rfl, rfl, _, _, rfl, .inr ⟨rfl, rfl⟩, rfl⟩, rfl⟩
end
theorem sz_held : Held Tryz.prog G0 30 ctSz :=
  Held.of cx54 (fn := Tryz.f30) rfl rfl ⟨by decide, by decide⟩ fun ⟨⟨z, l⟩, m, _⟩ hp =>
    sy_goK cx54 (vc_sized z m l _ _) ((szA_loop z m l hp.1 hp.2.1.1 hp.2.1.2 hp.2.2).post fun rs blk hq => QC.mt hq rfl)
end Go.Proofs.YtikikmhlicoheaaGreatDoor
namespace Go.Proofs.YtikikmhlicoheaaGreatDoor
open Go.Px Go.Ax
set_option maxRecDepth 100000
def C30 : CV := [(30, .inl ctSz)]
theorem cx30 : CxOK Tryz.prog tt G0 C30 := cx0.cons sz_held (fn := Tryz.f30) rfl rfl rfl
set_option maxRecDepth 100000
theorem vc_made6 (z : Int) (l : List (List Int)) (Q : List SV → List (Nat × LB) → Prop) (R : List Item → PS → Prop) : sy tt G0 C30 Tryz.f10.ntmps Tryz.f10.results.toList Q R 1000 [.code (bodyOf Tryz.f10)] (entry [raS] ((z, l), ())) =
    ((13 : Int) ≠ (0 : Int) ∧
 ctSz.pre ((z, l), (IntKind.i64.wrap z).tmod (13 : Int), ()) ∧
 Q [.agg [.bool (szV l ((IntKind.i64.wrap z).tmod (13 : Int))).fst, .int .i64 (szV l ((IntKind.i64.wrap z).tmod (13 : Int))).snd.fst, .int .i64 (szV l ((IntKind.i64.wrap z).tmod (13 : Int))).snd.snd.fst, .sl opS (szV l ((IntKind.i64.wrap z).tmod (13 : Int))).snd.snd.snd]] [(1, .var [.int .u8 z, .sl (Sh.arr (4 : Nat) uB) l]), (2, .var [.bool (szV l ((IntKind.i64.wrap z).tmod (13 : Int))).fst, .int .i64 (szV l ((IntKind.i64.wrap z).tmod (13 : Int))).snd.fst, .int .i64 (szV l ((IntKind.i64.wrap z).tmod (13 : Int))).snd.snd.fst, .sl opS (szV l ((IntKind.i64.wrap z).tmod (13 : Int))).snd.snd.snd])]) := by kernel_rfl
end Go.Proofs.YtikikmhlicoheaaGreatDoor
namespace Go.Proofs.YtikikmhlicoheaaGreatDoor
open Go.Px Go.Ax
set_option maxRecDepth 100000
attribute [local irreducible] Go.Px.sy Go.Px.syE
def preM6 (z : Int) (l : List (List Int)) : Prop := (0 ≤ z ∧ z < 256) ∧ preL4 l ∧ l.length < 9223372036854775808
def ctM6 : Ctr := ⟨[raS], fun x => preM6 x.1.1 x.1.2, fun x => [paV (szV x.1.2 (x.1.1 % 13))], fun _ => []⟩
theorem made6_run (z : Int) (l : List (List Int)) (hz : 0 ≤ z ∧ z < 256) (hl : preL4 l) (hn : l.length < 9223372036854775808) : GD 10 Tryz.f10 (QC ctM6 ((z, l), ())) [.code (bodyOf Tryz.f10)] (entry [raS] ((z, l), ())) := by
  refine sy_sound cx30 _ _ _ ((vc_made6 z l _ _).mpr ?_)
  have w : (IntKind.i64.wrap z).tmod 13 = z % 13 := by rw [IntWalk.i64_in z (by omega), Int.tmod_eq_emod_of_nonneg hz.1]
  rw [w]
  exact ⟨by decide, ⟨hl, (show preN (z % 13) from ⟨by omega, by omega⟩), hn⟩, QC.flat rfl rfl rfl⟩
theorem made6_held : Held Tryz.prog G0 10 ctM6 :=
  Held.of cx30 (fn := Tryz.f10) rfl rfl ⟨by decide, by decide⟩ fun ⟨⟨z, l⟩, _⟩ hp => made6_run z l hp.1 hp.2.1 hp.2.2
end Go.Proofs.YtikikmhlicoheaaGreatDoor
namespace Go.Proofs.YtikikmhlicoheaaGreatDoor
open Go.Px Go.Ax
set_option maxRecDepth 100000
def CL5 : CV := [(18, .inl ctR2), (16, .inl ctRun), (19, .inl ctSym), (14, .inl ctAp), (11, .inl ctInp), (10, .inl ctM6), (9, .inl ctSan)]
theorem cxL5 : CxOK Tryz.prog tt G0 CL5 := ((((((cx0.cons san_held (fn := Tryz.f9) rfl rfl rfl).cons made6_held (fn := Tryz.f10) rfl rfl rfl).cons inp_held (fn := Tryz.f11) rfl rfl rfl).cons ap_held (fn := Tryz.f14) rfl rfl rfl).cons sym_held (fn := Tryz.f19) rfl rfl rfl).cons run_held (fn := Tryz.f16) rfl rfl rfl).cons r2_held (fn := Tryz.f18) rfl rfl rfl
set_option maxRecDepth 100000
end Go.Proofs.YtikikmhlicoheaaGreatDoor
namespace Go.Proofs.YtikikmhlicoheaaGreatDoor
open Go.Px Go.Ax
theorem gen_get (el : Nat → SyT) : ∀ n i k, k < n → (gen el n i)[k]? = some (el (i + k))
  | 0, _, _, h => by omega
  | n + 1, i, 0, _ => by rw [gen]; rfl
  | n + 1, i, k + 1, h => by
    rw [gen, List.getElem?_cons_succ, gen_get el n (i + 1) k (by omega)]
    congr 2; omega
theorem gen_mem (el : Nat → SyT) : ∀ n i s, s ∈ gen el n i → ∃ k, k < n ∧ s = el (i + k)
  | 0, _, _, h => by cases h
  | n + 1, i, s, h => by
    rw [gen] at h
    rcases List.mem_cons.1 h with h | h
    · exact ⟨0, by omega, h⟩
    · obtain ⟨k, h1, h2⟩ := gen_mem el n (i + 1) s h
      exact ⟨k + 1, by omega, by rw [h2]; congr 1; omega⟩
theorem datO_len (x : List Int) {k n : Int} (hk : k = 2 ∨ k = 4) (hn : 0 ≤ n) : ((datO x k n).length : Int) = n := by
  unfold datO; rw [if_pos hk, datA_len]; omega
theorem datO_nil (x : List Int) {k n : Int} (hk : ¬ (k = 2 ∨ k = 4)) : datO x k n = [] := if_neg hk
theorem opV_right {x : List Int} {m : Int} (hx : preB4 x) (h0 : 0 ≤ m) (h1 : m < 16777216) : isRB (opV x m) m = true := by
  have hl := opV_len hx h0
  have m0 := tm_pos (hx 0).1 (b := 4) (by decide)
  have m2 := tm_pos (hx 2).1 (b := 5) (by decide)
  have kR : kR (opV x m) m = true := by
    unfold opV kR
    split
    · rename_i hk
      split
      · rw [if_neg (show ¬ ((4 : Int) = 1) by decide), if_neg (show ¬ ((4 : Int) = 2) by decide), if_neg (show ¬ ((4 : Int) = 3) by decide), if_pos (show (4 : Int) = 4 by decide)]
        simp only [rB, Bool.and_eq_true, decide_eq_true_eq]
        exact ⟨trivial, trivial, datO_len x (.inr rfl) (by omega)⟩
      · rename_i hm
        have m1 := tm_pos (hx 1).1 (b := m) (by omega)
        have m3 := tm_pos (hx 2).1 (b := m - (gtB x 1).tmod m) (by omega)
        have e5 := Int.tmod_eq_emod_of_nonneg (b := 5) m3.1
        generalize (gtB x 1).tmod m = f at *
        generalize (gtB x 2).tmod (m - f) = g at *
        rw [e5]
        have wp : IntKind.i64.wrap (m - (1 + g % 5)) = m - (1 + g % 5) := IntWalk.i64_in _ (by omega)
        rcases (show 1 + (gtB x 0).tmod 4 = 1 ∨ 1 + (gtB x 0).tmod 4 = 2 by omega) with e | e
        · rw [e]
          simp only [rB, isPartB, wp, Bool.and_eq_true, decide_eq_true_eq, if_true]
          rw [datO_nil x (by decide)]
          exact ⟨⟨by omega, by omega⟩, trivial, rfl⟩
        · rw [e]
          simp only [rB, isPartB, wp, Bool.and_eq_true, decide_eq_true_eq, if_true]
          rw [if_neg (by decide)]
          simp only [Bool.and_eq_true, decide_eq_true_eq]
          exact ⟨⟨by omega, by omega⟩, trivial, datO_len x (.inl rfl) (by omega)⟩
    · rename_i hk
      rcases (show 1 + (gtB x 0).tmod 4 = 3 ∨ 1 + (gtB x 0).tmod 4 = 4 by omega) with e | e
      · rw [e, datO_nil x (by decide)]
        rfl
      · rw [e]
        rw [if_neg (show ¬ ((4 : Int) = 1) by decide), if_neg (show ¬ ((4 : Int) = 2) by decide), if_neg (show ¬ ((4 : Int) = 3) by decide), if_pos (show (4 : Int) = 4 by decide)]
        simp only [rB, Bool.and_eq_true, decide_eq_true_eq]
        exact ⟨trivial, if_neg (by decide), datO_len x (.inr rfl) (by omega)⟩
  unfold isRB
  rw [decide_eq_true (show 1 ≤ (opV x m).2.2.1 by omega), decide_eq_true (show (opV x m).2.2.1 ≤ 65536 by omega), kR]
  rfl
theorem chk_of {m N : Int} : ∀ {l : List OpT} {left i : Int}, (∀ x ∈ l, isRB x m = true) → lenS l = left → chkF m N l left i = (N, 0)
  | [], left, i, _, h => by
    have h : (0 : Int) = left := h
    rw [chkF, if_neg (by omega)]
  | x :: l, left, i, hr, h => by
    have h1 := hr x (by simp)
    have h2 := isRB_len h1
    have h3 := lenS_pos (l := l) fun y hy => hr y (by simp [hy])
    rw [lenS_cons] at h
    rw [chkF, if_neg (by rw [h1]; decide), if_neg (by omega)]
    exact chk_of (fun y hy => hr y (by simp [hy])) (by omega)
theorem chkV_of {li : Bool} {m o : Int} {l : List OpT} (h0 : 0 ≤ m) (h1 : m ≤ 65536) (ho : o ≤ 65536) (hl : l.length ≤ 4096) (hr : ∀ x ∈ l, isRB x m = true) (hs : lenS l = o) : chkV (li, m, o, l) = ((l.length : Int), (0 : Int)) := by
  have := lenS_pos hr
  unfold chkV
  rw [if_pos ⟨by simp [szB]; omega, by simp [szB]; omega, hl⟩]
  exact chk_of hr hs
theorem symV_of {p : PaT} {n : Int} (h : chkV p = (n, 0)) : symV p = (symF p.2.2.2, 0) := by
  unfold symV; rw [if_pos (by rw [h])]
theorem sym_mem {m : Int} : ∀ {l : List OpT}, (∀ x ∈ l, isRB x m = true) → ∀ s ∈ symF l, ∃ x ∈ l, ∃ k : Nat, (k : Int) < x.2.2.1 ∧ s = elO x.1.toNat x k
  | [], _, s, h => by cases h
  | x :: l, hr, s, h => by
    rw [symF] at h
    rcases List.mem_append.1 h with h | h
    · obtain ⟨k, h1, h2⟩ := gen_mem _ _ _ _ h
      have := (isRB_kind (hr x (by simp))).2
      exact ⟨x, by simp, k, by omega, by rw [h2, Nat.zero_add]⟩
    · obtain ⟨y, hy, k, h1, h2⟩ := sym_mem (fun y hy => hr y (by simp [hy])) s h
      exact ⟨y, by simp [hy], k, h1, h2⟩
theorem isRB_part {x : OpT} {m : Int} (h : isRB x m = true) (hm : 0 ≤ m ∧ m < 16777216) (hk : x.1 = 1 ∨ x.1 = 2) : 0 ≤ x.2.1 ∧ x.2.1 + x.2.2.1 ≤ m := by
  unfold isRB kR at h
  simp only [Bool.and_eq_true, decide_eq_true_eq] at h
  obtain ⟨h1, h2, h3⟩ := h
  have w : IntKind.i64.wrap (m - x.2.2.1) = m - x.2.2.1 := IntWalk.i64_in _ (by omega)
  rcases hk with e | e
  · rw [if_pos e] at h3
    simp only [rB, isPartB, w, Bool.and_eq_true, decide_eq_true_eq] at h3
    omega
  · rw [if_neg (by omega), if_pos e] at h3
    simp only [rB, isPartB, w, Bool.and_eq_true, decide_eq_true_eq] at h3
    omega
theorem elO_ok {x : OpT} {m : Int} {old : List Int} (h : isRB x m = true) (hm : m < 16777216) (ho : (old.length : Int) = m) {k : Nat} (hk : (k : Int) < x.2.2.1) : ruOK old (elO x.1.toNat x k) = true := by
  have hl := isRB_len h
  rcases (isRB_kind h).1 with e | e | e | e
  · have := isRB_part h ⟨by omega, hm⟩ (.inl e)
    have w : IntKind.i64.wrap (x.2.1 + k) = x.2.1 + k := IntWalk.i64_in _ (by omega)
    rw [e]
    simp [ruOK, elO, w]; omega
  · have := isRB_part h ⟨by omega, hm⟩ (.inr e)
    have w : IntKind.i64.wrap (x.2.1 + k) = x.2.1 + k := IntWalk.i64_in _ (by omega)
    rw [e]
    simp [ruOK, elO, w]; omega
  · rw [e]; rfl
  · rw [e]; rfl
theorem runV_of {m : Int} {old : List Int} {l : List OpT} (hr : ∀ x ∈ l, isRB x m = true) (hm : m < 16777216) (ho : (old.length : Int) = m) : runV old (symF l) = ((symF l).map (ruB old), 0) := by
  unfold runV
  rw [if_pos]
  rw [List.all_eq_true]
  intro s hs
  obtain ⟨x, hx, k, hk, rfl⟩ := sym_mem hr s hs
  exact elO_ok (hr x hx) hm ho hk
theorem szO_right {l : List (List Int)} {m : Int} (hl : preL4 l) (h0 : 0 ≤ m) (h1 : m ≤ 65536) : ∀ x ∈ szO l m, isRB x m = true := fun x hx => by
  unfold szO szL at hx
  obtain ⟨j, _, rfl⟩ := List.mem_map.1 hx
  exact opV_right (hl j) h0 (by omega)
theorem szO_len (l : List (List Int)) (m : Int) : (szO l m).length ≤ 6 := by
  unfold szO szK; rw [szL_len]; omega
theorem szO_sum {l : List (List Int)} {m : Int} (hl : preL4 l) (h0 : 0 ≤ m) : 0 ≤ lenS (szO l m) ∧ lenS (szO l m) ≤ 30 := by
  have := szL_sum hl h0 (szK l)
  have h6 : szK l ≤ 6 := by unfold szK; omega
  unfold szO
  omega
theorem szV_chk {l : List (List Int)} {m : Int} (hl : preL4 l) (h0 : 0 ≤ m) (h1 : m ≤ 65536) : chkV (szV l m) = (((szO l m).length : Int), (0 : Int)) := by
  have h30 := szO_sum hl h0
  have h6 := szO_len l m
  exact chkV_of h0 h1 (by omega) (by omega) (szO_right hl h0 h1) rfl
end Go.Proofs.YtikikmhlicoheaaGreatDoor
namespace Go.Proofs.YtikikmhlicoheaaGreatDoor
open Go.Px Go.Ax
set_option maxRecDepth 100000
attribute [local irreducible] Go.Px.sy Go.Px.syE
abbrev TQ : List SV → List (Nat × LB) → Prop := fun rs _ => rs = [.bool true]
def u8L (b : List Int) : Prop := ∀ j, 0 ≤ gtB b j ∧ gtB b j < 256
section
variable (m : Int) (l : List OpT) (old : List Int) (hr : ∀ x ∈ l, isRB x m = true) (hm : m < 16777216) (ho : (old.length : Int) = m) (hu : u8L old) (hl : l.length < 16777216) (hs : lenS l < 16777216)
include hr hm ho hu hl hs
end
end Go.Proofs.YtikikmhlicoheaaGreatDoor
namespace Go.Proofs.YtikikmhlicoheaaGreatDoor
open Go.Px Go.Ax
set_option maxRecDepth 100000
attribute [local irreducible] Go.Px.sy Go.Px.syE
theorem inpL_u8 {b : List Int} (hb : u8L b) (n : Nat) : u8L (inpL b n) := fun j => by
  by_cases h : j < n
  · rw [gtB_at (by rw [inpL_len]; exact h)]
    simp only [inpL, List.getElem_map, List.getElem_range]
    unfold inB
    split
    · exact hb j
    · rw [IntKind.wrap_u8]; omega
  · have : gtB (inpL b n) j = 0 := by
      show gt uB _ _ = _
      unfold gt
      rw [List.getElem?_eq_none (by rw [inpL_len]; omega)]; rfl
    rw [this]; decide
theorem apV_of {old : List Int} {p : PaT} {n : Int} (h : chkV p = (n, 0)) (hm : p.2.1 < 16777216) (ho : (old.length : Int) = p.2.1) : apV old p = ((symF p.2.2.2).map (ruB old), 0) := by
  have hk := chkV_ok (p := p) (by rw [h])
  have hs := symV_of h
  unfold apV
  rw [hs, if_pos rfl]
  unfold plV
  rw [if_pos ho]
  exact runV_of hk.1 hm ho
end Go.Proofs.YtikikmhlicoheaaGreatDoor
namespace Go.Proofs.YtikikmhlicoheaaGreatDoor
open Go.Px Go.Ax
theorem symF_app : ∀ (a b : List OpT), symF (a ++ b) = symF a ++ symF b
  | [], b => rfl
  | x :: a, b => by rw [List.cons_append, symF, symF, symF_app a b, List.append_assoc]
def costS : List OpT → Int
  | [] => 0
  | x :: l => cN x.1.toNat x + costS l
theorem costS_app : ∀ (a b : List OpT), costS (a ++ b) = costS a + costS b
  | [], b => by simp [costS]
  | x :: a, b => by rw [List.cons_append, costS, costS, costS_app a b]; omega
theorem cN_le {x : OpT} {m : Int} (h : isRB x m = true) : 0 ≤ cN x.1.toNat x ∧ cN x.1.toNat x ≤ 65540 := by
  have hl := isRB_len h
  rcases (isRB_kind h).1 with e | e | e | e
  · rw [e]; exact (show (0 : Int) ≤ 4 ∧ (4 : Int) ≤ 65540 by decide)
  · rw [e]
    show 0 ≤ IntKind.i64.wrap (4 + x.2.2.1) ∧ IntKind.i64.wrap (4 + x.2.2.1) ≤ 65540
    rw [IntWalk.i64_in _ (by omega)]; omega
  · rw [e]; exact (show (0 : Int) ≤ 4 ∧ (4 : Int) ≤ 65540 by decide)
  · rw [e]
    show 0 ≤ IntKind.i64.wrap (2 + x.2.2.1) ∧ IntKind.i64.wrap (2 + x.2.2.1) ≤ 65540
    rw [IntWalk.i64_in _ (by omega)]; omega
theorem costS_le {m : Int} : ∀ {l : List OpT}, (∀ x ∈ l, isRB x m = true) → 0 ≤ costS l ∧ costS l ≤ 65540 * l.length
  | [], _ => by simp [costS]
  | x :: l, h => by
    have h1 := cN_le (h x (by simp))
    have h2 := costS_le (l := l) fun y hy => h y (by simp [hy])
    rw [costS, List.length_cons]; omega
theorem costF_of {m : Int} : ∀ {l : List OpT} {s : Int}, (∀ x ∈ l, isRB x m = true) → 0 ≤ s → s + 65540 * l.length < 4611686018427387904 → costF s l = s + costS l
  | [], s, _, _, _ => by simp [costF, costS]
  | x :: l, s, h, h0, hb => by
    have h1 := cN_le (h x (by simp))
    rw [List.length_cons] at hb
    rw [costF, IntWalk.i64_in _ (by omega), costF_of (fun y hy => h y (by simp [hy])) (by omega) (by omega), costS]
    omega
theorem rights_k14 {m : Int} {l : List OpT} (h : ∀ x ∈ l, isRB x m = true) : ∀ y ∈ l, k14 y := fun y hy => (isRB_kind (h y hy)).1
theorem whole_right {n : Int} (h1 : 1 ≤ n) (h2 : n ≤ 65536) : isRB ((1, 0, n, 0, []) : OpT) n = true := by
  have w0 : IntKind.i64.wrap 0 = 0 := by decide
  simp [isRB, kR, rB, isPartB, w0]
  omega
theorem whole_chk {n : Int} (h0 : 0 ≤ n) (h2 : n ≤ 65536) : ∃ k, chkV (whV n) = (k, 0) ∧ (∀ x ∈ (whV n).2.2.2, isRB x n = true) := by
  unfold whV
  by_cases h : 0 < n
  · rw [if_pos h]
    have hr : ∀ x ∈ [((1, 0, n, 0, []) : OpT)], isRB x n = true := fun x hx => by
      rw [List.mem_singleton] at hx; subst hx; exact whole_right (by omega) h2
    exact ⟨_, chkV_of h0 h2 h2 (show 1 ≤ 4096 by decide) hr (by simp [lenS]), hr⟩
  · rw [if_neg h]
    have hn : n = 0 := by omega
    subst hn
    exact ⟨0, rfl, fun x hx => by cases hx⟩
theorem ext_get {a b : List Int} (hl : a.length = b.length) (h : ∀ i, i < a.length → gtB a i = gtB b i) : a = b := by
  refine List.ext_getElem hl fun i h1 h2 => ?_
  have := h i h1
  rw [gtB_at h1, gtB_at h2] at this
  exact this
theorem whole_run {old : List Int} (hu : u8L old) (hl : old.length < 65536) : (symF (whV old.length).2.2.2).map (ruB old) = old := by
  unfold whV
  by_cases h : 0 < (old.length : Int)
  · rw [if_pos h]
    show (symsO 1 ((1, 0, old.length, 0, []) : OpT) ++ symF []).map (ruB old) = old
    rw [symF, List.append_nil]
    have hgl : (symsO 1 ((1, 0, old.length, 0, []) : OpT)).length = old.length := by
      unfold symsO; rw [gen_len]; rfl
    refine ext_get (by rw [List.length_map, hgl]) fun i hi => ?_
    rw [List.length_map, hgl] at hi
    rw [gtB_at (by rw [List.length_map, hgl]; exact hi), List.getElem_map]
    have hg : (symsO 1 ((1, 0, old.length, 0, []) : OpT))[i]? = some (true, IntKind.i64.wrap (0 + (i : Int)), 0) := by
      unfold symsO
      have := gen_get (elO 1 ((1, 0, old.length, 0, []) : OpT)) (cntO 1 ((1, 0, old.length, 0, []) : OpT)) 0 i hi
      rw [Nat.zero_add] at this
      exact this
    rw [List.getElem?_eq_getElem (by rw [hgl]; exact hi)] at hg
    rw [Option.some.inj hg]
    have w : IntKind.i64.wrap (0 + (i : Int)) = (i : Int) := by rw [IntWalk.i64_in _ (by omega)]; omega
    rw [w]
    show IntKind.u8.wrap (0 + gtB old (i : Int).toNat) = _
    have := hu i
    rw [Int.toNat_natCast, Int.zero_add, IntWalk.u8_in _ (by omega)]
  · rw [if_neg h]
    have : old.length = 0 := by omega
    rw [List.eq_nil_of_length_eq_zero this]; rfl
end Go.Proofs.YtikikmhlicoheaaGreatDoor
namespace Go.Proofs.YtikikmhlicoheaaGreatDoor
open Go.Px Go.Ax
set_option maxRecDepth 100000
def CL7 : CV := (30, .inl ctSz) :: (25, .inl ctCost) :: (31, .inl ctWh) :: (23, .inl ctSS) :: CL5
theorem cxL7 : CxOK Tryz.prog tt G0 CL7 := (((cxL5.cons ss_held (fn := Tryz.f23) rfl rfl rfl).cons wh_held (fn := Tryz.f31) rfl rfl rfl).cons cost_held (fn := Tryz.f25) rfl rfl rfl).cons sz_held (fn := Tryz.f30) rfl rfl rfl
set_option maxRecDepth 100000
theorem vc_s7a (z z2 : Int) (l l2 : List (List Int)) (b : List Int) (Q : List SV → List (Nat × LB) → Prop) (R : List Item → PS → Prop) : sy tt G0 CL7 Tryz.f7.ntmps Tryz.f7.results.toList Q (fun it S => R it (keepS [7, 8, 9, 10, 11] [8, 9, 10, 52, 1233472] S)) 15 [.code (bodyOf Tryz.f7)] (entry [raS, raS, .sl uB] ((z, l), (z2, l2), b, ())) =
    (ctSan.pre () ∧
 ctM6.pre ((z, l), ()) ∧
 ctSz.pre ((z2, l2), (szV l (z % (13 : Int))).snd.fst, ()) ∧
 (0 : Nat) = (List.replicate (0 : Nat) opS.dflt).length ∧
 (0 : Nat) = (0 : Nat) ∧
 (0 : Nat) + (szV l (z % (13 : Int))).snd.snd.snd.length < (2 : Nat) ^ (30 : Nat) ∧
 (56 : Nat) ≤ (2 : Nat) ^ (10 : Nat) ∧
 (0 : Nat) + (szV l (z % (13 : Int))).snd.snd.snd.length = (List.replicate (0 : Nat) opS.dflt ++ (szV l (z % (13 : Int))).snd.snd.snd).length ∧
 (0 : Nat) = (0 : Nat) ∧
 (0 : Nat) + (szV l (z % (13 : Int))).snd.snd.snd.length + (szV l2 (szV l (z % (13 : Int))).snd.fst).snd.snd.snd.length < (2 : Nat) ^ (30 : Nat) ∧
 (56 : Nat) ≤ (2 : Nat) ^ (10 : Nat) ∧
 ctInp.pre (b, (szV l (z % (13 : Int))).snd.fst, ()) ∧
 R (midI 15 [] [Item.code (bodyOf Tryz.f7)]) { env := [(7, .bool true), (8, .ptr 8 0), (9, .ptr 9 0), (10, .ptr 10 0), (11, .win true uB 1233472 0 (inpL b (szV l (z % (13 : Int))).snd.fst.toNat).length)], blk := [(8, .var [.bool (szV l (z % (13 : Int))).fst, .int .i64 (szV l (z % (13 : Int))).snd.fst, .int .i64 (szV l (z % (13 : Int))).snd.snd.fst, .sl opS (szV l (z % (13 : Int))).snd.snd.snd]), (9, .var [.bool (szV l2 (szV l (z % (13 : Int))).snd.fst).fst, .int .i64 (szV l2 (szV l (z % (13 : Int))).snd.fst).snd.fst, .int .i64 (szV l2 (szV l (z % (13 : Int))).snd.fst).snd.snd.fst, .sl opS (szV l2 (szV l (z % (13 : Int))).snd.fst).snd.snd.snd]), (10, .var [.bool false, .int .i64 (szV l (z % (13 : Int))).snd.fst, .int .i64 (IntKind.i64.wrap ((szV l (z % (13 : Int))).snd.snd.fst + (szV l2 (szV l (z % (13 : Int))).snd.fst).snd.snd.fst)), .win true opS 52 0 ((0 : Nat) + (szV l (z % (13 : Int))).snd.snd.snd.length + (szV l2 (szV l (z % (13 : Int))).snd.fst).snd.snd.snd.length)]), (52, .row 55 opS (List.replicate (0 : Nat) opS.dflt ++ (szV l (z % (13 : Int))).snd.snd.snd ++ (szV l2 (szV l (z % (13 : Int))).snd.fst).snd.snd.snd)), (1233472, .row 5 uB (inpL b (szV l (z % (13 : Int))).snd.fst.toNat))] }) := by kernel_rfl
theorem vc_s7b (m o1 o2 o3 : Int) (p q r : List OpT) (old : List Int) (Q : List SV → List (Nat × LB) → Prop) (R : List Item → PS → Prop) : sy tt G0 CL7 Tryz.f7.ntmps Tryz.f7.results.toList Q (fun it S => R it (keepS [7, 8, 9, 10, 11, 12, 13, 14, 15, 16, 17, 18, 19, 20, 21, 22, 23] [8, 9, 10, 1249856, 1274432, 1299008, 1319488, 1339968, 1360448] S)) 12 (midI 15 [] [.code (bodyOf Tryz.f7)]) ⟨[(7, .bool true), (8, .ptr 8 0), (9, .ptr 9 0), (10, .ptr 10 0), (11, .sl uB old)], [(8, .var [.bool false, .int .i64 m, .int .i64 o1, .sl opS p]), (9, .var [.bool false, .int .i64 m, .int .i64 o2, .sl opS q]), (10, .var [.bool false, .int .i64 m, .int .i64 o3, .sl opS r])]⟩ =
    (ctAp.pre (old, (false, m, o1, p), ()) ∧
 ctAp.pre (old, (false, m, o2, q), ()) ∧
 ctAp.pre (old, (false, m, o3, r), ()) ∧
 ctSym.pre ((false, m, o3, r), ()) ∧
 ctSym.pre ((false, m, o1, p), ()) ∧
 ctSym.pre ((false, m, o2, q), ()) ∧
 R (midI 27 [] [Item.code (bodyOf Tryz.f7)]) { env := [(7, .bool true), (8, .ptr 8 0), (9, .ptr 9 0), (10, .ptr 10 0), (11, .sl uB old), (12, .win true uB 1249856 0 (apV old (false, m, o1, p)).fst.length), (13, .int .i64 (apV old (false, m, o1, p)).snd), (14, .win true uB 1274432 0 (apV old (false, m, o2, q)).fst.length), (15, .int .i64 (apV old (false, m, o2, q)).snd), (16, .win true uB 1299008 0 (apV old (false, m, o3, r)).fst.length), (17, .int .i64 (apV old (false, m, o3, r)).snd), (18, .win true syS 1319488 0 (symV (false, m, o3, r)).fst.length), (19, .int .i64 (symV (false, m, o3, r)).snd), (20, .win true syS 1339968 0 (symV (false, m, o1, p)).fst.length), (21, .int .i64 (symV (false, m, o1, p)).snd), (22, .win true syS 1360448 0 (symV (false, m, o2, q)).fst.length), (23, .int .i64 (symV (false, m, o2, q)).snd)], blk := [(8, .var [.bool false, .int .i64 m, .int .i64 o1, .sl opS p]), (9, .var [.bool false, .int .i64 m, .int .i64 o2, .sl opS q]), (10, .var [.bool false, .int .i64 m, .int .i64 o3, .sl opS r]), (1249856, .row 5 uB (apV old (false, m, o1, p)).fst), (1274432, .row 5 uB (apV old (false, m, o2, q)).fst), (1299008, .row 5 uB (apV old (false, m, o3, r)).fst), (1319488, .row 60 syS (symV (false, m, o3, r)).fst), (1339968, .row 60 syS (symV (false, m, o1, p)).fst), (1360448, .row 60 syS (symV (false, m, o2, q)).fst)] }) := by kernel_rfl
theorem vc_s7c (m o1 o2 o3 : Int) (p q r : List OpT) (old : List Int) (a c d : List Int) (l s t : List SyT) (Q : List SV → List (Nat × LB) → Prop) (R : List Item → PS → Prop) : sy tt G0 CL7 Tryz.f7.ntmps Tryz.f7.results.toList Q (fun it S => R it (keepS [7, 8, 9, 10, 11, 13, 15, 16, 17, 18, 19, 24, 25] [8, 9, 10, 99, 102] S)) 4 (midI 27 [] [.code (bodyOf Tryz.f7)]) ⟨[(7, .bool true), (8, .ptr 8 0), (9, .ptr 9 0), (10, .ptr 10 0), (11, .sl uB old), (12, .sl uB a), (13, .int .i64 0), (14, .sl uB c), (15, .int .i64 0), (16, .sl uB d), (17, .int .i64 0), (18, .sl syS l), (19, .int .i64 0), (20, .sl syS s), (21, .int .i64 0), (22, .sl syS t), (23, .int .i64 0)], [(8, .var [.bool false, .int .i64 m, .int .i64 o1, .sl opS p]), (9, .var [.bool false, .int .i64 m, .int .i64 o2, .sl opS q]), (10, .var [.bool false, .int .i64 m, .int .i64 o3, .sl opS r])]⟩ =
    ((0 : Nat) = (List.replicate (0 : Nat) uB.dflt).length ∧
 (0 : Nat) = (0 : Nat) ∧
 (0 : Nat) + a.length < (2 : Nat) ^ (30 : Nat) ∧
 (1 : Nat) ≤ (2 : Nat) ^ (10 : Nat) ∧
 (0 : Nat) = (List.replicate (0 : Nat) syS.dflt).length ∧
 (0 : Nat) = (0 : Nat) ∧
 (0 : Nat) + s.length < (2 : Nat) ^ (30 : Nat) ∧
 (24 : Nat) ≤ (2 : Nat) ^ (10 : Nat) ∧
 (0 : Nat) + a.length = (List.replicate (0 : Nat) uB.dflt ++ a).length ∧
 (0 : Nat) = (0 : Nat) ∧
 (0 : Nat) + a.length + c.length < (2 : Nat) ^ (30 : Nat) ∧
 (1 : Nat) ≤ (2 : Nat) ^ (10 : Nat) ∧
 (0 : Nat) + s.length = (List.replicate (0 : Nat) syS.dflt ++ s).length ∧
 (0 : Nat) = (0 : Nat) ∧
 (0 : Nat) + s.length + t.length < (2 : Nat) ^ (30 : Nat) ∧
 (24 : Nat) ≤ (2 : Nat) ^ (10 : Nat) ∧
 R (midI 31 [] [Item.code (bodyOf Tryz.f7)]) { env := [(7, .bool true), (8, .ptr 8 0), (9, .ptr 9 0), (10, .ptr 10 0), (11, .sl uB old), (13, .int .i64 0), (15, .int .i64 0), (16, .sl uB d), (17, .int .i64 0), (18, .sl syS l), (19, .int .i64 0), (24, .win true uB 99 0 ((0 : Nat) + a.length + c.length)), (25, .win true syS 102 0 ((0 : Nat) + s.length + t.length))], blk := [(8, .var [.bool false, .int .i64 m, .int .i64 o1, .sl opS p]), (9, .var [.bool false, .int .i64 m, .int .i64 o2, .sl opS q]), (10, .var [.bool false, .int .i64 m, .int .i64 o3, .sl opS r]), (99, .row 5 uB (List.replicate (0 : Nat) uB.dflt ++ a ++ c)), (102, .row 60 syS (List.replicate (0 : Nat) syS.dflt ++ s ++ t))] }) := by kernel_rfl
theorem vc_s7d (m o1 o2 o3 : Int) (p q r : List OpT) (old : List Int) (d bs : List Int) (l al : List SyT) (Q : List SV → List (Nat × LB) → Prop) (R : List Item → PS → Prop) : sy tt G0 CL7 Tryz.f7.ntmps Tryz.f7.results.toList Q R 1000 (midI 31 [] [.code (bodyOf Tryz.f7)]) ⟨[(7, .bool true), (8, .ptr 8 0), (9, .ptr 9 0), (10, .ptr 10 0), (11, .sl uB old), (13, .int .i64 0), (15, .int .i64 0), (16, .sl uB d), (17, .int .i64 0), (18, .sl syS l), (19, .int .i64 0), (24, .sl uB bs), (25, .sl syS al)], [(8, .var [.bool false, .int .i64 m, .int .i64 o1, .sl opS p]), (9, .var [.bool false, .int .i64 m, .int .i64 o2, .sl opS q]), (10, .var [.bool false, .int .i64 m, .int .i64 o3, .sl opS r])]⟩ =
    (ctWh.pre ((↑old.length : Int), ()) ∧
 ctAp.pre (old, ((whV (↑old.length : Int)).fst, (whV (↑old.length : Int)).snd.fst, (whV (↑old.length : Int)).snd.snd.fst, (whV (↑old.length : Int)).snd.snd.snd), ()) ∧
 ctCost.pre ((false, m, o3, r), ()) ∧
 ctCost.pre ((false, m, o1, p), ()) ∧
 ctCost.pre ((false, m, o2, q), ()) ∧
 bc (decide (costF (0 : Int) r = IntKind.i64.wrap (costF (0 : Int) p + costF (0 : Int) q))) (bc (decide ((↑old.length : Int) = (0 : Int))) (true = true ∧
 ctR2.pre (bs, d, ()) ∧
 bc (decide ((have this := bs; this) = d)) (ctSS.pre (al, l, ()) ∧
 bc (decide ((have this := al; this) = l)) (bc (decide ((apV old ((whV (↑old.length : Int)).fst, (whV (↑old.length : Int)).snd.fst, (whV (↑old.length : Int)).snd.snd.fst, (whV (↑old.length : Int)).snd.snd.snd)).snd = (0 : Int))) ((0 : Nat) + (apV old ((whV (↑old.length : Int)).fst, (whV (↑old.length : Int)).snd.fst, (whV (↑old.length : Int)).snd.snd.fst, (whV (↑old.length : Int)).snd.snd.snd)).fst.length ≤ (apV old ((whV (↑old.length : Int)).fst, (whV (↑old.length : Int)).snd.fst, (whV (↑old.length : Int)).snd.snd.fst, (whV (↑old.length : Int)).snd.snd.snd)).fst.length ∧
 ctR2.pre (winL uB 0 (apV old ((whV (↑old.length : Int)).fst, (whV (↑old.length : Int)).snd.fst, (whV (↑old.length : Int)).snd.snd.fst, (whV (↑old.length : Int)).snd.snd.snd)).fst.length (apV old ((whV (↑old.length : Int)).fst, (whV (↑old.length : Int)).snd.fst, (whV (↑old.length : Int)).snd.snd.fst, (whV (↑old.length : Int)).snd.snd.snd)).fst, old, ()) ∧
 bc (decide ((have this := winL uB 0 (apV old ((whV (↑old.length : Int)).fst, (whV (↑old.length : Int)).snd.fst, (whV (↑old.length : Int)).snd.snd.fst, (whV (↑old.length : Int)).snd.snd.snd)).fst.length (apV old ((whV (↑old.length : Int)).fst, (whV (↑old.length : Int)).snd.fst, (whV (↑old.length : Int)).snd.snd.fst, (whV (↑old.length : Int)).snd.snd.snd)).fst; this) = old)) (Q [.bool true] [(8, .var [.bool false, .int .i64 m, .int .i64 o1, .sl opS p]), (9, .var [.bool false, .int .i64 m, .int .i64 o2, .sl opS q]), (10, .var [.bool false, .int .i64 m, .int .i64 o3, .sl opS r]), (1442368, .row 5 uB (apV old ((whV (↑old.length : Int)).fst, (whV (↑old.length : Int)).snd.fst, (whV (↑old.length : Int)).snd.snd.fst, (whV (↑old.length : Int)).snd.snd.snd)).fst)]) (false = false ∧
 false = false ∧
 Q [.bool false] [(8, .var [.bool false, .int .i64 m, .int .i64 o1, .sl opS p]), (9, .var [.bool false, .int .i64 m, .int .i64 o2, .sl opS q]), (10, .var [.bool false, .int .i64 m, .int .i64 o3, .sl opS r]), (1442368, .row 5 uB (apV old ((whV (↑old.length : Int)).fst, (whV (↑old.length : Int)).snd.fst, (whV (↑old.length : Int)).snd.snd.fst, (whV (↑old.length : Int)).snd.snd.snd)).fst)])) (false = false ∧
 false = false ∧
 false = false ∧
 Q [.bool false] [(8, .var [.bool false, .int .i64 m, .int .i64 o1, .sl opS p]), (9, .var [.bool false, .int .i64 m, .int .i64 o2, .sl opS q]), (10, .var [.bool false, .int .i64 m, .int .i64 o3, .sl opS r]), (1442368, .row 5 uB (apV old ((whV (↑old.length : Int)).fst, (whV (↑old.length : Int)).snd.fst, (whV (↑old.length : Int)).snd.snd.fst, (whV (↑old.length : Int)).snd.snd.snd)).fst)])) (false = false ∧
 false = false ∧
 false = false ∧
 false = false ∧
 Q [.bool false] [(8, .var [.bool false, .int .i64 m, .int .i64 o1, .sl opS p]), (9, .var [.bool false, .int .i64 m, .int .i64 o2, .sl opS q]), (10, .var [.bool false, .int .i64 m, .int .i64 o3, .sl opS r]), (1442368, .row 5 uB (apV old ((whV (↑old.length : Int)).fst, (whV (↑old.length : Int)).snd.fst, (whV (↑old.length : Int)).snd.snd.fst, (whV (↑old.length : Int)).snd.snd.snd)).fst)])) (false = false ∧
 false = false ∧
 false = false ∧
 false = false ∧
 false = false ∧
 Q [.bool false] [(8, .var [.bool false, .int .i64 m, .int .i64 o1, .sl opS p]), (9, .var [.bool false, .int .i64 m, .int .i64 o2, .sl opS q]), (10, .var [.bool false, .int .i64 m, .int .i64 o3, .sl opS r]), (1442368, .row 5 uB (apV old ((whV (↑old.length : Int)).fst, (whV (↑old.length : Int)).snd.fst, (whV (↑old.length : Int)).snd.snd.fst, (whV (↑old.length : Int)).snd.snd.snd)).fst)])) (ctWh.pre ((↑old.length : Int), ()) ∧
 ctCost.pre (((whV (↑old.length : Int)).fst, (whV (↑old.length : Int)).snd.fst, (whV (↑old.length : Int)).snd.snd.fst, (whV (↑old.length : Int)).snd.snd.snd), ()) ∧
 ctR2.pre (bs, d, ()) ∧
 bc (decide ((have this := bs; this) = d)) (ctSS.pre (al, l, ()) ∧
 bc (decide ((have this := al; this) = l)) (bc (decide ((apV old ((whV (↑old.length : Int)).fst, (whV (↑old.length : Int)).snd.fst, (whV (↑old.length : Int)).snd.snd.fst, (whV (↑old.length : Int)).snd.snd.snd)).snd = (0 : Int))) ((0 : Nat) + (apV old ((whV (↑old.length : Int)).fst, (whV (↑old.length : Int)).snd.fst, (whV (↑old.length : Int)).snd.snd.fst, (whV (↑old.length : Int)).snd.snd.snd)).fst.length ≤ (apV old ((whV (↑old.length : Int)).fst, (whV (↑old.length : Int)).snd.fst, (whV (↑old.length : Int)).snd.snd.fst, (whV (↑old.length : Int)).snd.snd.snd)).fst.length ∧
 ctR2.pre (winL uB 0 (apV old ((whV (↑old.length : Int)).fst, (whV (↑old.length : Int)).snd.fst, (whV (↑old.length : Int)).snd.snd.fst, (whV (↑old.length : Int)).snd.snd.snd)).fst.length (apV old ((whV (↑old.length : Int)).fst, (whV (↑old.length : Int)).snd.fst, (whV (↑old.length : Int)).snd.snd.fst, (whV (↑old.length : Int)).snd.snd.snd)).fst, old, ()) ∧
 bc (decide ((have this := winL uB 0 (apV old ((whV (↑old.length : Int)).fst, (whV (↑old.length : Int)).snd.fst, (whV (↑old.length : Int)).snd.snd.fst, (whV (↑old.length : Int)).snd.snd.snd)).fst.length (apV old ((whV (↑old.length : Int)).fst, (whV (↑old.length : Int)).snd.fst, (whV (↑old.length : Int)).snd.snd.fst, (whV (↑old.length : Int)).snd.snd.snd)).fst; this) = old)) (bc (bif true then bif true then bif false then true else decide (costF (0 : Int) (whV (↑old.length : Int)).snd.snd.snd = (4 : Int)) else false else false) (Q [.bool true] [(8, .var [.bool false, .int .i64 m, .int .i64 o1, .sl opS p]), (9, .var [.bool false, .int .i64 m, .int .i64 o2, .sl opS q]), (10, .var [.bool false, .int .i64 m, .int .i64 o3, .sl opS r]), (1442368, .row 5 uB (apV old ((whV (↑old.length : Int)).fst, (whV (↑old.length : Int)).snd.fst, (whV (↑old.length : Int)).snd.snd.fst, (whV (↑old.length : Int)).snd.snd.snd)).fst)]) (false = false ∧
 Q [.bool false] [(8, .var [.bool false, .int .i64 m, .int .i64 o1, .sl opS p]), (9, .var [.bool false, .int .i64 m, .int .i64 o2, .sl opS q]), (10, .var [.bool false, .int .i64 m, .int .i64 o3, .sl opS r]), (1442368, .row 5 uB (apV old ((whV (↑old.length : Int)).fst, (whV (↑old.length : Int)).snd.fst, (whV (↑old.length : Int)).snd.snd.fst, (whV (↑old.length : Int)).snd.snd.snd)).fst)])) (false = false ∧
 false = false ∧
 Q [.bool false] [(8, .var [.bool false, .int .i64 m, .int .i64 o1, .sl opS p]), (9, .var [.bool false, .int .i64 m, .int .i64 o2, .sl opS q]), (10, .var [.bool false, .int .i64 m, .int .i64 o3, .sl opS r]), (1442368, .row 5 uB (apV old ((whV (↑old.length : Int)).fst, (whV (↑old.length : Int)).snd.fst, (whV (↑old.length : Int)).snd.snd.fst, (whV (↑old.length : Int)).snd.snd.snd)).fst)])) (false = false ∧
 false = false ∧
 false = false ∧
 Q [.bool false] [(8, .var [.bool false, .int .i64 m, .int .i64 o1, .sl opS p]), (9, .var [.bool false, .int .i64 m, .int .i64 o2, .sl opS q]), (10, .var [.bool false, .int .i64 m, .int .i64 o3, .sl opS r]), (1442368, .row 5 uB (apV old ((whV (↑old.length : Int)).fst, (whV (↑old.length : Int)).snd.fst, (whV (↑old.length : Int)).snd.snd.fst, (whV (↑old.length : Int)).snd.snd.snd)).fst)])) (false = false ∧
 false = false ∧
 false = false ∧
 false = false ∧
 Q [.bool false] [(8, .var [.bool false, .int .i64 m, .int .i64 o1, .sl opS p]), (9, .var [.bool false, .int .i64 m, .int .i64 o2, .sl opS q]), (10, .var [.bool false, .int .i64 m, .int .i64 o3, .sl opS r]), (1442368, .row 5 uB (apV old ((whV (↑old.length : Int)).fst, (whV (↑old.length : Int)).snd.fst, (whV (↑old.length : Int)).snd.snd.fst, (whV (↑old.length : Int)).snd.snd.snd)).fst)])) (false = false ∧
 false = false ∧
 false = false ∧
 false = false ∧
 false = false ∧
 Q [.bool false] [(8, .var [.bool false, .int .i64 m, .int .i64 o1, .sl opS p]), (9, .var [.bool false, .int .i64 m, .int .i64 o2, .sl opS q]), (10, .var [.bool false, .int .i64 m, .int .i64 o3, .sl opS r]), (1442368, .row 5 uB (apV old ((whV (↑old.length : Int)).fst, (whV (↑old.length : Int)).snd.fst, (whV (↑old.length : Int)).snd.snd.fst, (whV (↑old.length : Int)).snd.snd.snd)).fst)]))) (false = false ∧
 ctR2.pre (bs, d, ()) ∧
 bc (decide ((have this := bs; this) = d)) (ctSS.pre (al, l, ()) ∧
 bc (decide ((have this := al; this) = l)) (bc (decide ((apV old ((whV (↑old.length : Int)).fst, (whV (↑old.length : Int)).snd.fst, (whV (↑old.length : Int)).snd.snd.fst, (whV (↑old.length : Int)).snd.snd.snd)).snd = (0 : Int))) ((0 : Nat) + (apV old ((whV (↑old.length : Int)).fst, (whV (↑old.length : Int)).snd.fst, (whV (↑old.length : Int)).snd.snd.fst, (whV (↑old.length : Int)).snd.snd.snd)).fst.length ≤ (apV old ((whV (↑old.length : Int)).fst, (whV (↑old.length : Int)).snd.fst, (whV (↑old.length : Int)).snd.snd.fst, (whV (↑old.length : Int)).snd.snd.snd)).fst.length ∧
 ctR2.pre (winL uB 0 (apV old ((whV (↑old.length : Int)).fst, (whV (↑old.length : Int)).snd.fst, (whV (↑old.length : Int)).snd.snd.fst, (whV (↑old.length : Int)).snd.snd.snd)).fst.length (apV old ((whV (↑old.length : Int)).fst, (whV (↑old.length : Int)).snd.fst, (whV (↑old.length : Int)).snd.snd.fst, (whV (↑old.length : Int)).snd.snd.snd)).fst, old, ()) ∧
 bc (decide ((have this := winL uB 0 (apV old ((whV (↑old.length : Int)).fst, (whV (↑old.length : Int)).snd.fst, (whV (↑old.length : Int)).snd.snd.fst, (whV (↑old.length : Int)).snd.snd.snd)).fst.length (apV old ((whV (↑old.length : Int)).fst, (whV (↑old.length : Int)).snd.fst, (whV (↑old.length : Int)).snd.snd.fst, (whV (↑old.length : Int)).snd.snd.snd)).fst; this) = old)) (false = false ∧
 Q [.bool false] [(8, .var [.bool false, .int .i64 m, .int .i64 o1, .sl opS p]), (9, .var [.bool false, .int .i64 m, .int .i64 o2, .sl opS q]), (10, .var [.bool false, .int .i64 m, .int .i64 o3, .sl opS r]), (1442368, .row 5 uB (apV old ((whV (↑old.length : Int)).fst, (whV (↑old.length : Int)).snd.fst, (whV (↑old.length : Int)).snd.snd.fst, (whV (↑old.length : Int)).snd.snd.snd)).fst)]) (false = false ∧
 false = false ∧
 Q [.bool false] [(8, .var [.bool false, .int .i64 m, .int .i64 o1, .sl opS p]), (9, .var [.bool false, .int .i64 m, .int .i64 o2, .sl opS q]), (10, .var [.bool false, .int .i64 m, .int .i64 o3, .sl opS r]), (1442368, .row 5 uB (apV old ((whV (↑old.length : Int)).fst, (whV (↑old.length : Int)).snd.fst, (whV (↑old.length : Int)).snd.snd.fst, (whV (↑old.length : Int)).snd.snd.snd)).fst)])) (false = false ∧
 false = false ∧
 false = false ∧
 Q [.bool false] [(8, .var [.bool false, .int .i64 m, .int .i64 o1, .sl opS p]), (9, .var [.bool false, .int .i64 m, .int .i64 o2, .sl opS q]), (10, .var [.bool false, .int .i64 m, .int .i64 o3, .sl opS r]), (1442368, .row 5 uB (apV old ((whV (↑old.length : Int)).fst, (whV (↑old.length : Int)).snd.fst, (whV (↑old.length : Int)).snd.snd.fst, (whV (↑old.length : Int)).snd.snd.snd)).fst)])) (false = false ∧
 false = false ∧
 false = false ∧
 false = false ∧
 Q [.bool false] [(8, .var [.bool false, .int .i64 m, .int .i64 o1, .sl opS p]), (9, .var [.bool false, .int .i64 m, .int .i64 o2, .sl opS q]), (10, .var [.bool false, .int .i64 m, .int .i64 o3, .sl opS r]), (1442368, .row 5 uB (apV old ((whV (↑old.length : Int)).fst, (whV (↑old.length : Int)).snd.fst, (whV (↑old.length : Int)).snd.snd.fst, (whV (↑old.length : Int)).snd.snd.snd)).fst)])) (false = false ∧
 false = false ∧
 false = false ∧
 false = false ∧
 false = false ∧
 Q [.bool false] [(8, .var [.bool false, .int .i64 m, .int .i64 o1, .sl opS p]), (9, .var [.bool false, .int .i64 m, .int .i64 o2, .sl opS q]), (10, .var [.bool false, .int .i64 m, .int .i64 o3, .sl opS r]), (1442368, .row 5 uB (apV old ((whV (↑old.length : Int)).fst, (whV (↑old.length : Int)).snd.fst, (whV (↑old.length : Int)).snd.snd.fst, (whV (↑old.length : Int)).snd.snd.snd)).fst)]))) := by kernel_rfl
end Go.Proofs.YtikikmhlicoheaaGreatDoor
namespace Go.Proofs.YtikikmhlicoheaaGreatDoor
open Go.Px Go.Ax
set_option maxRecDepth 100000
attribute [local irreducible] Go.Px.sy Go.Px.syE
section
variable (m o1 o2 o3 : Int) (p q r : List OpT) (old : List Int)
abbrev s7S (m o1 o2 o3 : Int) (p q r : List OpT) : List (Nat × LB) := [(8, .var [.bool false, .int .i64 m, .int .i64 o1, .sl opS p]), (9, .var [.bool false, .int .i64 m, .int .i64 o2, .sl opS q]), (10, .var [.bool false, .int .i64 m, .int .i64 o3, .sl opS r])]
theorem s7d_run (d : List Int) (l : List SyT) (hc : IntKind.i64.wrap (costF 0 p + costF 0 q) = costF 0 r) (hw : apV old (whV old.length) = (old, 0)) (hwc : ¬ (old.length : Int) = 0 → costF 0 (whV old.length).2.2.2 = 4)
    (kp : ∀ y ∈ p, k14 y) (kq : ∀ y ∈ q, k14 y) (kr : ∀ y ∈ r, k14 y) (kw : ∀ y ∈ (whV old.length).2.2.2, k14 y) (lp : p.length < 100) (lq : q.length < 100) (lr : r.length < 100) (lw : (whV old.length).2.2.2.length < 100) (ld : d.length < 1099511627776) (ll : l.length < 1099511627776) (lo : old.length < 1099511627776) :
    GD 7 Tryz.f7 TQ (midI 31 [] [.code (bodyOf Tryz.f7)]) ⟨[(7, .bool true), (8, .ptr 8 0), (9, .ptr 9 0), (10, .ptr 10 0), (11, .sl uB old), (13, .int .i64 0), (15, .int .i64 0), (16, .sl uB d), (17, .int .i64 0), (18, .sl syS l), (19, .int .i64 0), (24, .sl uB d), (25, .sl syS l)], s7S m o1 o2 o3 p q r⟩ := by
  have hw' : apV old ((whV old.length).fst, (whV old.length).snd.fst, (whV old.length).snd.snd.fst, (whV old.length).snd.snd.snd) = (old, 0) := hw
  have w1 : winL uB 0 old.length old = old := winA (e := uB) _
  refine sy_go cxL7 (vc_s7d m o1 o2 o3 p q r old d d l l _ _) ?_
  simp only [hw', hc, w1, eq_self, decide_true, bc_t]
  refine ⟨trivial, rfl, ⟨kr, (show r.length < 1099511627776 by omega)⟩, ⟨kp, (show p.length < 1099511627776 by omega)⟩, ⟨kq, (show q.length < 1099511627776 by omega)⟩, bc_of (fun h => ?_) (fun h => ?_)⟩
  · exact ⟨trivial, ld, ll, by omega, lo, trivial⟩
  · have h : ¬ (old.length : Int) = 0 := of_decide_eq_false h
    simp only [hwc h, eq_self, decide_true, bc_t, cond_true, cond_false]
    exact ⟨trivial, ⟨kw, (show (whV old.length).2.2.2.length < 1099511627776 by omega)⟩, ld, ll, by omega, lo, trivial⟩
theorem frzG {f : Nat} {fn : Func} {Q : List SV → List (Nat × LB) → Prop} {it : List Item} {S : PS} {i : Nat} {e : Sh} {et : TypeId} {xs : List e.D} (hl : lk S.blk i = some (.row et e xs)) (hc : cdP i xs.length S = [0 + xs.length ≤ xs.length]) (h : GD f fn Q it (S.frzR i e xs)) : GD f fn Q it S :=
  Good.frz hl (fun c hm => by rw [hc, List.mem_singleton] at hm; subst hm; omega) h
theorem s7c_run (a c : List Int) (s t : List SyT) (la : a.length < 1000000) (lc : c.length < 1000000) (ls : s.length < 1000000) (lt : t.length < 1000000)
    (nx : GD 7 Tryz.f7 TQ (midI 31 [] [.code (bodyOf Tryz.f7)]) ⟨[(7, .bool true), (8, .ptr 8 0), (9, .ptr 9 0), (10, .ptr 10 0), (11, .sl uB old), (13, .int .i64 0), (15, .int .i64 0), (16, .sl uB (a ++ c)), (17, .int .i64 0), (18, .sl syS (s ++ t)), (19, .int .i64 0), (24, .sl uB (a ++ c)), (25, .sl syS (s ++ t))], s7S m o1 o2 o3 p q r⟩) :
    GD 7 Tryz.f7 TQ (midI 27 [] [.code (bodyOf Tryz.f7)]) ⟨[(7, .bool true), (8, .ptr 8 0), (9, .ptr 9 0), (10, .ptr 10 0), (11, .sl uB old), (12, .sl uB a), (13, .int .i64 0), (14, .sl uB c), (15, .int .i64 0), (16, .sl uB (a ++ c)), (17, .int .i64 0), (18, .sl syS (s ++ t)), (19, .int .i64 0), (20, .sl syS s), (21, .int .i64 0), (22, .sl syS t), (23, .int .i64 0)], s7S m o1 o2 o3 p q r⟩ := by
  refine sy_goKm cxL7 (vc_s7c m o1 o2 o3 p q r old a c (a ++ c) (s ++ t) s t _ _) ?_
  have e1 : 0 + a.length + c.length = (List.replicate 0 uB.dflt ++ a ++ c : List Int).length := by simp
  have e2 : 0 + s.length + t.length = (List.replicate 0 syS.dflt ++ s ++ t : List SyT).length := by simp
  refine ⟨rfl, rfl, (show 0 + a.length < 2 ^ 30 by omega), by decide, rfl, rfl, (show 0 + s.length < 2 ^ 30 by omega), by decide, by simp, rfl, (show 0 + a.length + c.length < 2 ^ 30 by omega), by decide, by simp, rfl, (show 0 + s.length + t.length < 2 ^ 30 by omega), by decide, ?_⟩
  rw [e1, e2]
  have w1 : winL uB 0 (List.replicate 0 uB.dflt ++ a ++ c : List Int).length (List.replicate 0 uB.dflt ++ a ++ c : List Int) = a ++ c := winA (e := uB) _
  have w2 : winL syS 0 (List.replicate 0 syS.dflt ++ s ++ t : List SyT).length (List.replicate 0 syS.dflt ++ s ++ t : List SyT) = s ++ t := winA (e := syS) _
  refine frzG (i := 99) (e := uB) (et := 5) (xs := List.replicate 0 uB.dflt ++ a ++ c) rfl rfl ?_
  refine frzG (i := 102) (e := syS) (et := 60) (xs := List.replicate 0 syS.dflt ++ s ++ t) rfl rfl ?_
  refine nx.only ⟨rfl, rfl, rfl, rfl, rfl, rfl, rfl, rfl, rfl, rfl, rfl, ?_, ?_, trivial⟩ ⟨rfl, rfl, rfl, trivial⟩
  · show some (SV.sl uB (winL uB 0 _ _)) = _
    rw [w1]
  · show some (SV.sl syS (winL syS 0 _ _)) = _
    rw [w2]
end
end Go.Proofs.YtikikmhlicoheaaGreatDoor
namespace Go.Proofs.YtikikmhlicoheaaGreatDoor
open Go.Px Go.Ax
set_option maxRecDepth 100000
attribute [local irreducible] Go.Px.sy Go.Px.syE
abbrev s7E (m o1 o2 o3 : Int) (p q r : List OpT) (old : List Int) (a12 a14 a16 a18 a20 a22 : SV) (rows : List (Nat × LB)) : PS := ⟨[(7, .bool true), (8, .ptr 8 0), (9, .ptr 9 0), (10, .ptr 10 0), (11, .sl uB old), (12, a12), (13, .int .i64 0), (14, a14), (15, .int .i64 0), (16, a16), (17, .int .i64 0), (18, a18), (19, .int .i64 0), (20, a20), (21, .int .i64 0), (22, a22), (23, .int .i64 0)], s7S m o1 o2 o3 p q r ++ rows⟩
theorem s7b_run (m o1 o2 o3 : Int) (p q r : List OpT) (old a c : List Int) (s t : List SyT)
    (ap : apV old (false, m, o1, p) = (a, 0)) (aq : apV old (false, m, o2, q) = (c, 0)) (ar : apV old (false, m, o3, r) = (a ++ c, 0)) (sp : symV (false, m, o1, p) = (s, 0)) (sq : symV (false, m, o2, q) = (t, 0)) (sr : symV (false, m, o3, r) = (s ++ t, 0))
    (nx : GD 7 Tryz.f7 TQ (midI 27 [] [.code (bodyOf Tryz.f7)]) ⟨[(7, .bool true), (8, .ptr 8 0), (9, .ptr 9 0), (10, .ptr 10 0), (11, .sl uB old), (12, .sl uB a), (13, .int .i64 0), (14, .sl uB c), (15, .int .i64 0), (16, .sl uB (a ++ c)), (17, .int .i64 0), (18, .sl syS (s ++ t)), (19, .int .i64 0), (20, .sl syS s), (21, .int .i64 0), (22, .sl syS t), (23, .int .i64 0)], s7S m o1 o2 o3 p q r⟩) :
    GD 7 Tryz.f7 TQ (midI 15 [] [.code (bodyOf Tryz.f7)]) ⟨[(7, .bool true), (8, .ptr 8 0), (9, .ptr 9 0), (10, .ptr 10 0), (11, .sl uB old)], s7S m o1 o2 o3 p q r⟩ := by
  refine sy_goKm cxL7 (vc_s7b m o1 o2 o3 p q r old _ _) ?_
  rw [ap, aq, ar, sp, sq, sr]
  refine ⟨rfl, rfl, rfl, trivial, trivial, trivial, ?_⟩
  have w1 : winL uB 0 a.length a = a := winA (e := uB) _
  have w2 : winL uB 0 c.length c = c := winA (e := uB) _
  have w3 : winL uB 0 (a ++ c).length (a ++ c) = a ++ c := winA (e := uB) _
  have w4 : winL syS 0 (s ++ t).length (s ++ t) = s ++ t := winA (e := syS) _
  have w5 : winL syS 0 s.length s = s := winA (e := syS) _
  have w6 : winL syS 0 t.length t = t := winA (e := syS) _
  refine frzG (i := 1249856) (e := uB) (et := 5) (xs := a) rfl rfl ?_
  refine Good.only (S' := s7E m o1 o2 o3 p q r old (.sl uB a) (.win true uB 1274432 0 c.length) (.win true uB 1299008 0 (a ++ c).length) (.win true syS 1319488 0 (s ++ t).length) (.win true syS 1339968 0 s.length) (.win true syS 1360448 0 t.length) [(1274432, .row 5 uB c), (1299008, .row 5 uB (a ++ c)), (1319488, .row 60 syS (s ++ t)), (1339968, .row 60 syS s), (1360448, .row 60 syS t)]) ?_ ⟨rfl, rfl, rfl, rfl, rfl, (by show some (SV.sl uB (winL uB 0 a.length a)) = _; rw [w1]), rfl, rfl, rfl, rfl, rfl, rfl, rfl, rfl, rfl, rfl, rfl, trivial⟩ ⟨rfl, rfl, rfl, rfl, rfl, rfl, rfl, rfl, trivial⟩
  refine frzG (i := 1274432) (e := uB) (et := 5) (xs := c) rfl rfl ?_
  refine Good.only (S' := s7E m o1 o2 o3 p q r old (.sl uB a) (.sl uB c) (.win true uB 1299008 0 (a ++ c).length) (.win true syS 1319488 0 (s ++ t).length) (.win true syS 1339968 0 s.length) (.win true syS 1360448 0 t.length) [(1299008, .row 5 uB (a ++ c)), (1319488, .row 60 syS (s ++ t)), (1339968, .row 60 syS s), (1360448, .row 60 syS t)]) ?_ ⟨rfl, rfl, rfl, rfl, rfl, rfl, rfl, (by show some (SV.sl uB (winL uB 0 c.length c)) = _; rw [w2]), rfl, rfl, rfl, rfl, rfl, rfl, rfl, rfl, rfl, trivial⟩ ⟨rfl, rfl, rfl, rfl, rfl, rfl, rfl, trivial⟩
  refine frzG (i := 1299008) (e := uB) (et := 5) (xs := (a ++ c)) rfl rfl ?_
  refine Good.only (S' := s7E m o1 o2 o3 p q r old (.sl uB a) (.sl uB c) (.sl uB (a ++ c)) (.win true syS 1319488 0 (s ++ t).length) (.win true syS 1339968 0 s.length) (.win true syS 1360448 0 t.length) [(1319488, .row 60 syS (s ++ t)), (1339968, .row 60 syS s), (1360448, .row 60 syS t)]) ?_ ⟨rfl, rfl, rfl, rfl, rfl, rfl, rfl, rfl, rfl, (by show some (SV.sl uB (winL uB 0 (a ++ c).length (a ++ c))) = _; rw [w3]), rfl, rfl, rfl, rfl, rfl, rfl, rfl, trivial⟩ ⟨rfl, rfl, rfl, rfl, rfl, rfl, trivial⟩
  refine frzG (i := 1319488) (e := syS) (et := 60) (xs := (s ++ t)) rfl rfl ?_
  refine Good.only (S' := s7E m o1 o2 o3 p q r old (.sl uB a) (.sl uB c) (.sl uB (a ++ c)) (.sl syS (s ++ t)) (.win true syS 1339968 0 s.length) (.win true syS 1360448 0 t.length) [(1339968, .row 60 syS s), (1360448, .row 60 syS t)]) ?_ ⟨rfl, rfl, rfl, rfl, rfl, rfl, rfl, rfl, rfl, rfl, rfl, (by show some (SV.sl syS (winL syS 0 (s ++ t).length (s ++ t))) = _; rw [w4]), rfl, rfl, rfl, rfl, rfl, trivial⟩ ⟨rfl, rfl, rfl, rfl, rfl, trivial⟩
  refine frzG (i := 1339968) (e := syS) (et := 60) (xs := s) rfl rfl ?_
  refine Good.only (S' := s7E m o1 o2 o3 p q r old (.sl uB a) (.sl uB c) (.sl uB (a ++ c)) (.sl syS (s ++ t)) (.sl syS s) (.win true syS 1360448 0 t.length) [(1360448, .row 60 syS t)]) ?_ ⟨rfl, rfl, rfl, rfl, rfl, rfl, rfl, rfl, rfl, rfl, rfl, rfl, rfl, (by show some (SV.sl syS (winL syS 0 s.length s)) = _; rw [w5]), rfl, rfl, rfl, trivial⟩ ⟨rfl, rfl, rfl, rfl, trivial⟩
  refine frzG (i := 1360448) (e := syS) (et := 60) (xs := t) rfl rfl ?_
  refine Good.only (S' := s7E m o1 o2 o3 p q r old (.sl uB a) (.sl uB c) (.sl uB (a ++ c)) (.sl syS (s ++ t)) (.sl syS s) (.sl syS t) []) ?_ ⟨rfl, rfl, rfl, rfl, rfl, rfl, rfl, rfl, rfl, rfl, rfl, rfl, rfl, rfl, rfl, (by show some (SV.sl syS (winL syS 0 t.length t)) = _; rw [w6]), rfl, trivial⟩ ⟨rfl, rfl, rfl, trivial⟩
  exact nx
def ctL7 : Ctr := ⟨[raS, raS, .sl uB], fun x => preM6 x.1.1 x.1.2 ∧ preM6 x.2.1.1 x.2.1.2 ∧ u8L x.2.2.1, fun _ => [.bool true], fun _ => []⟩
theorem s7_run (z z2 : Int) (l l2 : List (List Int)) (b : List Int) (h1 : preM6 z l) (h2 : preM6 z2 l2) (hb : u8L b) :
    GD 7 Tryz.f7 TQ [.code (bodyOf Tryz.f7)] (entry [raS, raS, .sl uB] ((z, l), (z2, l2), b, ())) := by
  have h0 : 0 ≤ z % 13 ∧ z % 13 < 13 := by omega
  have hl := h1.2.1
  have hl2 := h2.2.1
  refine sy_goKm cxL7 (vc_s7a z z2 l l2 b _ _) ?_
  generalize hm : z % 13 = m at h0
  have e1 : (szV l m).fst = false := rfl
  have e2 : (szV l m).snd.fst = m := rfl
  have e3 : (szV l m).snd.snd.fst = lenS (szO l m) := rfl
  have e4 : (szV l m).snd.snd.snd = szO l m := rfl
  have f1 : (szV l2 m).fst = false := rfl
  have f2 : (szV l2 m).snd.fst = m := rfl
  have f3 : (szV l2 m).snd.snd.fst = lenS (szO l2 m) := rfl
  have f4 : (szV l2 m).snd.snd.snd = szO l2 m := rfl
  have hr := szO_right hl h0.1 (by omega)
  have hr2 := szO_right hl2 h0.1 (by omega)
  have hra : ∀ x ∈ szO l m ++ szO l2 m, isRB x m = true := fun x hx => by
    rcases List.mem_append.1 hx with h | h
    · exact hr x h
    · exact hr2 x h
  have n1 := szO_len l m
  have n2 := szO_len l2 m
  have s1 := szO_sum hl h0.1
  have s2 := szO_sum hl2 h0.1
  have sa := lenS_app (szO l m) (szO l2 m)
  have w : IntKind.i64.wrap (lenS (szO l m) + lenS (szO l2 m)) = lenS (szO l m ++ szO l2 m) := by rw [IntWalk.i64_in _ (by omega), sa]
  have c1 : chkV (false, m, lenS (szO l m), szO l m) = (((szO l m).length : Int), (0 : Int)) := szV_chk hl h0.1 (by omega)
  have c2 : chkV (false, m, lenS (szO l2 m), szO l2 m) = (((szO l2 m).length : Int), (0 : Int)) := szV_chk hl2 h0.1 (by omega)
  have c3 : chkV (false, m, lenS (szO l m ++ szO l2 m), szO l m ++ szO l2 m) = (((szO l m ++ szO l2 m).length : Int), (0 : Int)) := chkV_of h0.1 (by omega) (by omega) (by rw [List.length_append]; omega) hra rfl
  have hol : ((inpL b m.toNat).length : Int) = m := by rw [inpL_len]; omega
  have hou := inpL_u8 hb m.toNat
  have kr : 0 + (szO l m).length + (szO l2 m).length = (List.replicate 0 opS.dflt ++ szO l m ++ szO l2 m : List OpT).length := by simp
  simp only [e1, e2, e3, e4, f1, f2, f3, f4, w]
  refine ⟨trivial, h1, ⟨hl2, (show preN m from ⟨by omega, by omega⟩), h2.2.2⟩, (by first | trivial | rfl), (by first | trivial | rfl), (show 0 + (szO l m).length < 2 ^ 30 by omega), by decide, (by first | trivial | simp), (by first | trivial | rfl), (show 0 + (szO l m).length + (szO l2 m).length < 2 ^ 30 by omega), by decide, (show preI m from ⟨by omega, by omega⟩), ?_⟩
  rw [kr]
  have w1 : winL uB 0 (inpL b m.toNat).length (inpL b m.toNat) = inpL b m.toNat := winA (e := uB) _
  have w2 : winL opS 0 (List.replicate 0 opS.dflt ++ szO l m ++ szO l2 m : List OpT).length (List.replicate 0 opS.dflt ++ szO l m ++ szO l2 m : List OpT) = szO l m ++ szO l2 m := winA (e := opS) _
  generalize hold : inpL b m.toNat = old at *
  have hlo : old.length < 13 := by omega
  obtain ⟨k, wc, wr⟩ := whole_chk (n := (old.length : Int)) (by omega) (by omega)
  have wl : (whV old.length).2.2.2.length ≤ 1 := by
    unfold whV; split <;> simp
  have q1 := symV_of c1
  have q2 := symV_of c2
  have q3 := symV_of c3
  have hmlt : m < 16777216 := by omega
  have a1 := apV_of (old := old) c1 hmlt hol
  have a2 := apV_of (old := old) c2 hmlt hol
  have a3 := apV_of (old := old) c3 hmlt hol
  have a4 : apV old (whV old.length) = (old, 0) := by
    rw [apV_of wc (by show (old.length : Int) < _; omega) rfl, whole_run hou (by omega)]
  simp only [symF_app, List.map_append] at q3 a3
  have y1 := symF_len hr
  have y2 := symF_len hr2
  have b1 := costS_le hr
  have b2 := costS_le hr2
  have g1 := costF_of (s := 0) hr (by omega) (by omega)
  have g2 := costF_of (s := 0) hr2 (by omega) (by omega)
  have g3 := costF_of (s := 0) hra (by omega) (by rw [List.length_append]; omega)
  have hc : IntKind.i64.wrap (costF 0 (szO l m) + costF 0 (szO l2 m)) = costF 0 (szO l m ++ szO l2 m) := by
    rw [g1, g2, g3, costS_app, IntWalk.i64_in _ (by omega)]; omega
  have hwc : ¬ (old.length : Int) = 0 → costF 0 (whV old.length).2.2.2 = 4 := fun h => by
    unfold whV; rw [if_pos (by omega)]; rfl
  refine frzG (i := 52) (e := opS) (et := 55) (xs := List.replicate 0 opS.dflt ++ szO l m ++ szO l2 m) rfl rfl ?_
  refine frzG (i := 1233472) (e := uB) (et := 5) (xs := old) rfl rfl ?_
  have d7 := s7d_run m (lenS (szO l m)) (lenS (szO l2 m)) (lenS (szO l m ++ szO l2 m)) (szO l m) (szO l2 m) (szO l m ++ szO l2 m) old
    ((symF (szO l m)).map (ruB old) ++ (symF (szO l2 m)).map (ruB old)) (symF (szO l m) ++ symF (szO l2 m)) hc a4 hwc (rights_k14 hr) (rights_k14 hr2) (rights_k14 hra) (rights_k14 wr)
    (by omega) (by omega) (by rw [List.length_append]; omega) (by omega) (by rw [List.length_append, List.length_map, List.length_map]; omega) (by rw [List.length_append]; omega) (by omega)
  have d6 := s7c_run _ _ _ _ _ _ _ _ _ _ _ _ (by rw [List.length_map]; omega) (by rw [List.length_map]; omega) (by omega) (by omega) d7
  have d5 := s7b_run _ _ _ _ _ _ _ _ _ _ _ _ a1 a2 a3 q1 q2 q3 d6
  refine d5.only ⟨rfl, rfl, rfl, rfl, ?_, trivial⟩ ⟨rfl, rfl, ?_, trivial⟩
  · show some (SV.sl uB (winL uB 0 old.length old)) = _
    rw [w1]
  · show some (LB.var [SV.bool false, SV.int IntKind.i64 m, SV.int IntKind.i64 _, SV.sl opS (winL opS 0 _ _)]) = _
    rw [w2]
theorem s7_held : Held Tryz.prog G0 7 ctL7 :=
  Held.of cxL7 (fn := Tryz.f7) rfl rfl ⟨by decide, by decide⟩ fun ⟨⟨z, l⟩, ⟨z2, l2⟩, b, _⟩ hp =>
    (s7_run z z2 l l2 b hp.1 hp.2.1 hp.2.2).post fun rs blk hq => QC.flat (by rw [hq]; rfl) rfl (by rw [hq]; rfl)
end Go.Proofs.YtikikmhlicoheaaGreatDoor
namespace Go.Proofs.YtikikmhlicoheaaGreatDoor
open Go.Px Go.Ax
theorem u8_wf {n : Int} (h : wfD uB n) : 0 ≤ n ∧ n < 256 := by
  have h : (Lit.int IntKind.u8 n).wf = true := h
  simp [Lit.wf, IntKind.min, IntKind.max, IntKind.signed, IntKind.bits] at h
  omega
theorem u8_of {l : List Int} (h : ∀ x ∈ l, wfD uB x) : u8L l := fun j => by
  by_cases hj : j < l.length
  · rw [gtB_at hj]; exact u8_wf (h _ (List.getElem_mem hj))
  · have : gtB l j = 0 := by
      show gt uB _ _ = _
      unfold gt
      rw [List.getElem?_eq_none (by omega)]; rfl
    rw [this]; decide
theorem l4_of {l : List (List Int)} (h : ∀ x ∈ l, wfD a4S x) : preL4 l := fun j => by
  by_cases hj : j < l.length
  · have e : gt a4S l j = l[j] := gtE (e := a4S) hj
    rw [e]
    exact u8_of (h _ (List.getElem_mem hj)).2
  · have : gt a4S l j = List.replicate 4 (0 : Int) := by
      unfold gt
      rw [List.getElem?_eq_none (by omega)]; rfl
    rw [this]
    exact u8_of fun x hx => by
      rw [List.eq_of_mem_replicate hx]; rfl
theorem m6_of {x : Int × List (List Int)} (h : wfD raS x) : preM6 x.1 x.2 := ⟨u8_wf h.1, l4_of h.2.2, h.2.1⟩
end Go.Proofs.YtikikmhlicoheaaGreatDoor
