/-
  A part of the proof: what pieces of the program give; conditions: those of each theorem.
-/
import Derived.Test.YtikikmhlicoheaaGreatDoorQ2
import Derived.Test.YtikikmhlicoheaaGreatDoorHD
set_option linter.unusedVariables false
set_option linter.unusedSimpArgs false
namespace Go.Proofs.YtikikmhlicoheaaGreatDoor
open Go.Px Go.Ax
set_option maxRecDepth 100000
def CL5 : CV := [(18, .inl ctR2), (16, .inl ctRun), (19, .inl ctSym), (14, .inl ctAp), (11, .inl ctInp), (10, .inl ctM6), (9, .inl ctSan)]
theorem cxL5 : CxOK Tryz.prog tt G0 CL5 := ((((((cx0.cons san_held (fn := Tryz.f9) rfl rfl rfl).cons made6_held (fn := Tryz.f10) rfl rfl rfl).cons inp_held (fn := Tryz.f11) rfl rfl rfl).cons ap_held (fn := Tryz.f14) rfl rfl rfl).cons sym_held (fn := Tryz.f19) rfl rfl rfl).cons run_held (fn := Tryz.f16) rfl rfl rfl).cons r2_held (fn := Tryz.f18) rfl rfl rfl
set_option maxRecDepth 100000
theorem vc_s5 (z : Int) (l : List (List Int)) (b : List Int) (Q : List SV → List (Nat × LB) → Prop) (R : List Item → PS → Prop) : sy tt G0 CL5 Tryz.f5.ntmps Tryz.f5.results.toList Q (fun it S => R it (keepS [5, 6, 7, 8, 10, 14, 15] [6, 1094208, 1110592, 1131072] S)) 1000 [.code (bodyOf Tryz.f5)] (entry [raS, .sl uB] ((z, l), b, ())) =
    (ctSan.pre () ∧
 ctM6.pre ((z, l), ()) ∧
 ctInp.pre (b, (szV l (z % (13 : Int))).snd.fst, ()) ∧
 (0 : Nat) + (inpL b (szV l (z % (13 : Int))).snd.fst.toNat).length ≤ (inpL b (szV l (z % (13 : Int))).snd.fst.toNat).length ∧
 ctAp.pre (winL uB (0 : Nat) (inpL b (szV l (z % (13 : Int))).snd.fst.toNat).length (inpL b (szV l (z % (13 : Int))).snd.fst.toNat), ((szV l (z % (13 : Int))).fst, (szV l (z % (13 : Int))).snd.fst, (szV l (z % (13 : Int))).snd.snd.fst, (szV l (z % (13 : Int))).snd.snd.snd), ()) ∧
 ctSym.pre (((szV l (z % (13 : Int))).fst, (szV l (z % (13 : Int))).snd.fst, (szV l (z % (13 : Int))).snd.snd.fst, (szV l (z % (13 : Int))).snd.snd.snd), ()) ∧
 (0 : Nat) + (inpL b (szV l (z % (13 : Int))).snd.fst.toNat).length ≤ (inpL b (szV l (z % (13 : Int))).snd.fst.toNat).length ∧
 (0 : Nat) + (symV ((szV l (z % (13 : Int))).fst, (szV l (z % (13 : Int))).snd.fst, (szV l (z % (13 : Int))).snd.snd.fst, (szV l (z % (13 : Int))).snd.snd.snd)).fst.length ≤ (symV ((szV l (z % (13 : Int))).fst, (szV l (z % (13 : Int))).snd.fst, (szV l (z % (13 : Int))).snd.snd.fst, (szV l (z % (13 : Int))).snd.snd.snd)).fst.length ∧
 ctRun.pre (winL uB (0 : Nat) (inpL b (szV l (z % (13 : Int))).snd.fst.toNat).length (inpL b (szV l (z % (13 : Int))).snd.fst.toNat), winL syS (0 : Nat) (symV ((szV l (z % (13 : Int))).fst, (szV l (z % (13 : Int))).snd.fst, (szV l (z % (13 : Int))).snd.snd.fst, (szV l (z % (13 : Int))).snd.snd.snd)).fst.length (symV ((szV l (z % (13 : Int))).fst, (szV l (z % (13 : Int))).snd.fst, (szV l (z % (13 : Int))).snd.snd.fst, (szV l (z % (13 : Int))).snd.snd.snd)).fst, ()) ∧
 bc (decide ((apV (winL uB (0 : Nat) (inpL b (szV l (z % (13 : Int))).snd.fst.toNat).length (inpL b (szV l (z % (13 : Int))).snd.fst.toNat)) ((szV l (z % (13 : Int))).fst, (szV l (z % (13 : Int))).snd.fst, (szV l (z % (13 : Int))).snd.snd.fst, (szV l (z % (13 : Int))).snd.snd.snd)).snd ≠ (0 : Int))) (true = true ∧
 true = true ∧
 true = true ∧
 true = true ∧
 true = true ∧
 Q [SV.bool false] [((2 : Nat), LB.var [SV.int IntKind.u8 z, SV.sl (Sh.arr (4 : Nat) uB) l]), ((6 : Nat), LB.var [SV.bool (szV l (z % (13 : Int))).fst, SV.int IntKind.i64 (szV l (z % (13 : Int))).snd.fst, SV.int IntKind.i64 (szV l (z % (13 : Int))).snd.snd.fst, SV.sl opS (szV l (z % (13 : Int))).snd.snd.snd]), ((1094208 : Nat), LB.row (5 : Nat) uB (inpL b (szV l (z % (13 : Int))).snd.fst.toNat)), ((1110592 : Nat), LB.row (5 : Nat) uB (apV (winL uB (0 : Nat) (inpL b (szV l (z % (13 : Int))).snd.fst.toNat).length (inpL b (szV l (z % (13 : Int))).snd.fst.toNat)) ((szV l (z % (13 : Int))).fst, (szV l (z % (13 : Int))).snd.fst, (szV l (z % (13 : Int))).snd.snd.fst, (szV l (z % (13 : Int))).snd.snd.snd)).fst), ((1131072 : Nat), LB.row (60 : Nat) syS (symV ((szV l (z % (13 : Int))).fst, (szV l (z % (13 : Int))).snd.fst, (szV l (z % (13 : Int))).snd.snd.fst, (szV l (z % (13 : Int))).snd.snd.snd)).fst), ((1155648 : Nat), LB.row (5 : Nat) uB (runV (winL uB (0 : Nat) (inpL b (szV l (z % (13 : Int))).snd.fst.toNat).length (inpL b (szV l (z % (13 : Int))).snd.fst.toNat)) (winL syS (0 : Nat) (symV ((szV l (z % (13 : Int))).fst, (szV l (z % (13 : Int))).snd.fst, (szV l (z % (13 : Int))).snd.snd.fst, (szV l (z % (13 : Int))).snd.snd.snd)).fst.length (symV ((szV l (z % (13 : Int))).fst, (szV l (z % (13 : Int))).snd.fst, (szV l (z % (13 : Int))).snd.snd.fst, (szV l (z % (13 : Int))).snd.snd.snd)).fst)).fst)]) (bc (bif false then true else decide ((symV ((szV l (z % (13 : Int))).fst, (szV l (z % (13 : Int))).snd.fst, (szV l (z % (13 : Int))).snd.snd.fst, (szV l (z % (13 : Int))).snd.snd.snd)).snd ≠ (0 : Int))) (true = true ∧
 true = true ∧
 true = true ∧
 true = true ∧
 Q [SV.bool false] [((2 : Nat), LB.var [SV.int IntKind.u8 z, SV.sl (Sh.arr (4 : Nat) uB) l]), ((6 : Nat), LB.var [SV.bool (szV l (z % (13 : Int))).fst, SV.int IntKind.i64 (szV l (z % (13 : Int))).snd.fst, SV.int IntKind.i64 (szV l (z % (13 : Int))).snd.snd.fst, SV.sl opS (szV l (z % (13 : Int))).snd.snd.snd]), ((1094208 : Nat), LB.row (5 : Nat) uB (inpL b (szV l (z % (13 : Int))).snd.fst.toNat)), ((1110592 : Nat), LB.row (5 : Nat) uB (apV (winL uB (0 : Nat) (inpL b (szV l (z % (13 : Int))).snd.fst.toNat).length (inpL b (szV l (z % (13 : Int))).snd.fst.toNat)) ((szV l (z % (13 : Int))).fst, (szV l (z % (13 : Int))).snd.fst, (szV l (z % (13 : Int))).snd.snd.fst, (szV l (z % (13 : Int))).snd.snd.snd)).fst), ((1131072 : Nat), LB.row (60 : Nat) syS (symV ((szV l (z % (13 : Int))).fst, (szV l (z % (13 : Int))).snd.fst, (szV l (z % (13 : Int))).snd.snd.fst, (szV l (z % (13 : Int))).snd.snd.snd)).fst), ((1155648 : Nat), LB.row (5 : Nat) uB (runV (winL uB (0 : Nat) (inpL b (szV l (z % (13 : Int))).snd.fst.toNat).length (inpL b (szV l (z % (13 : Int))).snd.fst.toNat)) (winL syS (0 : Nat) (symV ((szV l (z % (13 : Int))).fst, (szV l (z % (13 : Int))).snd.fst, (szV l (z % (13 : Int))).snd.snd.fst, (szV l (z % (13 : Int))).snd.snd.snd)).fst.length (symV ((szV l (z % (13 : Int))).fst, (szV l (z % (13 : Int))).snd.fst, (szV l (z % (13 : Int))).snd.snd.fst, (szV l (z % (13 : Int))).snd.snd.snd)).fst)).fst)]) (bc (bif false then true else decide ((runV (winL uB (0 : Nat) (inpL b (szV l (z % (13 : Int))).snd.fst.toNat).length (inpL b (szV l (z % (13 : Int))).snd.fst.toNat)) (winL syS (0 : Nat) (symV ((szV l (z % (13 : Int))).fst, (szV l (z % (13 : Int))).snd.fst, (szV l (z % (13 : Int))).snd.snd.fst, (szV l (z % (13 : Int))).snd.snd.snd)).fst.length (symV ((szV l (z % (13 : Int))).fst, (szV l (z % (13 : Int))).snd.fst, (szV l (z % (13 : Int))).snd.snd.fst, (szV l (z % (13 : Int))).snd.snd.snd)).fst)).snd ≠ (0 : Int))) (true = true ∧
 true = true ∧
 true = true ∧
 Q [SV.bool false] [((2 : Nat), LB.var [SV.int IntKind.u8 z, SV.sl (Sh.arr (4 : Nat) uB) l]), ((6 : Nat), LB.var [SV.bool (szV l (z % (13 : Int))).fst, SV.int IntKind.i64 (szV l (z % (13 : Int))).snd.fst, SV.int IntKind.i64 (szV l (z % (13 : Int))).snd.snd.fst, SV.sl opS (szV l (z % (13 : Int))).snd.snd.snd]), ((1094208 : Nat), LB.row (5 : Nat) uB (inpL b (szV l (z % (13 : Int))).snd.fst.toNat)), ((1110592 : Nat), LB.row (5 : Nat) uB (apV (winL uB (0 : Nat) (inpL b (szV l (z % (13 : Int))).snd.fst.toNat).length (inpL b (szV l (z % (13 : Int))).snd.fst.toNat)) ((szV l (z % (13 : Int))).fst, (szV l (z % (13 : Int))).snd.fst, (szV l (z % (13 : Int))).snd.snd.fst, (szV l (z % (13 : Int))).snd.snd.snd)).fst), ((1131072 : Nat), LB.row (60 : Nat) syS (symV ((szV l (z % (13 : Int))).fst, (szV l (z % (13 : Int))).snd.fst, (szV l (z % (13 : Int))).snd.snd.fst, (szV l (z % (13 : Int))).snd.snd.snd)).fst), ((1155648 : Nat), LB.row (5 : Nat) uB (runV (winL uB (0 : Nat) (inpL b (szV l (z % (13 : Int))).snd.fst.toNat).length (inpL b (szV l (z % (13 : Int))).snd.fst.toNat)) (winL syS (0 : Nat) (symV ((szV l (z % (13 : Int))).fst, (szV l (z % (13 : Int))).snd.fst, (szV l (z % (13 : Int))).snd.snd.fst, (szV l (z % (13 : Int))).snd.snd.snd)).fst.length (symV ((szV l (z % (13 : Int))).fst, (szV l (z % (13 : Int))).snd.fst, (szV l (z % (13 : Int))).snd.snd.fst, (szV l (z % (13 : Int))).snd.snd.snd)).fst)).fst)]) (bc (bif false then true else decide ((↑(apV (winL uB (0 : Nat) (inpL b (szV l (z % (13 : Int))).snd.fst.toNat).length (inpL b (szV l (z % (13 : Int))).snd.fst.toNat)) ((szV l (z % (13 : Int))).fst, (szV l (z % (13 : Int))).snd.fst, (szV l (z % (13 : Int))).snd.snd.fst, (szV l (z % (13 : Int))).snd.snd.snd)).fst.length : Int) ≠ (szV l (z % (13 : Int))).snd.snd.fst)) (true = true ∧
 true = true ∧
 Q [SV.bool false] [((2 : Nat), LB.var [SV.int IntKind.u8 z, SV.sl (Sh.arr (4 : Nat) uB) l]), ((6 : Nat), LB.var [SV.bool (szV l (z % (13 : Int))).fst, SV.int IntKind.i64 (szV l (z % (13 : Int))).snd.fst, SV.int IntKind.i64 (szV l (z % (13 : Int))).snd.snd.fst, SV.sl opS (szV l (z % (13 : Int))).snd.snd.snd]), ((1094208 : Nat), LB.row (5 : Nat) uB (inpL b (szV l (z % (13 : Int))).snd.fst.toNat)), ((1110592 : Nat), LB.row (5 : Nat) uB (apV (winL uB (0 : Nat) (inpL b (szV l (z % (13 : Int))).snd.fst.toNat).length (inpL b (szV l (z % (13 : Int))).snd.fst.toNat)) ((szV l (z % (13 : Int))).fst, (szV l (z % (13 : Int))).snd.fst, (szV l (z % (13 : Int))).snd.snd.fst, (szV l (z % (13 : Int))).snd.snd.snd)).fst), ((1131072 : Nat), LB.row (60 : Nat) syS (symV ((szV l (z % (13 : Int))).fst, (szV l (z % (13 : Int))).snd.fst, (szV l (z % (13 : Int))).snd.snd.fst, (szV l (z % (13 : Int))).snd.snd.snd)).fst), ((1155648 : Nat), LB.row (5 : Nat) uB (runV (winL uB (0 : Nat) (inpL b (szV l (z % (13 : Int))).snd.fst.toNat).length (inpL b (szV l (z % (13 : Int))).snd.fst.toNat)) (winL syS (0 : Nat) (symV ((szV l (z % (13 : Int))).fst, (szV l (z % (13 : Int))).snd.fst, (szV l (z % (13 : Int))).snd.snd.fst, (szV l (z % (13 : Int))).snd.snd.snd)).fst.length (symV ((szV l (z % (13 : Int))).fst, (szV l (z % (13 : Int))).snd.fst, (szV l (z % (13 : Int))).snd.snd.fst, (szV l (z % (13 : Int))).snd.snd.snd)).fst)).fst)]) (bc (bif false then true else decide ((↑(symV ((szV l (z % (13 : Int))).fst, (szV l (z % (13 : Int))).snd.fst, (szV l (z % (13 : Int))).snd.snd.fst, (szV l (z % (13 : Int))).snd.snd.snd)).fst.length : Int) ≠ (szV l (z % (13 : Int))).snd.snd.fst)) (true = true ∧
 Q [SV.bool false] [((2 : Nat), LB.var [SV.int IntKind.u8 z, SV.sl (Sh.arr (4 : Nat) uB) l]), ((6 : Nat), LB.var [SV.bool (szV l (z % (13 : Int))).fst, SV.int IntKind.i64 (szV l (z % (13 : Int))).snd.fst, SV.int IntKind.i64 (szV l (z % (13 : Int))).snd.snd.fst, SV.sl opS (szV l (z % (13 : Int))).snd.snd.snd]), ((1094208 : Nat), LB.row (5 : Nat) uB (inpL b (szV l (z % (13 : Int))).snd.fst.toNat)), ((1110592 : Nat), LB.row (5 : Nat) uB (apV (winL uB (0 : Nat) (inpL b (szV l (z % (13 : Int))).snd.fst.toNat).length (inpL b (szV l (z % (13 : Int))).snd.fst.toNat)) ((szV l (z % (13 : Int))).fst, (szV l (z % (13 : Int))).snd.fst, (szV l (z % (13 : Int))).snd.snd.fst, (szV l (z % (13 : Int))).snd.snd.snd)).fst), ((1131072 : Nat), LB.row (60 : Nat) syS (symV ((szV l (z % (13 : Int))).fst, (szV l (z % (13 : Int))).snd.fst, (szV l (z % (13 : Int))).snd.snd.fst, (szV l (z % (13 : Int))).snd.snd.snd)).fst), ((1155648 : Nat), LB.row (5 : Nat) uB (runV (winL uB (0 : Nat) (inpL b (szV l (z % (13 : Int))).snd.fst.toNat).length (inpL b (szV l (z % (13 : Int))).snd.fst.toNat)) (winL syS (0 : Nat) (symV ((szV l (z % (13 : Int))).fst, (szV l (z % (13 : Int))).snd.fst, (szV l (z % (13 : Int))).snd.snd.fst, (szV l (z % (13 : Int))).snd.snd.snd)).fst.length (symV ((szV l (z % (13 : Int))).fst, (szV l (z % (13 : Int))).snd.fst, (szV l (z % (13 : Int))).snd.snd.fst, (szV l (z % (13 : Int))).snd.snd.snd)).fst)).fst)]) ((0 : Nat) + (apV (winL uB (0 : Nat) (inpL b (szV l (z % (13 : Int))).snd.fst.toNat).length (inpL b (szV l (z % (13 : Int))).snd.fst.toNat)) ((szV l (z % (13 : Int))).fst, (szV l (z % (13 : Int))).snd.fst, (szV l (z % (13 : Int))).snd.snd.fst, (szV l (z % (13 : Int))).snd.snd.snd)).fst.length ≤ (apV (winL uB (0 : Nat) (inpL b (szV l (z % (13 : Int))).snd.fst.toNat).length (inpL b (szV l (z % (13 : Int))).snd.fst.toNat)) ((szV l (z % (13 : Int))).fst, (szV l (z % (13 : Int))).snd.fst, (szV l (z % (13 : Int))).snd.snd.fst, (szV l (z % (13 : Int))).snd.snd.snd)).fst.length ∧
 (0 : Nat) + (runV (winL uB (0 : Nat) (inpL b (szV l (z % (13 : Int))).snd.fst.toNat).length (inpL b (szV l (z % (13 : Int))).snd.fst.toNat)) (winL syS (0 : Nat) (symV ((szV l (z % (13 : Int))).fst, (szV l (z % (13 : Int))).snd.fst, (szV l (z % (13 : Int))).snd.snd.fst, (szV l (z % (13 : Int))).snd.snd.snd)).fst.length (symV ((szV l (z % (13 : Int))).fst, (szV l (z % (13 : Int))).snd.fst, (szV l (z % (13 : Int))).snd.snd.fst, (szV l (z % (13 : Int))).snd.snd.snd)).fst)).fst.length ≤ (runV (winL uB (0 : Nat) (inpL b (szV l (z % (13 : Int))).snd.fst.toNat).length (inpL b (szV l (z % (13 : Int))).snd.fst.toNat)) (winL syS (0 : Nat) (symV ((szV l (z % (13 : Int))).fst, (szV l (z % (13 : Int))).snd.fst, (szV l (z % (13 : Int))).snd.snd.fst, (szV l (z % (13 : Int))).snd.snd.snd)).fst.length (symV ((szV l (z % (13 : Int))).fst, (szV l (z % (13 : Int))).snd.fst, (szV l (z % (13 : Int))).snd.snd.fst, (szV l (z % (13 : Int))).snd.snd.snd)).fst)).fst.length ∧
 ctR2.pre (winL uB (0 : Nat) (apV (winL uB (0 : Nat) (inpL b (szV l (z % (13 : Int))).snd.fst.toNat).length (inpL b (szV l (z % (13 : Int))).snd.fst.toNat)) ((szV l (z % (13 : Int))).fst, (szV l (z % (13 : Int))).snd.fst, (szV l (z % (13 : Int))).snd.snd.fst, (szV l (z % (13 : Int))).snd.snd.snd)).fst.length (apV (winL uB (0 : Nat) (inpL b (szV l (z % (13 : Int))).snd.fst.toNat).length (inpL b (szV l (z % (13 : Int))).snd.fst.toNat)) ((szV l (z % (13 : Int))).fst, (szV l (z % (13 : Int))).snd.fst, (szV l (z % (13 : Int))).snd.snd.fst, (szV l (z % (13 : Int))).snd.snd.snd)).fst, winL uB (0 : Nat) (runV (winL uB (0 : Nat) (inpL b (szV l (z % (13 : Int))).snd.fst.toNat).length (inpL b (szV l (z % (13 : Int))).snd.fst.toNat)) (winL syS (0 : Nat) (symV ((szV l (z % (13 : Int))).fst, (szV l (z % (13 : Int))).snd.fst, (szV l (z % (13 : Int))).snd.snd.fst, (szV l (z % (13 : Int))).snd.snd.snd)).fst.length (symV ((szV l (z % (13 : Int))).fst, (szV l (z % (13 : Int))).snd.fst, (szV l (z % (13 : Int))).snd.snd.fst, (szV l (z % (13 : Int))).snd.snd.snd)).fst)).fst.length (runV (winL uB (0 : Nat) (inpL b (szV l (z % (13 : Int))).snd.fst.toNat).length (inpL b (szV l (z % (13 : Int))).snd.fst.toNat)) (winL syS (0 : Nat) (symV ((szV l (z % (13 : Int))).fst, (szV l (z % (13 : Int))).snd.fst, (szV l (z % (13 : Int))).snd.snd.fst, (szV l (z % (13 : Int))).snd.snd.snd)).fst.length (symV ((szV l (z % (13 : Int))).fst, (szV l (z % (13 : Int))).snd.fst, (szV l (z % (13 : Int))).snd.snd.fst, (szV l (z % (13 : Int))).snd.snd.snd)).fst)).fst, ()) ∧
 bc (bif false then true else !decide ((have this := winL uB (0 : Nat) (apV (winL uB (0 : Nat) (inpL b (szV l (z % (13 : Int))).snd.fst.toNat).length (inpL b (szV l (z % (13 : Int))).snd.fst.toNat)) ((szV l (z % (13 : Int))).fst, (szV l (z % (13 : Int))).snd.fst, (szV l (z % (13 : Int))).snd.snd.fst, (szV l (z % (13 : Int))).snd.snd.snd)).fst.length (apV (winL uB (0 : Nat) (inpL b (szV l (z % (13 : Int))).snd.fst.toNat).length (inpL b (szV l (z % (13 : Int))).snd.fst.toNat)) ((szV l (z % (13 : Int))).fst, (szV l (z % (13 : Int))).snd.fst, (szV l (z % (13 : Int))).snd.snd.fst, (szV l (z % (13 : Int))).snd.snd.snd)).fst; this) = winL uB (0 : Nat) (runV (winL uB (0 : Nat) (inpL b (szV l (z % (13 : Int))).snd.fst.toNat).length (inpL b (szV l (z % (13 : Int))).snd.fst.toNat)) (winL syS (0 : Nat) (symV ((szV l (z % (13 : Int))).fst, (szV l (z % (13 : Int))).snd.fst, (szV l (z % (13 : Int))).snd.snd.fst, (szV l (z % (13 : Int))).snd.snd.snd)).fst.length (symV ((szV l (z % (13 : Int))).fst, (szV l (z % (13 : Int))).snd.fst, (szV l (z % (13 : Int))).snd.snd.fst, (szV l (z % (13 : Int))).snd.snd.snd)).fst)).fst.length (runV (winL uB (0 : Nat) (inpL b (szV l (z % (13 : Int))).snd.fst.toNat).length (inpL b (szV l (z % (13 : Int))).snd.fst.toNat)) (winL syS (0 : Nat) (symV ((szV l (z % (13 : Int))).fst, (szV l (z % (13 : Int))).snd.fst, (szV l (z % (13 : Int))).snd.snd.fst, (szV l (z % (13 : Int))).snd.snd.snd)).fst.length (symV ((szV l (z % (13 : Int))).fst, (szV l (z % (13 : Int))).snd.fst, (szV l (z % (13 : Int))).snd.snd.fst, (szV l (z % (13 : Int))).snd.snd.snd)).fst)).fst)) (Q [SV.bool false] [((2 : Nat), LB.var [SV.int IntKind.u8 z, SV.sl (Sh.arr (4 : Nat) uB) l]), ((6 : Nat), LB.var [SV.bool (szV l (z % (13 : Int))).fst, SV.int IntKind.i64 (szV l (z % (13 : Int))).snd.fst, SV.int IntKind.i64 (szV l (z % (13 : Int))).snd.snd.fst, SV.sl opS (szV l (z % (13 : Int))).snd.snd.snd]), ((1094208 : Nat), LB.row (5 : Nat) uB (inpL b (szV l (z % (13 : Int))).snd.fst.toNat)), ((1110592 : Nat), LB.row (5 : Nat) uB (apV (winL uB (0 : Nat) (inpL b (szV l (z % (13 : Int))).snd.fst.toNat).length (inpL b (szV l (z % (13 : Int))).snd.fst.toNat)) ((szV l (z % (13 : Int))).fst, (szV l (z % (13 : Int))).snd.fst, (szV l (z % (13 : Int))).snd.snd.fst, (szV l (z % (13 : Int))).snd.snd.snd)).fst), ((1131072 : Nat), LB.row (60 : Nat) syS (symV ((szV l (z % (13 : Int))).fst, (szV l (z % (13 : Int))).snd.fst, (szV l (z % (13 : Int))).snd.snd.fst, (szV l (z % (13 : Int))).snd.snd.snd)).fst), ((1155648 : Nat), LB.row (5 : Nat) uB (runV (winL uB (0 : Nat) (inpL b (szV l (z % (13 : Int))).snd.fst.toNat).length (inpL b (szV l (z % (13 : Int))).snd.fst.toNat)) (winL syS (0 : Nat) (symV ((szV l (z % (13 : Int))).fst, (szV l (z % (13 : Int))).snd.fst, (szV l (z % (13 : Int))).snd.snd.fst, (szV l (z % (13 : Int))).snd.snd.snd)).fst.length (symV ((szV l (z % (13 : Int))).fst, (szV l (z % (13 : Int))).snd.fst, (szV l (z % (13 : Int))).snd.snd.fst, (szV l (z % (13 : Int))).snd.snd.snd)).fst)).fst)]) (R (hd Tryz.f5 (0 : Nat)) { env := [((5 : Nat), SV.bool true), ((6 : Nat), SV.ptr (6 : Nat) (0 : Nat)), ((7 : Nat), SV.win true uB (1094208 : Nat) (0 : Nat) (inpL b (szV l (z % (13 : Int))).snd.fst.toNat).length), ((8 : Nat), SV.win true uB (1110592 : Nat) (0 : Nat) (apV (winL uB (0 : Nat) (inpL b (szV l (z % (13 : Int))).snd.fst.toNat).length (inpL b (szV l (z % (13 : Int))).snd.fst.toNat)) ((szV l (z % (13 : Int))).fst, (szV l (z % (13 : Int))).snd.fst, (szV l (z % (13 : Int))).snd.snd.fst, (szV l (z % (13 : Int))).snd.snd.snd)).fst.length), ((10 : Nat), SV.win true syS (1131072 : Nat) (0 : Nat) (symV ((szV l (z % (13 : Int))).fst, (szV l (z % (13 : Int))).snd.fst, (szV l (z % (13 : Int))).snd.snd.fst, (szV l (z % (13 : Int))).snd.snd.snd)).fst.length), ((14 : Nat), SV.int IntKind.i64 (0 : Int)), ((15 : Nat), SV.int IntKind.i64 (0 : Int))], blk := [((6 : Nat), LB.var [SV.bool (szV l (z % (13 : Int))).fst, SV.int IntKind.i64 (szV l (z % (13 : Int))).snd.fst, SV.int IntKind.i64 (szV l (z % (13 : Int))).snd.snd.fst, SV.sl opS (szV l (z % (13 : Int))).snd.snd.snd]), ((1094208 : Nat), LB.row (5 : Nat) uB (inpL b (szV l (z % (13 : Int))).snd.fst.toNat)), ((1110592 : Nat), LB.row (5 : Nat) uB (apV (winL uB (0 : Nat) (inpL b (szV l (z % (13 : Int))).snd.fst.toNat).length (inpL b (szV l (z % (13 : Int))).snd.fst.toNat)) ((szV l (z % (13 : Int))).fst, (szV l (z % (13 : Int))).snd.fst, (szV l (z % (13 : Int))).snd.snd.fst, (szV l (z % (13 : Int))).snd.snd.snd)).fst), ((1131072 : Nat), LB.row (60 : Nat) syS (symV ((szV l (z % (13 : Int))).fst, (szV l (z % (13 : Int))).snd.fst, (szV l (z % (13 : Int))).snd.snd.fst, (szV l (z % (13 : Int))).snd.snd.snd)).fst)] }))))))) := by kernel_rfl
theorem vc_s5o (m o : Int) (l : List OpT) (old out : List Int) (s : List SyT) (a i : Nat) (Q : List SV → List (Nat × LB) → Prop) (R : List Item → PS → Prop) : sy tt G0 CL5 Tryz.f5.ntmps Tryz.f5.results.toList Q (fun it S => R it (keepS [5, 6, 7, 8, 10, 14, 15, 16] [6] S)) 1000 (hd Tryz.f5 0) ⟨[(5, .bool true), (6, .ptr 6 0), (7, .sl uB old), (8, .sl uB out), (10, .sl syS s), (14, .int .i64 (a : Nat)), (15, .int .i64 (i : Nat))], [(6, .var [.bool false, .int .i64 m, .int .i64 o, .sl opS l])]⟩ =
    (bc (decide ((↑i : Int) < (↑l.length : Int))) (R (hd Tryz.f5 (1 : Nat)) { env := [((5 : Nat), SV.bool true), ((6 : Nat), SV.ptr (6 : Nat) (0 : Nat)), ((7 : Nat), SV.sl uB old), ((8 : Nat), SV.sl uB out), ((10 : Nat), SV.sl syS s), ((14 : Nat), SV.int IntKind.i64 (↑a : Int)), ((15 : Nat), SV.int IntKind.i64 (↑i : Int)), ((16 : Nat), SV.int IntKind.i64 (0 : Int))], blk := [((6 : Nat), LB.var [SV.bool false, SV.int IntKind.i64 m, SV.int IntKind.i64 o, SV.sl opS l])] }) (bc (decide ((↑a : Int) = o)) (Q [SV.bool true] [((6 : Nat), LB.var [SV.bool false, SV.int IntKind.i64 m, SV.int IntKind.i64 o, SV.sl opS l])]) (false = false ∧
 Q [SV.bool false] [((6 : Nat), LB.var [SV.bool false, SV.int IntKind.i64 m, SV.int IntKind.i64 o, SV.sl opS l])]))) := by kernel_rfl
theorem vc_s5i (m o : Int) (l : List OpT) (old out : List Int) (s : List SyT) (a i k : Nat) (Q : List SV → List (Nat × LB) → Prop) (R : List Item → PS → Prop) : sy tt G0 CL5 Tryz.f5.ntmps Tryz.f5.results.toList Q (fun it S => R it (keepS [5, 6, 7, 8, 10, 14, 15, 16] [6] S)) 1000 (hd Tryz.f5 1) ⟨[(5, .bool true), (6, .ptr 6 0), (7, .sl uB old), (8, .sl uB out), (10, .sl syS s), (14, .int .i64 (a : Nat)), (15, .int .i64 (i : Nat)), (16, .int .i64 (k : Nat))], [(6, .var [.bool false, .int .i64 m, .int .i64 o, .sl opS l])]⟩ =
    ((0 : Int) ≤ (↑i : Int) ∧
 (↑i : Int) < (↑l.length : Int) ∧
 bc (decide ((↑k : Int) < (gtO l (↑i : Int).toNat).snd.snd.fst)) ((0 : Int) ≤ (↑i : Int) ∧
 (↑i : Int) < (↑l.length : Int) ∧
 bc (decide ((gtO l (↑i : Int).toNat).fst = (1 : Int))) ((0 : Int) ≤ (↑a : Int) ∧
 (↑a : Int) < (↑s.length : Int) ∧
 (0 : Int) ≤ (↑i : Int) ∧
 (↑i : Int) < (↑l.length : Int) ∧
 bc (!decide ([Cl.cb (gtY s (↑a : Int).toNat).fst, Cl.ci IntKind.i64 (gtY s (↑a : Int).toNat).snd.fst, Cl.ci IntKind.u8 (gtY s (↑a : Int).toNat).snd.snd] = [Cl.cb true, Cl.ci IntKind.i64 (IntKind.i64.wrap ((gtO l (↑i : Int).toNat).snd.fst + (↑k : Int))), Cl.ci IntKind.u8 (0 : Int)])) (true = true ∧
 Q [SV.bool false] [((6 : Nat), LB.var [SV.bool false, SV.int IntKind.i64 m, SV.int IntKind.i64 o, SV.sl opS l])]) ((0 : Int) ≤ (↑a : Int) ∧
 (↑a : Int) < (↑out.length : Int) ∧
 (0 : Int) ≤ (↑i : Int) ∧
 (↑i : Int) < (↑l.length : Int) ∧
 (0 : Int) ≤ IntKind.i64.wrap ((gtO l (↑i : Int).toNat).snd.fst + (↑k : Int)) ∧
 IntKind.i64.wrap ((gtO l (↑i : Int).toNat).snd.fst + (↑k : Int)) < (↑old.length : Int) ∧
 bc (decide (gtB out (↑a : Int).toNat ≠ gtB old (IntKind.i64.wrap ((gtO l (↑i : Int).toNat).snd.fst + (↑k : Int))).toNat)) (Q [SV.bool false] [((6 : Nat), LB.var [SV.bool false, SV.int IntKind.i64 m, SV.int IntKind.i64 o, SV.sl opS l])]) (R (hd Tryz.f5 (1 : Nat)) { env := [((5 : Nat), SV.bool true), ((6 : Nat), SV.ptr (6 : Nat) (0 : Nat)), ((7 : Nat), SV.sl uB old), ((8 : Nat), SV.sl uB out), ((10 : Nat), SV.sl syS s), ((14 : Nat), SV.int IntKind.i64 (IntKind.i64.wrap ((↑a : Int) + (1 : Int)))), ((15 : Nat), SV.int IntKind.i64 (↑i : Int)), ((16 : Nat), SV.int IntKind.i64 (IntKind.i64.wrap ((↑k : Int) + (1 : Int))))], blk := [((6 : Nat), LB.var [SV.bool false, SV.int IntKind.i64 m, SV.int IntKind.i64 o, SV.sl opS l])] }))) (false = false ∧
 R (hd Tryz.f5 (1 : Nat)) { env := [((5 : Nat), SV.bool true), ((6 : Nat), SV.ptr (6 : Nat) (0 : Nat)), ((7 : Nat), SV.sl uB old), ((8 : Nat), SV.sl uB out), ((10 : Nat), SV.sl syS s), ((14 : Nat), SV.int IntKind.i64 (IntKind.i64.wrap ((↑a : Int) + (1 : Int)))), ((15 : Nat), SV.int IntKind.i64 (↑i : Int)), ((16 : Nat), SV.int IntKind.i64 (IntKind.i64.wrap ((↑k : Int) + (1 : Int))))], blk := [((6 : Nat), LB.var [SV.bool false, SV.int IntKind.i64 m, SV.int IntKind.i64 o, SV.sl opS l])] })) (R (hd Tryz.f5 (0 : Nat)) { env := [((5 : Nat), SV.bool true), ((6 : Nat), SV.ptr (6 : Nat) (0 : Nat)), ((7 : Nat), SV.sl uB old), ((8 : Nat), SV.sl uB out), ((10 : Nat), SV.sl syS s), ((14 : Nat), SV.int IntKind.i64 (↑a : Int)), ((15 : Nat), SV.int IntKind.i64 (IntKind.i64.wrap ((↑i : Int) + (1 : Int)))), ((16 : Nat), SV.int IntKind.i64 (↑k : Int))], blk := [((6 : Nat), LB.var [SV.bool false, SV.int IntKind.i64 m, SV.int IntKind.i64 o, SV.sl opS l])] })) := by kernel_rfl
end Go.Proofs.YtikikmhlicoheaaGreatDoor
namespace Go.Proofs.YtikikmhlicoheaaGreatDoor
open Go.Px Go.Ax
theorem gen_get (el : Nat → SyT) : ∀ n i k, k < n → (gen el n i)[k]? = some (el (i + k))
  | 0, _, _, h => by omega
  | n + 1, i, 0, _ => by rw [gen]; rfl
  | n + 1, i, k + 1, h => by
    rw [gen, List.getElem?_cons_succ, gen_get el n (i + 1) k (by omega)]
    congr 2; omega
theorem gen_mem (el : Nat → SyT) : ∀ n i s, s ∈ gen el n i → ∃ k, k < n ∧ s = el (i + k)
  | 0, _, _, h => by cases h
  | n + 1, i, s, h => by
    rw [gen] at h
    rcases List.mem_cons.1 h with h | h
    · exact ⟨0, by omega, h⟩
    · obtain ⟨k, h1, h2⟩ := gen_mem el n (i + 1) s h
      exact ⟨k + 1, by omega, by rw [h2]; congr 1; omega⟩
theorem datO_len (x : List Int) {k n : Int} (hk : k = 2 ∨ k = 4) (hn : 0 ≤ n) : ((datO x k n).length : Int) = n := by
  unfold datO; rw [if_pos hk, datA_len]; omega
theorem datO_nil (x : List Int) {k n : Int} (hk : ¬ (k = 2 ∨ k = 4)) : datO x k n = [] := if_neg hk
theorem opV_right {x : List Int} {m : Int} (hx : preB4 x) (h0 : 0 ≤ m) (h1 : m < 16777216) : isRB (opV x m) m = true := by
  have hl := opV_len hx h0
  have m0 := tm_pos (hx 0).1 (b := 4) (by decide)
  have m2 := tm_pos (hx 2).1 (b := 5) (by decide)
  have kR : kR (opV x m) m = true := by
    unfold opV kR
    split
    · rename_i hk
      split
      · rw [if_neg (show ¬ ((4 : Int) = 1) by decide), if_neg (show ¬ ((4 : Int) = 2) by decide), if_neg (show ¬ ((4 : Int) = 3) by decide), if_pos (show (4 : Int) = 4 by decide)]
        simp only [rB, Bool.and_eq_true, decide_eq_true_eq]
        exact ⟨trivial, trivial, datO_len x (.inr rfl) (by omega)⟩
      · rename_i hm
        have m1 := tm_pos (hx 1).1 (b := m) (by omega)
        have m3 := tm_pos (hx 2).1 (b := m - (gtB x 1).tmod m) (by omega)
        have e5 := Int.tmod_eq_emod_of_nonneg (b := 5) m3.1
        generalize (gtB x 1).tmod m = f at *
        generalize (gtB x 2).tmod (m - f) = g at *
        rw [e5]
        have wp : IntKind.i64.wrap (m - (1 + g % 5)) = m - (1 + g % 5) := IntWalk.i64_in _ (by omega)
        rcases (show 1 + (gtB x 0).tmod 4 = 1 ∨ 1 + (gtB x 0).tmod 4 = 2 by omega) with e | e
        · rw [e]
          simp only [rB, isPartB, wp, Bool.and_eq_true, decide_eq_true_eq, if_true]
          rw [datO_nil x (by decide)]
          exact ⟨⟨by omega, by omega⟩, trivial, rfl⟩
        · rw [e]
          simp only [rB, isPartB, wp, Bool.and_eq_true, decide_eq_true_eq, if_true]
          rw [if_neg (by decide)]
          simp only [Bool.and_eq_true, decide_eq_true_eq]
          exact ⟨⟨by omega, by omega⟩, trivial, datO_len x (.inl rfl) (by omega)⟩
    · rename_i hk
      rcases (show 1 + (gtB x 0).tmod 4 = 3 ∨ 1 + (gtB x 0).tmod 4 = 4 by omega) with e | e
      · rw [e, datO_nil x (by decide)]
        rfl
      · rw [e]
        rw [if_neg (show ¬ ((4 : Int) = 1) by decide), if_neg (show ¬ ((4 : Int) = 2) by decide), if_neg (show ¬ ((4 : Int) = 3) by decide), if_pos (show (4 : Int) = 4 by decide)]
        simp only [rB, Bool.and_eq_true, decide_eq_true_eq]
        exact ⟨trivial, if_neg (by decide), datO_len x (.inr rfl) (by omega)⟩
  unfold isRB
  rw [decide_eq_true (show 1 ≤ (opV x m).2.2.1 by omega), decide_eq_true (show (opV x m).2.2.1 ≤ 65536 by omega), kR]
  rfl
theorem chk_of {m N : Int} : ∀ {l : List OpT} {left i : Int}, (∀ x ∈ l, isRB x m = true) → lenS l = left → chkF m N l left i = (N, 0)
  | [], left, i, _, h => by
    have h : (0 : Int) = left := h
    rw [chkF, if_neg (by omega)]
  | x :: l, left, i, hr, h => by
    have h1 := hr x (by simp)
    have h2 := isRB_len h1
    have h3 := lenS_pos (l := l) fun y hy => hr y (by simp [hy])
    rw [lenS_cons] at h
    rw [chkF, if_neg (by rw [h1]; decide), if_neg (by omega)]
    exact chk_of (fun y hy => hr y (by simp [hy])) (by omega)
theorem chkV_of {li : Bool} {m o : Int} {l : List OpT} (h0 : 0 ≤ m) (h1 : m ≤ 65536) (ho : o ≤ 65536) (hl : l.length ≤ 4096) (hr : ∀ x ∈ l, isRB x m = true) (hs : lenS l = o) : chkV (li, m, o, l) = ((l.length : Int), (0 : Int)) := by
  have := lenS_pos hr
  unfold chkV
  rw [if_pos ⟨by simp [szB]; omega, by simp [szB]; omega, hl⟩]
  exact chk_of hr hs
theorem symV_of {p : PaT} {n : Int} (h : chkV p = (n, 0)) : symV p = (symF p.2.2.2, 0) := by
  unfold symV; rw [if_pos (by rw [h])]
theorem sym_mem {m : Int} : ∀ {l : List OpT}, (∀ x ∈ l, isRB x m = true) → ∀ s ∈ symF l, ∃ x ∈ l, ∃ k : Nat, (k : Int) < x.2.2.1 ∧ s = elO x.1.toNat x k
  | [], _, s, h => by cases h
  | x :: l, hr, s, h => by
    rw [symF] at h
    rcases List.mem_append.1 h with h | h
    · obtain ⟨k, h1, h2⟩ := gen_mem _ _ _ _ h
      have := (isRB_kind (hr x (by simp))).2
      exact ⟨x, by simp, k, by omega, by rw [h2, Nat.zero_add]⟩
    · obtain ⟨y, hy, k, h1, h2⟩ := sym_mem (fun y hy => hr y (by simp [hy])) s h
      exact ⟨y, by simp [hy], k, h1, h2⟩
theorem sym_at {m : Int} : ∀ {l : List OpT}, (∀ x ∈ l, isRB x m = true) → ∀ (i : Nat) (hi : i < l.length) (k : Nat), (k : Int) < l[i].2.2.1 → (symF l)[(lenS (l.take i)).toNat + k]? = some (elO l[i].1.toNat l[i] k)
  | [], _, i, hi, k, _ => by cases hi
  | x :: l, hr, 0, _, k, hk => by
    have hx := (isRB_kind (hr x (by simp))).2
    have hk : (k : Int) < x.2.2.1 := hk
    have e : (lenS ((x :: l).take 0)).toNat + k = k := by simp [lenS]
    have hl : (symsO x.1.toNat x).length = cntO x.1.toNat x := by unfold symsO; exact gen_len _ _ _
    rw [e, symF, List.getElem?_append_left (by omega)]
    unfold symsO
    rw [gen_get _ _ _ _ (by omega), Nat.zero_add]
    rfl
  | x :: l, hr, i + 1, hi, k, hk => by
    have hx := (isRB_kind (hr x (by simp))).2
    have hr' : ∀ y ∈ l, isRB y m = true := fun y hy => hr y (by simp [hy])
    have ih := sym_at hr' i (by simpa using hi) k hk
    have hp : 0 ≤ lenS (l.take i) := lenS_pos fun y hy => hr' y (List.mem_of_mem_take hy)
    have hl : (symsO x.1.toNat x).length = cntO x.1.toNat x := by unfold symsO; exact gen_len _ _ _
    rw [List.take_succ_cons, lenS_cons, symF, List.getElem?_append_right (by omega)]
    have e : (x.2.2.1 + lenS (l.take i)).toNat + k - (symsO x.1.toNat x).length = (lenS (l.take i)).toNat + k := by omega
    rw [e]
    exact ih
theorem isRB_part {x : OpT} {m : Int} (h : isRB x m = true) (hm : 0 ≤ m ∧ m < 16777216) (hk : x.1 = 1 ∨ x.1 = 2) : 0 ≤ x.2.1 ∧ x.2.1 + x.2.2.1 ≤ m := by
  unfold isRB kR at h
  simp only [Bool.and_eq_true, decide_eq_true_eq] at h
  obtain ⟨h1, h2, h3⟩ := h
  have w : IntKind.i64.wrap (m - x.2.2.1) = m - x.2.2.1 := IntWalk.i64_in _ (by omega)
  rcases hk with e | e
  · rw [if_pos e] at h3
    simp only [rB, isPartB, w, Bool.and_eq_true, decide_eq_true_eq] at h3
    omega
  · rw [if_neg (by omega), if_pos e] at h3
    simp only [rB, isPartB, w, Bool.and_eq_true, decide_eq_true_eq] at h3
    omega
theorem elO_ok {x : OpT} {m : Int} {old : List Int} (h : isRB x m = true) (hm : m < 16777216) (ho : (old.length : Int) = m) {k : Nat} (hk : (k : Int) < x.2.2.1) : ruOK old (elO x.1.toNat x k) = true := by
  have hl := isRB_len h
  rcases (isRB_kind h).1 with e | e | e | e
  · have := isRB_part h ⟨by omega, hm⟩ (.inl e)
    have w : IntKind.i64.wrap (x.2.1 + k) = x.2.1 + k := IntWalk.i64_in _ (by omega)
    rw [e]
    simp [ruOK, elO, w]; omega
  · have := isRB_part h ⟨by omega, hm⟩ (.inr e)
    have w : IntKind.i64.wrap (x.2.1 + k) = x.2.1 + k := IntWalk.i64_in _ (by omega)
    rw [e]
    simp [ruOK, elO, w]; omega
  · rw [e]; rfl
  · rw [e]; rfl
theorem runV_of {m : Int} {old : List Int} {l : List OpT} (hr : ∀ x ∈ l, isRB x m = true) (hm : m < 16777216) (ho : (old.length : Int) = m) : runV old (symF l) = ((symF l).map (ruB old), 0) := by
  unfold runV
  rw [if_pos]
  rw [List.all_eq_true]
  intro s hs
  obtain ⟨x, hx, k, hk, rfl⟩ := sym_mem hr s hs
  exact elO_ok (hr x hx) hm ho hk
theorem szO_right {l : List (List Int)} {m : Int} (hl : preL4 l) (h0 : 0 ≤ m) (h1 : m ≤ 65536) : ∀ x ∈ szO l m, isRB x m = true := fun x hx => by
  unfold szO szL at hx
  obtain ⟨j, _, rfl⟩ := List.mem_map.1 hx
  exact opV_right (hl j) h0 (by omega)
theorem szO_len (l : List (List Int)) (m : Int) : (szO l m).length ≤ 6 := by
  unfold szO szK; rw [szL_len]; omega
theorem szO_sum {l : List (List Int)} {m : Int} (hl : preL4 l) (h0 : 0 ≤ m) : 0 ≤ lenS (szO l m) ∧ lenS (szO l m) ≤ 30 := by
  have := szL_sum hl h0 (szK l)
  have h6 : szK l ≤ 6 := by unfold szK; omega
  unfold szO
  omega
theorem szV_chk {l : List (List Int)} {m : Int} (hl : preL4 l) (h0 : 0 ≤ m) (h1 : m ≤ 65536) : chkV (szV l m) = (((szO l m).length : Int), (0 : Int)) := by
  have h30 := szO_sum hl h0
  have h6 := szO_len l m
  exact chkV_of h0 h1 (by omega) (by omega) (szO_right hl h0 h1) rfl
end Go.Proofs.YtikikmhlicoheaaGreatDoor
namespace Go.Proofs.YtikikmhlicoheaaGreatDoor
open Go.Px Go.Ax
set_option maxRecDepth 100000
attribute [local irreducible] Go.Px.sy Go.Px.syE
abbrev L5S (m o : Int) (l : List OpT) (old out : List Int) (s : List SyT) (a i : Nat) : PS := ⟨[(5, .bool true), (6, .ptr 6 0), (7, .sl uB old), (8, .sl uB out), (10, .sl syS s), (14, .int .i64 (a : Nat)), (15, .int .i64 (i : Nat))], [(6, .var [.bool false, .int .i64 m, .int .i64 o, .sl opS l])]⟩
abbrev L5K (m o : Int) (l : List OpT) (old out : List Int) (s : List SyT) (a i k : Nat) : PS := ⟨[(5, .bool true), (6, .ptr 6 0), (7, .sl uB old), (8, .sl uB out), (10, .sl syS s), (14, .int .i64 (a : Nat)), (15, .int .i64 (i : Nat)), (16, .int .i64 (k : Nat))], [(6, .var [.bool false, .int .i64 m, .int .i64 o, .sl opS l])]⟩
abbrev TQ : List SV → List (Nat × LB) → Prop := fun rs _ => rs = [.bool true]
def u8L (b : List Int) : Prop := ∀ j, 0 ≤ gtB b j ∧ gtB b j < 256
section
variable (m : Int) (l : List OpT) (old : List Int) (hr : ∀ x ∈ l, isRB x m = true) (hm : m < 16777216) (ho : (old.length : Int) = m) (hu : u8L old) (hl : l.length < 16777216) (hs : lenS l < 16777216)
include hr hm ho hu hl hs
theorem lenT (i : Nat) (hi : i < l.length) : lenS (l.take (i + 1)) = lenS (l.take i) + l[i].2.2.1 ∧ 0 ≤ lenS (l.take i) ∧ lenS (l.take (i + 1)) ≤ lenS l := by
  have _ := And.intro hm (And.intro ho (And.intro hu (And.intro hl hs)))
  refine ⟨?_, lenS_pos fun y hy => hr y (List.mem_of_mem_take hy), ?_⟩
  · rw [List.take_succ_eq_append_getElem hi, lenS_app]
    simp [lenS]
  · have h : lenS l = lenS (l.take (i + 1)) + lenS (l.drop (i + 1)) := by rw [← lenS_app, List.take_append_drop]
    have := lenS_pos (l := l.drop (i + 1)) fun y hy => hr y (List.mem_of_mem_drop hy)
    omega
theorem s5_inner (i : Nat) (hi : i < l.length)
    (nx : GD 5 Tryz.f5 TQ (hd Tryz.f5 0) (L5S m (lenS l) l old ((symF l).map (ruB old)) (symF l) (lenS (l.take (i + 1))).toNat (i + 1))) : ∀ (c k : Nat), l[i].2.2.1.toNat - k = c → k ≤ l[i].2.2.1.toNat →
    GD 5 Tryz.f5 TQ (hd Tryz.f5 1) (L5K m (lenS l) l old ((symF l).map (ruB old)) (symF l) ((lenS (l.take i)).toNat + k) i k) := by
  have hx := hr _ (List.getElem_mem hi)
  have hlx := isRB_len hx
  obtain ⟨t1, t2, t3⟩ := lenT m l old hr hm ho hu hl hs i hi
  intro c
  induction c with
  | zero =>
    intro k hc hk
    have hk : k = l[i].2.2.1.toNat := by omega
    subst hk
    refine sy_goK cxL5 (vc_s5i m (lenS l) l old _ _ _ i _ _ _) ?_
    rw [Int.toNat_natCast, gtO_at hi, decide_eq_false (by omega), bc_f, IntWalk.i64_in ((i : Int) + 1) (by omega)]
    have e : (lenS (l.take i)).toNat + l[i].2.2.1.toNat = (lenS (l.take (i + 1))).toNat := by omega
    rw [e]
    exact ⟨by omega, by omega, nx.only ⟨rfl, rfl, rfl, rfl, rfl, rfl, rfl, trivial⟩ ⟨rfl, trivial⟩⟩
  | succ c ih =>
    intro k hc hk
    have hk2 : (k : Int) < l[i].2.2.1 := by omega
    have nk := ih (k + 1) (by omega) (by omega)
    have hs2 := sym_at hr i hi k hk2
    have hlen : (lenS (l.take i)).toNat + k < (symF l).length := by
      have := symF_len hr
      omega
    refine sy_goK cxL5 (vc_s5i m (lenS l) l old _ _ _ i k _ _) ?_
    rw [Int.toNat_natCast, gtO_at hi, decide_eq_true hk2, bc_t, IntWalk.i64_in ((k : Int) + 1) (by omega), IntWalk.i64_in ((((lenS (l.take i)).toNat + k : Nat) : Int) + 1) (by omega)]
    have nk' : GD 5 Tryz.f5 TQ (hd Tryz.f5 1) ⟨[(5, .bool true), (6, .ptr 6 0), (7, .sl uB old), (8, .sl uB ((symF l).map (ruB old))), (10, .sl syS (symF l)), (14, .int .i64 ((((lenS (l.take i)).toNat + k : Nat) : Int) + 1)), (15, .int .i64 (i : Nat)), (16, .int .i64 ((k : Int) + 1))], [(6, .var [.bool false, .int .i64 m, .int .i64 (lenS l), .sl opS l])]⟩ := nk
    refine ⟨by omega, by omega, by omega, by omega, bc_of (fun h => ?_) (fun h => ?_)⟩
    · have h : l[i].1 = 1 := of_decide_eq_true h
      have hp := isRB_part hx ⟨by omega, hm⟩ (.inl h)
      have w : IntKind.i64.wrap (l[i].2.1 + (k : Int)) = l[i].2.1 + k := IntWalk.i64_in _ (by omega)
      have es : gtY (symF l) ((lenS (l.take i)).toNat + k) = (true, l[i].2.1 + k, 0) := by
        rw [gtY_at hlen]
        rw [List.getElem?_eq_getElem hlen] at hs2
        have hs2 := Option.some.inj hs2
        rw [hs2, h]
        show (true, IntKind.i64.wrap (l[i].2.1 + k), 0) = _
        rw [w]
      have eo : gtB ((symF l).map (ruB old)) ((lenS (l.take i)).toNat + k) = gtB old (l[i].2.1 + k).toNat := by
        rw [gtB_at (by rw [List.length_map]; exact hlen), List.getElem_map]
        rw [gtY_at hlen] at es
        rw [es]
        show IntKind.u8.wrap (0 + gtB old (l[i].2.1 + k).toNat) = _
        have := hu (l[i].2.1 + k).toNat
        rw [Int.zero_add, IntWalk.u8_in _ (by omega)]
      rw [w, Int.toNat_natCast, es, eo]
      refine ⟨by omega, by omega, by omega, by omega, bc_of (fun h2 => ?_) (fun h2 => ?_)⟩
      · simp at h2
      · refine ⟨by omega, by rw [List.length_map]; omega, by omega, by omega, by omega, by omega, bc_of (fun h3 => ?_) (fun h3 => ?_)⟩
        · exact absurd rfl (of_decide_eq_true h3)
        · exact nk'
    · exact ⟨rfl, nk'⟩
theorem s5_outer : ∀ (c i : Nat), l.length - i = c → i ≤ l.length →
    GD 5 Tryz.f5 TQ (hd Tryz.f5 0) (L5S m (lenS l) l old ((symF l).map (ruB old)) (symF l) (lenS (l.take i)).toNat i) := by
  intro c
  induction c with
  | zero =>
    intro i hc hi
    have hi : i = l.length := by omega
    subst hi
    have h0 := lenS_pos hr
    refine sy_goK cxL5 (vc_s5o m (lenS l) l old _ _ _ _ _ _) ?_
    rw [decide_eq_false (by omega), bc_f, List.take_length, decide_eq_true (show (((lenS l).toNat : Nat) : Int) = lenS l by omega), bc_t]
  | succ c ih =>
    intro i hc hi
    have hil : i < l.length := by omega
    refine sy_goK cxL5 (vc_s5o m (lenS l) l old _ _ _ i _ _) ?_
    rw [decide_eq_true (show (i : Int) < (l.length : Int) by omega), bc_t]
    exact (s5_inner m l old hr hm ho hu hl hs i hil (ih (i + 1) (by omega) (by omega)) _ 0 rfl (Nat.zero_le _)).only ⟨rfl, rfl, rfl, rfl, rfl, rfl, rfl, rfl, trivial⟩ ⟨rfl, trivial⟩
end
end Go.Proofs.YtikikmhlicoheaaGreatDoor
namespace Go.Proofs.YtikikmhlicoheaaGreatDoor
open Go.Px Go.Ax
set_option maxRecDepth 100000
attribute [local irreducible] Go.Px.sy Go.Px.syE
theorem inpL_u8 {b : List Int} (hb : u8L b) (n : Nat) : u8L (inpL b n) := fun j => by
  by_cases h : j < n
  · rw [gtB_at (by rw [inpL_len]; exact h)]
    simp only [inpL, List.getElem_map, List.getElem_range]
    unfold inB
    split
    · exact hb j
    · rw [IntKind.wrap_u8]; omega
  · have : gtB (inpL b n) j = 0 := by
      show gt uB _ _ = _
      unfold gt
      rw [List.getElem?_eq_none (by rw [inpL_len]; omega)]; rfl
    rw [this]; decide
theorem apV_of {old : List Int} {p : PaT} {n : Int} (h : chkV p = (n, 0)) (hm : p.2.1 < 16777216) (ho : (old.length : Int) = p.2.1) : apV old p = ((symF p.2.2.2).map (ruB old), 0) := by
  have hk := chkV_ok (p := p) (by rw [h])
  have hs := symV_of h
  unfold apV
  rw [hs, if_pos rfl]
  unfold plV
  rw [if_pos ho]
  exact runV_of hk.1 hm ho
def ctL5 : Ctr := ⟨[raS, .sl uB], fun x => preM6 x.1.1 x.1.2 ∧ u8L x.2.1, fun _ => [.bool true], fun _ => []⟩
theorem s5_run (z : Int) (l : List (List Int)) (b : List Int) (hz : 0 ≤ z ∧ z < 256) (hl : preL4 l) (hn : l.length < 9223372036854775808) (hb : u8L b) : GD 5 Tryz.f5 TQ [.code (bodyOf Tryz.f5)] (entry [raS, .sl uB] ((z, l), b, ())) := by
  have h0 : 0 ≤ z % 13 ∧ z % 13 < 13 := by omega
  have pz : preM6 z l := ⟨hz, hl, hn⟩
  generalize hm : z % 13 = m at h0
  have e1 : (szV l m).fst = false := rfl
  have e2 : (szV l m).snd.fst = m := rfl
  have e3 : (szV l m).snd.snd.fst = lenS (szO l m) := rfl
  have e4 : (szV l m).snd.snd.snd = szO l m := rfl
  have hch : chkV (false, m, lenS (szO l m), szO l m) = (((szO l m).length : Int), (0 : Int)) := szV_chk hl h0.1 (by omega)
  have hr := szO_right hl h0.1 (by omega)
  have hsy : symV (false, m, lenS (szO l m), szO l m) = (symF (szO l m), 0) := symV_of hch
  have hol : ((inpL b m.toNat).length : Int) = m := by rw [inpL_len]; omega
  have hap : apV (inpL b m.toNat) (false, m, lenS (szO l m), szO l m) = ((symF (szO l m)).map (ruB (inpL b m.toNat)), 0) := apV_of hch (by show m < _; omega) hol
  have hru := runV_of (old := inpL b m.toNat) hr (by omega) hol
  have hw1 : winL uB 0 (inpL b m.toNat).length (inpL b m.toNat) = inpL b m.toNat := winA (e := uB) _
  have hw2 : winL syS 0 (symF (szO l m)).length (symF (szO l m)) = symF (szO l m) := winA (e := syS) _
  have hw3 : winL uB 0 ((symF (szO l m)).map (ruB (inpL b m.toNat))).length ((symF (szO l m)).map (ruB (inpL b m.toNat))) = (symF (szO l m)).map (ruB (inpL b m.toNat)) := winA (e := uB) _
  have h30 := szO_sum hl h0.1
  have hsl := symF_len hr
  refine sy_goK cxL5 (vc_s5 z l b _ _) ?_
  simp only [hm, e1, e2, e3, e4, hsy, hap, hw1, hw2, hru, hw3]
  refine ⟨trivial, pz, (show preI m from ⟨by omega, by omega⟩), by omega, rfl, trivial, by omega, by omega, (show (symF (szO l m)).length < 16777216 by omega), ?_⟩
  have d1 : decide ((0 : Int) ≠ 0) = false := by decide
  have d2 : decide ((((symF (szO l m)).map (ruB (inpL b m.toNat))).length : Int) ≠ lenS (szO l m)) = false := decide_eq_false (by rw [List.length_map]; omega)
  have d3 : decide (((symF (szO l m)).length : Int) ≠ lenS (szO l m)) = false := decide_eq_false (by omega)
  simp only [d1, d2, d3, cond_false, bc_f]
  refine ⟨by omega, by omega, (show ((symF (szO l m)).map (ruB (inpL b m.toNat))).length < 1099511627776 by rw [List.length_map]; omega), ?_⟩
  rw [decide_eq_true trivial, Bool.not_true, bc_f]
  refine Good.frz (i := 1094208) (e := uB) (et := 5) (xs := inpL b m.toNat) rfl (fun c hc => ?_) ?_
  · have hc : c ∈ [0 + (inpL b m.toNat).length ≤ (inpL b m.toNat).length] := hc
    rw [List.mem_singleton] at hc; subst hc; omega
  refine Good.frz (i := 1110592) (e := uB) (et := 5) (xs := (symF (szO l m)).map (ruB (inpL b m.toNat))) rfl (fun c hc => ?_) ?_
  · have hc : c ∈ [0 + ((symF (szO l m)).map (ruB (inpL b m.toNat))).length ≤ ((symF (szO l m)).map (ruB (inpL b m.toNat))).length] := hc
    rw [List.mem_singleton] at hc; subst hc; omega
  refine Good.frz (i := 1131072) (e := syS) (et := 60) (xs := symF (szO l m)) rfl (fun c hc => ?_) ?_
  · have hc : c ∈ [0 + (symF (szO l m)).length ≤ (symF (szO l m)).length] := hc
    rw [List.mem_singleton] at hc; subst hc; omega
  have fin := s5_outer m (szO l m) (inpL b m.toNat) hr (by omega) hol (inpL_u8 hb _) (by have := szO_len l m; omega) (by omega) _ 0 rfl (Nat.zero_le _)
  refine fin.only ⟨rfl, rfl, ?_, ?_, ?_, rfl, rfl, trivial⟩ ⟨rfl, trivial⟩
  · show some (SV.sl uB (winL uB 0 (inpL b m.toNat).length (inpL b m.toNat))) = _
    rw [hw1]
  · show some (SV.sl uB (winL uB 0 ((symF (szO l m)).map (ruB (inpL b m.toNat))).length ((symF (szO l m)).map (ruB (inpL b m.toNat))))) = _
    rw [hw3]
  · show some (SV.sl syS (winL syS 0 (symF (szO l m)).length (symF (szO l m)))) = _
    rw [hw2]
theorem s5_held : Held Tryz.prog G0 5 ctL5 :=
  Held.of cxL5 (fn := Tryz.f5) rfl rfl ⟨by decide, by decide⟩ fun ⟨⟨z, l⟩, b, _⟩ hp =>
    (s5_run z l b hp.1.1 hp.1.2.1 hp.1.2.2 hp.2).post fun rs blk hq => QC.flat (by rw [hq]; rfl) rfl (by rw [hq]; rfl)
end Go.Proofs.YtikikmhlicoheaaGreatDoor
namespace Go.Proofs.YtikikmhlicoheaaGreatDoor
open Go.Px Go.Ax
theorem u8_wf {n : Int} (h : wfD uB n) : 0 ≤ n ∧ n < 256 := by
  have h : (Lit.int IntKind.u8 n).wf = true := h
  simp [Lit.wf, IntKind.min, IntKind.max, IntKind.signed, IntKind.bits] at h
  omega
theorem u8_of {l : List Int} (h : ∀ x ∈ l, wfD uB x) : u8L l := fun j => by
  by_cases hj : j < l.length
  · rw [gtB_at hj]; exact u8_wf (h _ (List.getElem_mem hj))
  · have : gtB l j = 0 := by
      show gt uB _ _ = _
      unfold gt
      rw [List.getElem?_eq_none (by omega)]; rfl
    rw [this]; decide
theorem l4_of {l : List (List Int)} (h : ∀ x ∈ l, wfD a4S x) : preL4 l := fun j => by
  by_cases hj : j < l.length
  · have e : gt a4S l j = l[j] := gtE (e := a4S) hj
    rw [e]
    exact u8_of (h _ (List.getElem_mem hj)).2
  · have : gt a4S l j = List.replicate 4 (0 : Int) := by
      unfold gt
      rw [List.getElem?_eq_none (by omega)]; rfl
    rw [this]
    exact u8_of fun x hx => by
      rw [List.eq_of_mem_replicate hx]; rfl
theorem m6_of {x : Int × List (List Int)} (h : wfD raS x) : preM6 x.1 x.2 := ⟨u8_wf h.1, l4_of h.2.2, h.2.1⟩
end Go.Proofs.YtikikmhlicoheaaGreatDoor
