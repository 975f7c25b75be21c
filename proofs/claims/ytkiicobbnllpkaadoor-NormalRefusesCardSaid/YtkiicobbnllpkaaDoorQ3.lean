/-
 A part of the proof: what pieces of the program give; conditions: those of each theorem.
-/
import Derived.Test.YtkiicobbnllpkaaDoorQ2
import Derived.Test.YtkiicobbnllpkaaDoorHD
set_option linter.unusedVariables false
set_option linter.unusedSimpArgs false
namespace Go.Proofs.YtkiicobbnllpkaaDoor
open Go.Px Go.Ax
set_option maxRecDepth 100000
abbrev w3S : Sh := .arr 3 (.int .i32)
def CLr : CV := [(10, .inl ctSan), (12, .inl ctRaw), (11, .inl ctM6), (25, .inl ctOld), (15, .inl ctCp), (13, .inl ctFo), (17, .inl ctSm), (18, .inl ctSa)]
theorem cxLr : CxOK Tryd.prog tt G0 CLr := (((((((cx0.cons sa_held (fn := Tryd.f18) rfl rfl rfl).cons sm_held (fn := Tryd.f17) rfl rfl rfl).cons fo_held (fn := Tryd.f13) rfl rfl rfl).cons cp_held (fn := Tryd.f15) rfl rfl rfl).cons old_held (fn := Tryd.f25) rfl rfl rfl).cons made6_held (fn := Tryd.f11) rfl rfl rfl).cons raw_held (fn := Tryd.f12) rfl rfl rfl).cons san_held (fn := Tryd.f10) rfl rfl rfl
set_option maxRecDepth 100000
theorem vc_r9a (z:Int) (l4 : List (List Int)) (l : List (List Int)) (w : List Int) (Q : QT) (R : RT) : sy tt G0 CLr Tryd.f9.ntmps Tryd.f9.results.toList Q (fun it S => R it (keepS [3, 5, 6, 7, 9, 10, 11] [3, 5, 37, 48, 59] S)) 12 [.code (bodyOf Tryd.f9)] (entry [raS, .sl a2S, w3S] ((z, l4), l, w, ())) =
  (ctSan.pre () ∧
 ctRaw.pre (l, (9:Int), ()) ∧
 0 + (rawL l (9:Int) (rawK l)).length ≤ (rawL l (9:Int) (rawK l)).length ∧
 (0:Nat) = (List.replicate (0:Nat) syS.dflt).length ∧
 (0:Nat) = (0:Nat) ∧
 0 + (winL syS 0 (rawL l (9:Int) (rawK l)).length (rawL l (9:Int) (rawK l))).length < (2:Nat) ^ (30:Nat) ∧
 (24:Nat) ≤ (2:Nat) ^ (10:Nat) ∧
 (0:Int) ≤ (0:Int) ∧
 (0:Int) < (↑(3:Nat):Int) ∧
 0 < (3:Nat) ∧
 ctOld.pre (IntKind.i64.wrap ((9:Int) + IntKind.i64.wrap (IntKind.u16.wrap (gt (Sh.int IntKind.i32) w (0)))), (0:Int), ()) ∧
 0 + (1:Nat) ≤ ([(true, IntKind.i64.wrap ((9:Int) + IntKind.i64.wrap (IntKind.u16.wrap (gt (Sh.int IntKind.i32) w (0)))), (0:Int))] : List syS.D).length ∧
 0 + (winL syS 0 (rawL l (9:Int) (rawK l)).length (rawL l (9:Int) (rawK l))).length = (List.replicate (0:Nat) syS.dflt ++ winL syS 0 (rawL l (9:Int) (rawK l)).length (rawL l (9:Int) (rawK l))).length ∧
 (0:Nat) = (0:Nat) ∧
 0 + (winL syS 0 (rawL l (9:Int) (rawK l)).length (rawL l (9:Int) (rawK l))).length + (([(true, IntKind.i64.wrap ((9:Int) + IntKind.i64.wrap (IntKind.u16.wrap (gt (Sh.int IntKind.i32) w (0)))), (0:Int))] : List syS.D)).length < (2:Nat) ^ (30:Nat) ∧
 (24:Nat) ≤ (2:Nat) ^ (10:Nat) ∧
 0 + (rawL l (9:Int) (rawK l)).length ≤ (rawL l (9:Int) (rawK l)).length ∧
 (0:Nat) = (List.replicate (0:Nat) syS.dflt).length ∧
 (0:Nat) = (0:Nat) ∧
 0 + (winL syS 0 (rawL l (9:Int) (rawK l)).length (rawL l (9:Int) (rawK l))).length < (2:Nat) ^ (30:Nat) ∧
 (24:Nat) ≤ (2:Nat) ^ (10:Nat) ∧
 (0:Int) ≤ (0:Int) ∧
 (0:Int) < (↑(3:Nat):Int) ∧
 0 < (3:Nat) ∧
 ctOld.pre (IntKind.i64.wrap ((-1:Int) - IntKind.i64.wrap (IntKind.u16.wrap (gt (Sh.int IntKind.i32) w (0)))), (0:Int), ()) ∧
 0 + (1:Nat) ≤ ([(true, IntKind.i64.wrap ((-1:Int) - IntKind.i64.wrap (IntKind.u16.wrap (gt (Sh.int IntKind.i32) w (0)))), (0:Int))] : List syS.D).length ∧
 0 + (winL syS 0 (rawL l (9:Int) (rawK l)).length (rawL l (9:Int) (rawK l))).length = (List.replicate (0:Nat) syS.dflt ++ winL syS 0 (rawL l (9:Int) (rawK l)).length (rawL l (9:Int) (rawK l))).length ∧
 (0:Nat) = (0:Nat) ∧
 0 + (winL syS 0 (rawL l (9:Int) (rawK l)).length (rawL l (9:Int) (rawK l))).length + (([(true, IntKind.i64.wrap ((-1:Int) - IntKind.i64.wrap (IntKind.u16.wrap (gt (Sh.int IntKind.i32) w (0)))), (0:Int))] : List syS.D)).length < (2:Nat) ^ (30:Nat) ∧
 (24:Nat) ≤ (2:Nat) ^ (10:Nat) ∧
 0 + (rawL l (9:Int) (rawK l)).length ≤ (rawL l (9:Int) (rawK l)).length ∧
 (0:Nat) = (List.replicate (0:Nat) syS.dflt).length ∧
 (0:Nat) = (0:Nat) ∧
 0 + (winL syS 0 (rawL l (9:Int) (rawK l)).length (rawL l (9:Int) (rawK l))).length < (2:Nat) ^ (30:Nat) ∧
 (24:Nat) ≤ (2:Nat) ^ (10:Nat) ∧
 (0:Int) ≤ (0:Int) ∧
 (0:Int) < (↑(3:Nat):Int) ∧
 0 < (3:Nat) ∧
 0 + (1:Nat) ≤ ([(false, IntKind.i64.wrap ((1:Int) + IntKind.i64.wrap (IntKind.u16.wrap (gt (Sh.int IntKind.i32) w (0)))), (0:Int))] : List syS.D).length ∧
 0 + (winL syS 0 (rawL l (9:Int) (rawK l)).length (rawL l (9:Int) (rawK l))).length = (List.replicate (0:Nat) syS.dflt ++ winL syS 0 (rawL l (9:Int) (rawK l)).length (rawL l (9:Int) (rawK l))).length ∧
 (0:Nat) = (0:Nat) ∧
 0 + (winL syS 0 (rawL l (9:Int) (rawK l)).length (rawL l (9:Int) (rawK l))).length + (([(false, IntKind.i64.wrap ((1:Int) + IntKind.i64.wrap (IntKind.u16.wrap (gt (Sh.int IntKind.i32) w (0)))), (0:Int))] : List syS.D)).length < (2:Nat) ^ (30:Nat) ∧
 (24:Nat) ≤ (2:Nat) ^ (10:Nat) ∧
 R (midI 12 [] [Item.code (bodyOf Tryd.f9)]) { env := [(3, .ptr 3 0), (5, .ptr 5 0), (6, .bool false), (7, .bool true), (9, .win true syS 37 0 (0 + (winL syS 0 (rawL l (9:Int) (rawK l)).length (rawL l (9:Int) (rawK l))).length + (([(true, IntKind.i64.wrap ((9:Int) + IntKind.i64.wrap (IntKind.u16.wrap (gt (Sh.int IntKind.i32) w (0)))), (0:Int))] : List syS.D)).length)), (10, .win true syS 48 0 (0 + (winL syS 0 (rawL l (9:Int) (rawK l)).length (rawL l (9:Int) (rawK l))).length + (([(true, IntKind.i64.wrap ((-1:Int) - IntKind.i64.wrap (IntKind.u16.wrap (gt (Sh.int IntKind.i32) w (0)))), (0:Int))] : List syS.D)).length)), (11, .win true syS 59 0 (0 + (winL syS 0 (rawL l (9:Int) (rawK l)).length (rawL l (9:Int) (rawK l))).length + (([(false, IntKind.i64.wrap ((1:Int) + IntKind.i64.wrap (IntKind.u16.wrap (gt (Sh.int IntKind.i32) w (0)))), (0:Int))] : List syS.D)).length))], blk := [(3, .var [.int .u8 z, .sl (Sh.arr (4:Nat) uB) l4]), (5, .var [.arr (3:Nat) (Sh.int IntKind.i32) w]), (37, .row 52 syS (List.replicate (0:Nat) syS.dflt ++ winL syS 0 (rawL l (9:Int) (rawK l)).length (rawL l (9:Int) (rawK l)) ++ ([(true, IntKind.i64.wrap ((9:Int) + IntKind.i64.wrap (IntKind.u16.wrap (gt (Sh.int IntKind.i32) w (0)))), (0:Int))] : List syS.D))), (48, .row 52 syS (List.replicate (0:Nat) syS.dflt ++ winL syS 0 (rawL l (9:Int) (rawK l)).length (rawL l (9:Int) (rawK l)) ++ ([(true, IntKind.i64.wrap ((-1:Int) - IntKind.i64.wrap (IntKind.u16.wrap (gt (Sh.int IntKind.i32) w (0)))), (0:Int))] : List syS.D))), (59, .row 52 syS (List.replicate (0:Nat) syS.dflt ++ winL syS 0 (rawL l (9:Int) (rawK l)).length (rawL l (9:Int) (rawK l)) ++ ([(false, IntKind.i64.wrap ((1:Int) + IntKind.i64.wrap (IntKind.u16.wrap (gt (Sh.int IntKind.i32) w (0)))), (0:Int))] : List syS.D)))] }) := by kernel_rfl
def mem_r9b_m0 (z:Int) (l4 : List (List Int)) (a b c : List SyT) (w : List Int) : List (Nat × LB) := [(3, .var [.int .u8 z, .sl (Sh.arr (4:Nat) uB) l4]), (5, .var [.arr (3:Nat) (Sh.int IntKind.i32) w]), (12, .var [.bool (cpV a (9:Int)).1.1, .int .i64 (cpV a (9:Int)).1.2.1, .int .i64 (cpV a (9:Int)).1.2.2.1, .sl opS (cpV a (9:Int)).1.2.2.2]), (14, .var [.bool (cpV b (9:Int)).1.1, .int .i64 (cpV b (9:Int)).1.2.1, .int .i64 (cpV b (9:Int)).1.2.2.1, .sl opS (cpV b (9:Int)).1.2.2.2]), (16, .var [.bool (cpV c (9:Int)).1.1, .int .i64 (cpV c (9:Int)).1.2.1, .int .i64 (cpV c (9:Int)).1.2.2.1, .sl opS (cpV c (9:Int)).1.2.2.2]), (18, .var [.bool (cpV [] (IntKind.i64.wrap (gt (Sh.int IntKind.i32) w (1)))).1.1, .int .i64 (cpV [] (IntKind.i64.wrap (gt (Sh.int IntKind.i32) w (1)))).1.2.1, .int .i64 (cpV [] (IntKind.i64.wrap (gt (Sh.int IntKind.i32) w (1)))).1.2.2.1, .sl opS (cpV [] (IntKind.i64.wrap (gt (Sh.int IntKind.i32) w (1)))).1.2.2.2]), (20, .var [.bool (szV l4 (z % (13:Int))).1, .int .i64 (szV l4 (z % (13:Int))).2.1, .int .i64 (szV l4 (z % (13:Int))).2.2.1, .sl opS (szV l4 (z % (13:Int))).2.2.2]), (21, .var [.bool (szV l4 (z % (13:Int))).1, .int .i64 (szV l4 (z % (13:Int))).2.1, .int .i64 (IntKind.i64.wrap ((szV l4 (z % (13:Int))).2.2.1 + IntKind.i64.wrap ((1:Int) + IntKind.i64.wrap (IntKind.u16.wrap (gt (Sh.int IntKind.i32) w (2)))))), .sl opS (szV l4 (z % (13:Int))).2.2.2]), (22, .var [.bool (foV ((szV l4 (z % (13:Int))).1, (szV l4 (z % (13:Int))).2.1, IntKind.i64.wrap ((szV l4 (z % (13:Int))).2.2.1 + IntKind.i64.wrap ((1:Int) + IntKind.i64.wrap (IntKind.u16.wrap (gt (Sh.int IntKind.i32) w (2))))), (szV l4 (z % (13:Int))).2.2.2)).1.1, .int .i64 (foV ((szV l4 (z % (13:Int))).1, (szV l4 (z % (13:Int))).2.1, IntKind.i64.wrap ((szV l4 (z % (13:Int))).2.2.1 + IntKind.i64.wrap ((1:Int) + IntKind.i64.wrap (IntKind.u16.wrap (gt (Sh.int IntKind.i32) w (2))))), (szV l4 (z % (13:Int))).2.2.2)).1.2.1, .int .i64 (foV ((szV l4 (z % (13:Int))).1, (szV l4 (z % (13:Int))).2.1, IntKind.i64.wrap ((szV l4 (z % (13:Int))).2.2.1 + IntKind.i64.wrap ((1:Int) + IntKind.i64.wrap (IntKind.u16.wrap (gt (Sh.int IntKind.i32) w (2))))), (szV l4 (z % (13:Int))).2.2.2)).1.2.2.1, .sl opS (foV ((szV l4 (z % (13:Int))).1, (szV l4 (z % (13:Int))).2.1, IntKind.i64.wrap ((szV l4 (z % (13:Int))).2.2.1 + IntKind.i64.wrap ((1:Int) + IntKind.i64.wrap (IntKind.u16.wrap (gt (Sh.int IntKind.i32) w (2))))), (szV l4 (z % (13:Int))).2.2.2)).1.2.2.2])]
def mem_r9b_m1 (z:Int) (l4 : List (List Int)) (a b c : List SyT) (w : List Int) : List (Nat × LB) := [(3, .var [.int .u8 z, .sl (Sh.arr (4:Nat) uB) l4]), (5, .var [.arr (3:Nat) (Sh.int IntKind.i32) w]), (12, .var [.bool (cpV a (9:Int)).1.1, .int .i64 (cpV a (9:Int)).1.2.1, .int .i64 (cpV a (9:Int)).1.2.2.1, .sl opS (cpV a (9:Int)).1.2.2.2]), (14, .var [.bool (cpV b (9:Int)).1.1, .int .i64 (cpV b (9:Int)).1.2.1, .int .i64 (cpV b (9:Int)).1.2.2.1, .sl opS (cpV b (9:Int)).1.2.2.2]), (16, .var [.bool (cpV c (9:Int)).1.1, .int .i64 (cpV c (9:Int)).1.2.1, .int .i64 (cpV c (9:Int)).1.2.2.1, .sl opS (cpV c (9:Int)).1.2.2.2]), (18, .var [.bool (cpV [] (IntKind.i64.wrap (gt (Sh.int IntKind.i32) w (1)))).1.1, .int .i64 (cpV [] (IntKind.i64.wrap (gt (Sh.int IntKind.i32) w (1)))).1.2.1, .int .i64 (cpV [] (IntKind.i64.wrap (gt (Sh.int IntKind.i32) w (1)))).1.2.2.1, .sl opS (cpV [] (IntKind.i64.wrap (gt (Sh.int IntKind.i32) w (1)))).1.2.2.2])]
theorem vc_r9b (z:Int) (l4 : List (List Int)) (a b c : List SyT) (w : List Int) (Q : QT) (R : RT) : sy tt G0 CLr Tryd.f9.ntmps Tryd.f9.results.toList Q R 1000 (midI 12 [] [.code (bodyOf Tryd.f9)]) ⟨[(3, .ptr 3 0), (5, .ptr 5 0), (6, .bool false), (7, .bool true), (9, .sl syS a), (10, .sl syS b), (11, .sl syS c)], [(3, .var [.int .u8 z, .sl a4S l4]), (5, .var [.arr 3 (.int .i32) w])]⟩ =
  (ctCp.pre (a, (9:Int), ()) ∧
 ctCp.pre (b, (9:Int), ()) ∧
 ctCp.pre (c, (9:Int), ()) ∧
 (0:Int) ≤ (1:Int) ∧
 (1:Int) < (↑(3:Nat):Int) ∧
 1 < (3:Nat) ∧
 ctCp.pre ([], IntKind.i64.wrap (gt (Sh.int IntKind.i32) w (1)), ()) ∧
 bc (decide ((cpV a (9:Int)).2 ≠ (60:Int))) (true = true ∧
 true = true ∧
 true = true ∧
 Q [.bool false] (mem_r9b_m1 z l4 a b c w)) (bc (bif false then true else decide ((cpV b (9:Int)).2 ≠ (60:Int))) (true = true ∧
 true = true ∧
 Q [.bool false] (mem_r9b_m1 z l4 a b c w)) (bc (bif false then true else decide ((cpV c (9:Int)).2 ≠ (60:Int))) (true = true ∧
 Q [.bool false] (mem_r9b_m1 z l4 a b c w)) ((0:Int) ≤ (1:Int) ∧
 (1:Int) < (↑(3:Nat):Int) ∧
 1 < (3:Nat) ∧
 bc (decide ((0:Int) ≤ gt (Sh.int IntKind.i32) w (1))) ((0:Int) ≤ (1:Int) ∧
 (1:Int) < (↑(3:Nat):Int) ∧
 1 < (3:Nat) ∧
 bc (bif false then true else !decide ((cpV [] (IntKind.i64.wrap (gt (Sh.int IntKind.i32) w (1)))).2 = (0:Int)) == bif true then decide (gt (Sh.int IntKind.i32) w (1) ≤ (65536:Int)) else false) (Q [.bool false] (mem_r9b_m1 z l4 a b c w)) (ctM6.pre ((z, l4), ()) ∧
 (0:Int) ≤ (2:Int) ∧
 (2:Int) < (↑(3:Nat):Int) ∧
 2 < (3:Nat) ∧
 ctFo.pre (((szV l4 (z % (13:Int))).1, (szV l4 (z % (13:Int))).2.1, IntKind.i64.wrap ((szV l4 (z % (13:Int))).2.2.1 + IntKind.i64.wrap ((1:Int) + IntKind.i64.wrap (IntKind.u16.wrap (gt (Sh.int IntKind.i32) w (2))))), (szV l4 (z % (13:Int))).2.2.2), ()) ∧
 bc (decide ((foV ((szV l4 (z % (13:Int))).1, (szV l4 (z % (13:Int))).2.1, IntKind.i64.wrap ((szV l4 (z % (13:Int))).2.2.1 + IntKind.i64.wrap ((1:Int) + IntKind.i64.wrap (IntKind.u16.wrap (gt (Sh.int IntKind.i32) w (2))))), (szV l4 (z % (13:Int))).2.2.2)).2 = (60:Int))) (ctSm.pre (((foV ((szV l4 (z % (13:Int))).1, (szV l4 (z % (13:Int))).2.1, IntKind.i64.wrap ((szV l4 (z % (13:Int))).2.2.1 + IntKind.i64.wrap ((1:Int) + IntKind.i64.wrap (IntKind.u16.wrap (gt (Sh.int IntKind.i32) w (2))))), (szV l4 (z % (13:Int))).2.2.2)).1.1, (foV ((szV l4 (z % (13:Int))).1, (szV l4 (z % (13:Int))).2.1, IntKind.i64.wrap ((szV l4 (z % (13:Int))).2.2.1 + IntKind.i64.wrap ((1:Int) + IntKind.i64.wrap (IntKind.u16.wrap (gt (Sh.int IntKind.i32) w (2))))), (szV l4 (z % (13:Int))).2.2.2)).1.2.1, (foV ((szV l4 (z % (13:Int))).1, (szV l4 (z % (13:Int))).2.1, IntKind.i64.wrap ((szV l4 (z % (13:Int))).2.2.1 + IntKind.i64.wrap ((1:Int) + IntKind.i64.wrap (IntKind.u16.wrap (gt (Sh.int IntKind.i32) w (2))))), (szV l4 (z % (13:Int))).2.2.2)).1.2.2.1, (foV ((szV l4 (z % (13:Int))).1, (szV l4 (z % (13:Int))).2.1, IntKind.i64.wrap ((szV l4 (z % (13:Int))).2.2.1 + IntKind.i64.wrap ((1:Int) + IntKind.i64.wrap (IntKind.u16.wrap (gt (Sh.int IntKind.i32) w (2))))), (szV l4 (z % (13:Int))).2.2.2)).1.2.2.2), (false, (0:Int), (0:Int), []), ()) ∧
 bc (bif true then smB ((foV ((szV l4 (z % (13:Int))).1, (szV l4 (z % (13:Int))).2.1, IntKind.i64.wrap ((szV l4 (z % (13:Int))).2.2.1 + IntKind.i64.wrap ((1:Int) + IntKind.i64.wrap (IntKind.u16.wrap (gt (Sh.int IntKind.i32) w (2))))), (szV l4 (z % (13:Int))).2.2.2)).1.1, (foV ((szV l4 (z % (13:Int))).1, (szV l4 (z % (13:Int))).2.1, IntKind.i64.wrap ((szV l4 (z % (13:Int))).2.2.1 + IntKind.i64.wrap ((1:Int) + IntKind.i64.wrap (IntKind.u16.wrap (gt (Sh.int IntKind.i32) w (2))))), (szV l4 (z % (13:Int))).2.2.2)).1.2.1, (foV ((szV l4 (z % (13:Int))).1, (szV l4 (z % (13:Int))).2.1, IntKind.i64.wrap ((szV l4 (z % (13:Int))).2.2.1 + IntKind.i64.wrap ((1:Int) + IntKind.i64.wrap (IntKind.u16.wrap (gt (Sh.int IntKind.i32) w (2))))), (szV l4 (z % (13:Int))).2.2.2)).1.2.2.1, (foV ((szV l4 (z % (13:Int))).1, (szV l4 (z % (13:Int))).2.1, IntKind.i64.wrap ((szV l4 (z % (13:Int))).2.2.1 + IntKind.i64.wrap ((1:Int) + IntKind.i64.wrap (IntKind.u16.wrap (gt (Sh.int IntKind.i32) w (2))))), (szV l4 (z % (13:Int))).2.2.2)).1.2.2.2) (false, (0:Int), (0:Int), []) else false) (ctSa.pre ((szV l4 (z % (13:Int))), ((szV l4 (z % (13:Int))).1, (szV l4 (z % (13:Int))).2.1, IntKind.i64.wrap ((szV l4 (z % (13:Int))).2.2.1 + IntKind.i64.wrap ((1:Int) + IntKind.i64.wrap (IntKind.u16.wrap (gt (Sh.int IntKind.i32) w (2))))), (szV l4 (z % (13:Int))).2.2.2), ()) ∧
 bc (bif true then !saV (szV l4 (z % (13:Int))) ((szV l4 (z % (13:Int))).1, (szV l4 (z % (13:Int))).2.1, IntKind.i64.wrap ((szV l4 (z % (13:Int))).2.2.1 + IntKind.i64.wrap ((1:Int) + IntKind.i64.wrap (IntKind.u16.wrap (gt (Sh.int IntKind.i32) w (2))))), (szV l4 (z % (13:Int))).2.2.2) else false) (ctSa.pre (((szV l4 (z % (13:Int))).1, (szV l4 (z % (13:Int))).2.1, IntKind.i64.wrap ((szV l4 (z % (13:Int))).2.2.1 + IntKind.i64.wrap ((1:Int) + IntKind.i64.wrap (IntKind.u16.wrap (gt (Sh.int IntKind.i32) w (2))))), (szV l4 (z % (13:Int))).2.2.2), ((szV l4 (z % (13:Int))).1, (szV l4 (z % (13:Int))).2.1, IntKind.i64.wrap ((szV l4 (z % (13:Int))).2.2.1 + IntKind.i64.wrap ((1:Int) + IntKind.i64.wrap (IntKind.u16.wrap (gt (Sh.int IntKind.i32) w (2))))), (szV l4 (z % (13:Int))).2.2.2), ()) ∧
 bc (bif true then !saV ((szV l4 (z % (13:Int))).1, (szV l4 (z % (13:Int))).2.1, IntKind.i64.wrap ((szV l4 (z % (13:Int))).2.2.1 + IntKind.i64.wrap ((1:Int) + IntKind.i64.wrap (IntKind.u16.wrap (gt (Sh.int IntKind.i32) w (2))))), (szV l4 (z % (13:Int))).2.2.2) ((szV l4 (z % (13:Int))).1, (szV l4 (z % (13:Int))).2.1, IntKind.i64.wrap ((szV l4 (z % (13:Int))).2.2.1 + IntKind.i64.wrap ((1:Int) + IntKind.i64.wrap (IntKind.u16.wrap (gt (Sh.int IntKind.i32) w (2))))), (szV l4 (z % (13:Int))).2.2.2) else false) (Q [.bool true] (mem_r9b_m0 z l4 a b c w)) (false = false ∧
 Q [.bool false] (mem_r9b_m0 z l4 a b c w))) (false = false ∧
 false = false ∧
 Q [.bool false] (mem_r9b_m0 z l4 a b c w))) (false = false ∧
 false = false ∧
 false = false ∧
 Q [.bool false] (mem_r9b_m0 z l4 a b c w))) (false = false ∧
 false = false ∧
 false = false ∧
 false = false ∧
 Q [.bool false] (mem_r9b_m0 z l4 a b c w)))) (false = false ∧
 bc (bif false then true else !decide ((cpV [] (IntKind.i64.wrap (gt (Sh.int IntKind.i32) w (1)))).2 = (0:Int)) == false) (Q [.bool false] (mem_r9b_m1 z l4 a b c w)) (ctM6.pre ((z, l4), ()) ∧
 (0:Int) ≤ (2:Int) ∧
 (2:Int) < (↑(3:Nat):Int) ∧
 2 < (3:Nat) ∧
 ctFo.pre (((szV l4 (z % (13:Int))).1, (szV l4 (z % (13:Int))).2.1, IntKind.i64.wrap ((szV l4 (z % (13:Int))).2.2.1 + IntKind.i64.wrap ((1:Int) + IntKind.i64.wrap (IntKind.u16.wrap (gt (Sh.int IntKind.i32) w (2))))), (szV l4 (z % (13:Int))).2.2.2), ()) ∧
 bc (decide ((foV ((szV l4 (z % (13:Int))).1, (szV l4 (z % (13:Int))).2.1, IntKind.i64.wrap ((szV l4 (z % (13:Int))).2.2.1 + IntKind.i64.wrap ((1:Int) + IntKind.i64.wrap (IntKind.u16.wrap (gt (Sh.int IntKind.i32) w (2))))), (szV l4 (z % (13:Int))).2.2.2)).2 = (60:Int))) (ctSm.pre (((foV ((szV l4 (z % (13:Int))).1, (szV l4 (z % (13:Int))).2.1, IntKind.i64.wrap ((szV l4 (z % (13:Int))).2.2.1 + IntKind.i64.wrap ((1:Int) + IntKind.i64.wrap (IntKind.u16.wrap (gt (Sh.int IntKind.i32) w (2))))), (szV l4 (z % (13:Int))).2.2.2)).1.1, (foV ((szV l4 (z % (13:Int))).1, (szV l4 (z % (13:Int))).2.1, IntKind.i64.wrap ((szV l4 (z % (13:Int))).2.2.1 + IntKind.i64.wrap ((1:Int) + IntKind.i64.wrap (IntKind.u16.wrap (gt (Sh.int IntKind.i32) w (2))))), (szV l4 (z % (13:Int))).2.2.2)).1.2.1, (foV ((szV l4 (z % (13:Int))).1, (szV l4 (z % (13:Int))).2.1, IntKind.i64.wrap ((szV l4 (z % (13:Int))).2.2.1 + IntKind.i64.wrap ((1:Int) + IntKind.i64.wrap (IntKind.u16.wrap (gt (Sh.int IntKind.i32) w (2))))), (szV l4 (z % (13:Int))).2.2.2)).1.2.2.1, (foV ((szV l4 (z % (13:Int))).1, (szV l4 (z % (13:Int))).2.1, IntKind.i64.wrap ((szV l4 (z % (13:Int))).2.2.1 + IntKind.i64.wrap ((1:Int) + IntKind.i64.wrap (IntKind.u16.wrap (gt (Sh.int IntKind.i32) w (2))))), (szV l4 (z % (13:Int))).2.2.2)).1.2.2.2), (false, (0:Int), (0:Int), []), ()) ∧
 bc (bif true then smB ((foV ((szV l4 (z % (13:Int))).1, (szV l4 (z % (13:Int))).2.1, IntKind.i64.wrap ((szV l4 (z % (13:Int))).2.2.1 + IntKind.i64.wrap ((1:Int) + IntKind.i64.wrap (IntKind.u16.wrap (gt (Sh.int IntKind.i32) w (2))))), (szV l4 (z % (13:Int))).2.2.2)).1.1, (foV ((szV l4 (z % (13:Int))).1, (szV l4 (z % (13:Int))).2.1, IntKind.i64.wrap ((szV l4 (z % (13:Int))).2.2.1 + IntKind.i64.wrap ((1:Int) + IntKind.i64.wrap (IntKind.u16.wrap (gt (Sh.int IntKind.i32) w (2))))), (szV l4 (z % (13:Int))).2.2.2)).1.2.1, (foV ((szV l4 (z % (13:Int))).1, (szV l4 (z % (13:Int))).2.1, IntKind.i64.wrap ((szV l4 (z % (13:Int))).2.2.1 + IntKind.i64.wrap ((1:Int) + IntKind.i64.wrap (IntKind.u16.wrap (gt (Sh.int IntKind.i32) w (2))))), (szV l4 (z % (13:Int))).2.2.2)).1.2.2.1, (foV ((szV l4 (z % (13:Int))).1, (szV l4 (z % (13:Int))).2.1, IntKind.i64.wrap ((szV l4 (z % (13:Int))).2.2.1 + IntKind.i64.wrap ((1:Int) + IntKind.i64.wrap (IntKind.u16.wrap (gt (Sh.int IntKind.i32) w (2))))), (szV l4 (z % (13:Int))).2.2.2)).1.2.2.2) (false, (0:Int), (0:Int), []) else false) (ctSa.pre ((szV l4 (z % (13:Int))), ((szV l4 (z % (13:Int))).1, (szV l4 (z % (13:Int))).2.1, IntKind.i64.wrap ((szV l4 (z % (13:Int))).2.2.1 + IntKind.i64.wrap ((1:Int) + IntKind.i64.wrap (IntKind.u16.wrap (gt (Sh.int IntKind.i32) w (2))))), (szV l4 (z % (13:Int))).2.2.2), ()) ∧
 bc (bif true then !saV (szV l4 (z % (13:Int))) ((szV l4 (z % (13:Int))).1, (szV l4 (z % (13:Int))).2.1, IntKind.i64.wrap ((szV l4 (z % (13:Int))).2.2.1 + IntKind.i64.wrap ((1:Int) + IntKind.i64.wrap (IntKind.u16.wrap (gt (Sh.int IntKind.i32) w (2))))), (szV l4 (z % (13:Int))).2.2.2) else false) (ctSa.pre (((szV l4 (z % (13:Int))).1, (szV l4 (z % (13:Int))).2.1, IntKind.i64.wrap ((szV l4 (z % (13:Int))).2.2.1 + IntKind.i64.wrap ((1:Int) + IntKind.i64.wrap (IntKind.u16.wrap (gt (Sh.int IntKind.i32) w (2))))), (szV l4 (z % (13:Int))).2.2.2), ((szV l4 (z % (13:Int))).1, (szV l4 (z % (13:Int))).2.1, IntKind.i64.wrap ((szV l4 (z % (13:Int))).2.2.1 + IntKind.i64.wrap ((1:Int) + IntKind.i64.wrap (IntKind.u16.wrap (gt (Sh.int IntKind.i32) w (2))))), (szV l4 (z % (13:Int))).2.2.2), ()) ∧
 bc (bif true then !saV ((szV l4 (z % (13:Int))).1, (szV l4 (z % (13:Int))).2.1, IntKind.i64.wrap ((szV l4 (z % (13:Int))).2.2.1 + IntKind.i64.wrap ((1:Int) + IntKind.i64.wrap (IntKind.u16.wrap (gt (Sh.int IntKind.i32) w (2))))), (szV l4 (z % (13:Int))).2.2.2) ((szV l4 (z % (13:Int))).1, (szV l4 (z % (13:Int))).2.1, IntKind.i64.wrap ((szV l4 (z % (13:Int))).2.2.1 + IntKind.i64.wrap ((1:Int) + IntKind.i64.wrap (IntKind.u16.wrap (gt (Sh.int IntKind.i32) w (2))))), (szV l4 (z % (13:Int))).2.2.2) else false) (Q [.bool true] (mem_r9b_m0 z l4 a b c w)) (false = false ∧
 Q [.bool false] (mem_r9b_m0 z l4 a b c w))) (false = false ∧
 false = false ∧
 Q [.bool false] (mem_r9b_m0 z l4 a b c w))) (false = false ∧
 false = false ∧
 false = false ∧
 Q [.bool false] (mem_r9b_m0 z l4 a b c w))) (false = false ∧
 false = false ∧
 false = false ∧
 false = false ∧
 Q [.bool false] (mem_r9b_m0 z l4 a b c w)))))))) := by kernel_rfl
end Go.Proofs.YtkiicobbnllpkaaDoor
namespace Go.Proofs.YtkiicobbnllpkaaDoor
open Go.Px Go.Ax
set_option maxRecDepth 100000
attribute [local irreducible] Go.Px.sy Go.Px.syE
abbrev TQ : List SV → List (Nat × LB) → Prop := fun rs _ => rs = [.bool true]
theorem frzG {f : Nat} {fn : Func} {Q : List SV → List (Nat × LB) → Prop} {it : List Item} {S : PS} {i : Nat} {e : Sh} {et : TypeId} {xs : List e.D} (hl : lk S.blk i = some (.row et e xs)) (hc : cdP i xs.length S = [0 + xs.length ≤ xs.length]) (h : GD f fn Q it (S.frzR i e xs)) : GD f fn Q it S :=
 Good.frz hl (fun c hcc => by rw [hc] at hcc; rw [List.mem_singleton] at hcc; subst hcc; omega) h
theorem u16_bd (n : Int) : 0 ≤ IntKind.u16.wrap n ∧ IntKind.u16.wrap n < 65536 := by
 simp [IntKind.wrap, IntKind.bits, IntKind.signed]; omega
abbrev gI3 (w : List Int) (i : Nat) : Int := gt (Sh.int .i32) w i
def preW (w : List Int) : Prop := ∀ j, -2147483648 ≤ gI3 w j ∧ gI3 w j < 2147483648
theorem cpV_bad {l : List SyT} {m : Int} (h : ¬ (szB m = true ∧ szB l.length = true ∧ l.all (sOK m) = true)) : cpV l m = ((false, 0, 0, []), 60) := by
 unfold cpV
 rw [if_pos ?_]
 by_cases h2 : (ofV l m).2 = 60
 ·exact h2
 ·exact absurd (ofV_60 h2) h
theorem cpV_nil (m : Int) : cpV [] m = if 0 ≤ m ∧ m ≤ 65536 then ((false, m, 0, []), 0) else ((false, 0, 0, []), 60) := by
 split
 ·rename_i h
  have hz : szB m = true := by simp [szB]; omega
  unfold cpV
  rw [if_neg (ofV_60' ⟨hz, rfl, rfl⟩)]
  rfl
 ·rename_i h
  refine cpV_bad fun q => h ?_
  exact szB_le q.1
theorem bad_sym {s : List SyT} {x : SyT} {m : Int} (h : sOK m x = false) : cpV (s ++ [x]) m = ((false, 0, 0, []), 60) := by
 refine cpV_bad fun q => ?_
 have := List.all_eq_true.1 q.2.2 x (by simp)
 rw [h] at this; cases this
theorem chk60 {m N : Int} : ∀ {l : List OpT} {left i : Int}, (chkF m N l left i).2 = 0 ∨ (chkF m N l left i).2 = 60
 | [], left, i => by
  simp only [chkF]
  split
  ·exact .inr rfl
  ·exact .inl rfl
 | x :: l, left, i => by
  simp only [chkF]
  split
  ·exact .inr rfl
  ·split
   ·exact .inr rfl
   ·exact chk60
theorem chkV60 (p : PaT) : (chkV p).2 = 0 ∨ (chkV p).2 = 60 := by
 unfold chkV
 split
 ·exact chk60
 ·exact .inr rfl
theorem bad_fo {p : PaT} (h : lenS p.2.2.2 ≠ p.2.2.1) : symV p = ([], 60) ∧ foV p = ((false, 0, 0, []), 60) := by
 have hc : (chkV p).2 ≠ 0 := fun q => h (chkV_ok q).2.1
 have h6 : (chkV p).2 = 60 := by rcases chkV60 p with q | q; exact absurd q hc; exact q
 have hs : symV p = ([], 60) := by unfold symV; rw [if_neg hc, h6]
 refine ⟨hs, ?_⟩
 unfold foV
 rw [hs]; rfl
theorem saV_bad {p q : PaT} (h : symV q = ([], 60)) : saV p q = false := by
 unfold saV
 rw [h]; simp
section
variable (z : Int) (l4 : List (List Int)) (w : List Int) (h6 : preM6 z l4) (hw : preW w)
include h6 hw
theorem r9b_run (a b c : List SyT) (la : a.length < 1000) (lb : b.length < 1000) (lc : c.length < 1000) (ha : cpV a 9 = ((false, 0, 0, []), 60)) (hb : cpV b 9 = ((false, 0, 0, []), 60)) (hc : cpV c 9 = ((false, 0, 0, []), 60)) :
  GD 9 Tryd.f9 TQ (midI 12 [] [.code (bodyOf Tryd.f9)]) ⟨[(3, .ptr 3 0), (5, .ptr 5 0), (6, .bool false), (7, .bool true), (9, .sl syS a), (10, .sl syS b), (11, .sl syS c)], [(3, .var [.int .u8 z, .sl a4S l4]), (5, .var [.arr 3 (.int .i32) w])]⟩ := by
 refine sy_go cxLr (vc_r9b z l4 a b c w _ _) ?_
 have m0 : 0 ≤ z % 13 ∧ z % 13 < 13 := by omega
 have hs := szO_sum (m := z % 13) h6.2.1 m0.1
 have hw1 := hw 1
 have hu := u16_bd (gI3 w 2)
 have e1 : IntKind.i64.wrap (gt (Sh.int IntKind.i32) w 1) = gI3 w 1 := IntWalk.i64_in (gI3 w 1) (by omega)
 have e2 : IntKind.i64.wrap (IntKind.u16.wrap (gt (Sh.int IntKind.i32) w 2)) = IntKind.u16.wrap (gI3 w 2) := IntWalk.i64_in (IntKind.u16.wrap (gI3 w 2)) (by omega)
 have e3 : IntKind.i64.wrap (1 + IntKind.u16.wrap (gI3 w 2)) = 1 + IntKind.u16.wrap (gI3 w 2) := IntWalk.i64_in _ (by omega)
 have e4 : IntKind.i64.wrap ((szV l4 (z % 13)).2.2.1 + (1 + IntKind.u16.wrap (gI3 w 2))) = (szV l4 (z % 13)).2.2.1 + (1 + IntKind.u16.wrap (gI3 w 2)) := IntWalk.i64_in _ (by show _ ≤ lenS (szO l4 (z % 13)) + _ ∧ lenS (szO l4 (z % 13)) + _ ≤ _; omega)
 have hq := bad_fo (p := ((szV l4 (z % 13)).1, (szV l4 (z % 13)).2.1, (szV l4 (z % 13)).2.2.1 + (1 + IntKind.u16.wrap (gI3 w 2)), (szV l4 (z % 13)).2.2.2)) (show lenS (szO l4 (z % 13)) ≠ lenS (szO l4 (z % 13)) + _ by omega)
 rw [e1, e2, e3, e4, ha, hb, hc]
 refine ⟨(show a.length < 16777216 by omega), (show b.length < 16777216 by omega), (show c.length < 16777216 by omega), by omega, by omega, by omega, (show (0 : Nat) < 16777216 by decide), ?_⟩
 refine bc_of (fun h => by simp at h) (fun _ => bc_of (fun h => by simp at h) (fun _ => bc_of (fun h => by simp at h) (fun _ => ⟨by omega, by omega, by omega, ?_⟩)))
 rw [cpV_nil]
 refine bc_of (fun h => ⟨by omega, by omega, by omega, bc_of (fun h2 => ?_) (fun _ => ⟨h6, by omega, by omega, by omega, trivial, ?_⟩)⟩) (fun h => ⟨rfl, bc_of (fun h2 => ?_) (fun _ => ⟨h6, by omega, by omega, by omega, trivial, ?_⟩)⟩)
 ·exfalso
  have h : 0 ≤ gI3 w 1 := of_decide_eq_true h
  by_cases h3 : gI3 w 1 ≤ 65536
  ·rw [if_pos ⟨h, h3⟩] at h2
   simp [h3] at h2
  ·rw [if_neg (by omega)] at h2
   simp [h3] at h2
 ·rw [hq.2]
  refine bc_of (fun _ => ⟨(show (0 : Nat) < 1099511627776 by decide), bc_of (fun _ => ⟨trivial, bc_of (fun _ => ⟨trivial, bc_of (fun _ => rfl) (fun h => ?_)⟩) (fun h => ?_)⟩) (fun h => ?_)⟩) (fun h => ?_)
  ·rw [saV_bad hq.1] at h; cases h
  ·rw [saV_bad hq.1] at h; cases h
  ·exact absurd h (by decide)
  ·exact absurd h (by decide)
 ·exfalso
  have h : ¬ 0 ≤ gI3 w 1 := of_decide_eq_false h
  rw [if_neg (by omega)] at h2
  simp at h2
 ·rw [hq.2]
  refine bc_of (fun _ => ⟨(show (0 : Nat) < 1099511627776 by decide), bc_of (fun _ => ⟨trivial, bc_of (fun _ => ⟨trivial, bc_of (fun _ => rfl) (fun h => ?_)⟩) (fun h => ?_)⟩) (fun h => ?_)⟩) (fun h => ?_)
  ·rw [saV_bad hq.1] at h; cases h
  ·rw [saV_bad hq.1] at h; cases h
  ·exact absurd h (by decide)
  ·exact absurd h (by decide)
theorem r9_run (l : List (List Int)) (hl : preL2 l) : GD 9 Tryd.f9 TQ [.code (bodyOf Tryd.f9)] (entry [raS, .sl a2S, w3S] ((z, l4), l, w, ())) := by
 refine sy_goKm cxLr (vc_r9a z l4 l w _ _) ?_
 have hu := u16_bd (gI3 w 0)
 have e2 : IntKind.i64.wrap (IntKind.u16.wrap (gt (Sh.int IntKind.i32) w 0)) = IntKind.u16.wrap (gI3 w 0) := IntWalk.i64_in (IntKind.u16.wrap (gI3 w 0)) (by omega)
 have e3 : IntKind.i64.wrap (9 + IntKind.u16.wrap (gI3 w 0)) = 9 + IntKind.u16.wrap (gI3 w 0) := IntWalk.i64_in _ (by omega)
 have e4 : IntKind.i64.wrap (-1 - IntKind.u16.wrap (gI3 w 0)) = -1 - IntKind.u16.wrap (gI3 w 0) := IntWalk.i64_in _ (by omega)
 have e5 : IntKind.i64.wrap (1 + IntKind.u16.wrap (gI3 w 0)) = 1 + IntKind.u16.wrap (gI3 w 0) := IntWalk.i64_in _ (by omega)
 have hk := rawL_len l 9 (rawK l)
 have hk2 : rawK l ≤ 20 := by unfold rawK; omega
 rw [e2, e3, e4, e5]
 have pr : preRw l 9 := ⟨hl, (show preN 9 from ⟨by omega, by omega⟩)⟩
 generalize rawL l 9 (rawK l) = s at *
 have w1 : winL syS 0 s.length s = s := winA (e := syS) _
 rw [w1]
 have r0 : (List.replicate 0 syS.dflt : List SyT) ++ s = s := rfl
 generalize IntKind.u16.wrap (gI3 w 0) = u at *
 have ba : sOK 9 (true, 9 + u, 0) = false := by simp [sOK]; omega
 have bb : sOK 9 (true, -1 - u, 0) = false := by simp [sOK]; omega
 have bc' : sOK 9 (false, 1 + u, 0) = false := by simp [sOK]; omega
 have t := r9b_run z l4 w h6 hw (s ++ [(true, 9 + u, 0)]) (s ++ [(true, -1 - u, 0)]) (s ++ [(false, 1 + u, 0)]) (by rw [List.length_append, List.length_singleton]; omega) (by rw [List.length_append, List.length_singleton]; omega) (by rw [List.length_append, List.length_singleton]; omega) (bad_sym ba) (bad_sym bb) (bad_sym bc')
 have l30 : 0 + s.length < 2 ^ 30 := by
  show 0 + s.length < 1073741824
  omega
 have l31 : 0 + s.length + 1 < 2 ^ 30 := by
  show 0 + s.length + 1 < 1073741824
  omega
 have sa : ∀ x : SyT, 0 + s.length + 1 = (s ++ [x]).length := fun x => by rw [List.length_append, List.length_singleton]; omega
 refine ⟨trivial, pr, by omega, rfl, rfl, l30, by decide, by omega, by omega, by omega, trivial, Nat.le_refl 1, by rw [r0]; omega, rfl, l31, by decide, by omega, rfl, rfl, l30, by decide, by omega, by omega, by omega, trivial, Nat.le_refl 1, by rw [r0]; omega, rfl, l31, by decide, by omega, rfl, rfl, l30, by decide, by omega, by omega, by omega, Nat.le_refl 1, by rw [r0]; omega, rfl, l31, by decide, ?_⟩
 have win : ∀ (id : Nat) (x : SyT), SV.win true syS id 0 (0 + s.length + ([x] : List syS.D).length) = SV.win true syS id 0 (s ++ [x]).length := fun id x => congrArg (SV.win true syS id 0) (sa x)
 rw [win 37, win 48, win 59, r0]
 refine frzG (i := 37) (e := syS) (et := 52) (xs := s ++ [(true, 9 + u, 0)]) rfl rfl ?_
 refine frzG (i := 48) (e := syS) (et := 52) (xs := s ++ [(true, -1 - u, 0)]) rfl rfl ?_
 refine frzG (i := 59) (e := syS) (et := 52) (xs := s ++ [(false, 1 + u, 0)]) rfl rfl ?_
 have wl : ∀ x : SyT, winL syS 0 (s ++ [x]).length (s ++ [x]) = s ++ [x] := fun x => winA (e := syS) _
 refine t.only ⟨rfl, rfl, rfl, rfl, ?_, ?_, ?_, trivial⟩ ⟨rfl, rfl, trivial⟩
 ·show some (SV.sl syS (winL syS 0 (s ++ [(true, 9 + u, 0)]).length (s ++ [(true, 9 + u, 0)]))) = _
  rw [wl]
 ·show some (SV.sl syS (winL syS 0 (s ++ [(true, -1 - u, 0)]).length (s ++ [(true, -1 - u, 0)]))) = _
  rw [wl]
 ·show some (SV.sl syS (winL syS 0 (s ++ [(false, 1 + u, 0)]).length (s ++ [(false, 1 + u, 0)]))) = _
  rw [wl]
end
def ctL9 : Ctr := ⟨[raS, .sl a2S, w3S], fun x => preM6 x.1.1 x.1.2 ∧ preL2 x.2.1 ∧ preW x.2.2.1, fun _ => [.bool true], fun _ => []⟩
theorem r9_held : Held Tryd.prog G0 9 ctL9 :=
 Held.of cxLr (fn := Tryd.f9) rfl rfl ⟨by decide, by decide⟩ fun ⟨⟨z, l4⟩, l, w, _⟩ hp =>
  (r9_run z l4 w hp.1 hp.2.2 l hp.2.1).post fun rs blk hq => QC.flat (by rw [hq]; rfl) rfl (by rw [hq]; rfl)
end Go.Proofs.YtkiicobbnllpkaaDoor
namespace Go.Proofs.YtkiicobbnllpkaaDoor
open Go.Px Go.Ax
def u8L (b : List Int) : Prop := ∀ j, 0 ≤ gtB b j ∧ gtB b j < 256
theorem u8_wf {n : Int} (h : wfD uB n) : 0 ≤ n ∧ n < 256 := by
 have h : (Lit.int IntKind.u8 n).wf = true := h
 simp [Lit.wf, IntKind.min, IntKind.max, IntKind.signed, IntKind.bits] at h
 omega
theorem i32_wf {n : Int} (h : wfD (.int .i32) n) : -2147483648 ≤ n ∧ n < 2147483648 := by
 have h : (Lit.int IntKind.i32 n).wf = true := h
 simp [Lit.wf, IntKind.min, IntKind.max, IntKind.signed, IntKind.bits] at h
 omega
theorem u8_of {l : List Int} (h : ∀ x ∈ l, wfD uB x) : u8L l := fun j => by
 by_cases hj : j < l.length
 ·rw [gtB_at hj]; exact u8_wf (h _ (List.getElem_mem hj))
 ·have : gtB l j = 0 := by
   show gt uB _ _ = _
   unfold gt
   rw [List.getElem?_eq_none (by omega)]; rfl
  rw [this]; decide
theorem l4_of {l : List (List Int)} (h : ∀ x ∈ l, wfD a4S x) : preL4 l := fun j => by
 by_cases hj : j < l.length
 ·have e : gt a4S l j = l[j] := gtE (e := a4S) hj
  rw [e]
  exact u8_of (h _ (List.getElem_mem hj)).2
 ·have : gt a4S l j = List.replicate 4 (0 : Int) := by
   unfold gt
   rw [List.getElem?_eq_none (by omega)]; rfl
  rw [this]
  exact u8_of fun x hx => by
   rw [List.eq_of_mem_replicate hx]; rfl
theorem m6_of {x : Int × List (List Int)} (h : wfD raS x) : preM6 x.1 x.2 := ⟨u8_wf h.1, l4_of h.2.2, h.2.1⟩
theorem l2_of {l : List (List Int)} (h : ∀ x ∈ l, wfD a2S x) : preL2 l := fun j k => by
 by_cases hj : j < l.length
 ·have e : gt a2S l j = l[j] := gtE (e := a2S) hj
  rw [e]
  exact u8_of (h _ (List.getElem_mem hj)).2 k
 ·have : gt a2S l j = List.replicate 2 (0 : Int) := by
   unfold gt
   rw [List.getElem?_eq_none (by omega)]; rfl
  rw [this]
  exact u8_of (fun x hx => by rw [List.eq_of_mem_replicate hx]; rfl) k
theorem w_of {w : List Int} (h : ∀ x ∈ w, wfD (.int .i32) x) : preW w := fun j => by
 by_cases hj : j < w.length
 ·have e : gI3 w j = w[j] := gtE (e := .int .i32) hj
  rw [e]; exact i32_wf (h _ (List.getElem_mem hj))
 ·have : gI3 w j = 0 := by
   show gt (Sh.int .i32) _ _ = _
   unfold gt
   rw [List.getElem?_eq_none (by omega)]; rfl
  rw [this]; decide
theorem G_get {g : Nat} {x : ABlk} (h : rawG.get g = some x) : g = 0 ∧ x = .cells costCells 111 2 := by
 unfold rawG T.get at h
 split at h
 ·rename_i e; cases h; exact ⟨e, rfl⟩
 ·split at h <;> (simp [T.get] at h)
theorem hG : Glob G0.raw := ⟨fun g x h => by rw [(G_get h).1]; decide, fun g x h => by rw [(G_get h).2]; decide⟩
abbrev H0 : AHeap := ⟨nglob, G0.raw⟩
def Z0 : Nat → Option ABlk := fun g => rawG.get g
theorem gz0 : GZ Z0 G0 := by
 refine ⟨fun g x e => ?_, fun g x e => e⟩
 simp only [G0, lk] at e
 split at e
 ·rename_i h; subst h; cases e
  refine ⟨by decide, fun ν => ⟨0, 0, costCells, 111, 2, rfl, rfl, by decide, ?_⟩⟩
  exact rv_of (.arr 5 coS) costsL ⟨rfl, fun x _ => ⟨trivial, trivial⟩⟩
 ·cases e
theorem fro0 : Px.Fro G0 H0 := ⟨fun i x h => by rw [(G_get h).2]; rfl, fun i x h => by rw [(G_get h).2]; trivial, fun i x h => by rw [(G_get h).1]; decide, gz0⟩
end Go.Proofs.YtkiicobbnllpkaaDoor
