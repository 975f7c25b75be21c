/-
  A part of the proof: what a piece of the program gives; conditions: those of each theorem.
-/
import Derived.Test.YtijeaicbnfiegaaSc12
set_option linter.unusedVariables false
namespace Go.Proofs.Ytijeaicbnfiegaa
open Go.Px Go.Ax
set_option maxRecDepth 100000
theorem vc_law5 (b s : List Int) (Q : List SV → List (Nat × LB) → Prop) (R : List Item → PS → Prop) : sy tt G0 C10 Try.f5.ntmps Try.f5.results.toList Q (fun it S => R it (keepS [5, 6, 7, 8, 9] [8] S)) 1000 [.code (bodyOf Try.f5)] (entry [slB, slB] (b, s, ())) =
    (ctSan.pre () ∧
 ctLimited.pre (b, (100 : Int), ()) ∧
 ctLimited.pre (s, (60 : Int), ()) ∧
 ctOrd.pre (List.take (Int.toNat (100 : Int)) b, ()) ∧
 (0 : Nat) + (mapI (ordB (List.take (Int.toNat (100 : Int)) b))).length ≤
 (mapI (ordB (List.take (Int.toNat (100 : Int)) b))).length ∧
 ctLon.pre
 (List.take (Int.toNat (100 : Int)) b,
 winL (Sh.int IntKind.i64) (0 : Nat) (mapI (ordB (List.take (Int.toNat (100 : Int)) b))).length
 (mapI (ordB (List.take (Int.toNat (100 : Int)) b))),
 List.take (Int.toNat (60 : Int)) s, ()) ∧
 bc
 (bif false then true
 else
 decide
 ((↑(List.take (Int.toNat (60 : Int)) s).length : Int) <
 (↑(lonF (List.take (Int.toNat (100 : Int)) b) (List.take (Int.toNat (60 : Int)) s)).snd : Int)))
 (true = true ∧ true = true ∧ False)
 (bc
 (bif false then true
 else
 decide
 ((↑(List.take (Int.toNat (100 : Int)) b).length : Int) <
 IntKind.i64.wrap
 ((↑(lonF (List.take (Int.toNat (100 : Int)) b) (List.take (Int.toNat (60 : Int)) s)).fst :
 Int) +
 (↑(lonF (List.take (Int.toNat (100 : Int)) b) (List.take (Int.toNat (60 : Int)) s)).snd :
 Int))))
 False
 (bc
 (decide
 ((↑(lonF (List.take (Int.toNat (100 : Int)) b) (List.take (Int.toNat (60 : Int)) s)).snd : Int) =
 (0 : Int)))
 (bc
 (bif false then true
 else
 bif true then
 decide
 ((↑(lonF (List.take (Int.toNat (100 : Int)) b) (List.take (Int.toNat (60 : Int)) s)).fst :
 Int) ≠
 (0 : Int))
 else false)
 (true = true ∧
 Q [SV.bool false]
 [((8 : Nat),
 LB.var
 [SV.int IntKind.i64
 (↑(lonF (List.take (Int.toNat (100 : Int)) b)
 (List.take (Int.toNat (60 : Int)) s)).fst :
 Int),
 SV.int IntKind.i64
 (↑(lonF (List.take (Int.toNat (100 : Int)) b)
 (List.take (Int.toNat (60 : Int)) s)).snd :
 Int)]),
 ((1073728 : Nat),
 LB.row (3 : Nat) (Sh.int IntKind.i64) (mapI (ordB (List.take (Int.toNat (100 : Int)) b))))])
 ((0 : Int) ≤
 (↑(lonF (List.take (Int.toNat (100 : Int)) b) (List.take (Int.toNat (60 : Int)) s)).fst : Int) ∧
 (↑(lonF (List.take (Int.toNat (100 : Int)) b) (List.take (Int.toNat (60 : Int)) s)).fst : Int) ≤
 IntKind.i64.wrap
 ((↑(lonF (List.take (Int.toNat (100 : Int)) b) (List.take (Int.toNat (60 : Int)) s)).fst :
 Int) +
 (↑(lonF (List.take (Int.toNat (100 : Int)) b) (List.take (Int.toNat (60 : Int)) s)).snd :
 Int)) ∧
 IntKind.i64.wrap
 ((↑(lonF (List.take (Int.toNat (100 : Int)) b) (List.take (Int.toNat (60 : Int)) s)).fst :
 Int) +
 (↑(lonF (List.take (Int.toNat (100 : Int)) b)
 (List.take (Int.toNat (60 : Int)) s)).snd :
 Int)) ≤
 (↑(List.take (Int.toNat (100 : Int)) b).length : Int) ∧
 (0 : Int) ≤
 (↑(lonF (List.take (Int.toNat (100 : Int)) b) (List.take (Int.toNat (60 : Int)) s)).snd :
 Int) ∧
 (↑(lonF (List.take (Int.toNat (100 : Int)) b) (List.take (Int.toNat (60 : Int)) s)).snd :
 Int) ≤
 (↑(List.take (Int.toNat (60 : Int)) s).length : Int) ∧
 bc
 (bif false then true
 else
 decide
 (List.map toB
 (Px.part (List.take (Int.toNat (100 : Int)) b)
 (some
 (↑(lonF (List.take (Int.toNat (100 : Int)) b)
 (List.take (Int.toNat (60 : Int)) s)).fst :
 Int))
 (some
 (IntKind.i64.wrap
 ((↑(lonF (List.take (Int.toNat (100 : Int)) b)
 (List.take (Int.toNat (60 : Int)) s)).fst :
 Int) +
 (↑(lonF (List.take (Int.toNat (100 : Int)) b)
 (List.take (Int.toNat (60 : Int)) s)).snd :
 Int))))) ≠
 List.map toB
 (List.take
 (↑(lonF (List.take (Int.toNat (100 : Int)) b)
 (List.take (Int.toNat (60 : Int)) s)).snd :
 Int).toNat
 (List.take (Int.toNat (60 : Int)) s))))
 (Q [SV.bool false]
 [((8 : Nat),
 LB.var
 [SV.int IntKind.i64
 (↑(lonF (List.take (Int.toNat (100 : Int)) b)
 (List.take (Int.toNat (60 : Int)) s)).fst :
 Int),
 SV.int IntKind.i64
 (↑(lonF (List.take (Int.toNat (100 : Int)) b)
 (List.take (Int.toNat (60 : Int)) s)).snd :
 Int)]),
 ((1073728 : Nat),
 LB.row (3 : Nat) (Sh.int IntKind.i64)
 (mapI (ordB (List.take (Int.toNat (100 : Int)) b))))])
 (R (hd Try.f5 (0 : Nat))
 {
 env :=
 [((5 : Nat), SV.bool true),
 ((6 : Nat), SV.sl (Sh.int IntKind.u8) (List.take (Int.toNat (100 : Int)) b)),
 ((7 : Nat), SV.sl (Sh.int IntKind.u8) (List.take (Int.toNat (60 : Int)) s)),
 ((8 : Nat), SV.ptr (8 : Nat) (0 : Nat)),
 ((9 : Nat), SV.int IntKind.i64 (0 : Int))],
 blk :=
 [((8 : Nat),
 LB.var
 [SV.int IntKind.i64
 (↑(lonF (List.take (Int.toNat (100 : Int)) b)
 (List.take (Int.toNat (60 : Int)) s)).fst :
 Int),
 SV.int IntKind.i64
 (↑(lonF (List.take (Int.toNat (100 : Int)) b)
 (List.take (Int.toNat (60 : Int)) s)).snd :
 Int)])] })))
 (false = false ∧
 (0 : Int) ≤
 (↑(lonF (List.take (Int.toNat (100 : Int)) b) (List.take (Int.toNat (60 : Int)) s)).fst : Int) ∧
 (↑(lonF (List.take (Int.toNat (100 : Int)) b) (List.take (Int.toNat (60 : Int)) s)).fst : Int) ≤
 IntKind.i64.wrap
 ((↑(lonF (List.take (Int.toNat (100 : Int)) b) (List.take (Int.toNat (60 : Int)) s)).fst :
 Int) +
 (↑(lonF (List.take (Int.toNat (100 : Int)) b) (List.take (Int.toNat (60 : Int)) s)).snd :
 Int)) ∧
 IntKind.i64.wrap
 ((↑(lonF (List.take (Int.toNat (100 : Int)) b) (List.take (Int.toNat (60 : Int)) s)).fst :
 Int) +
 (↑(lonF (List.take (Int.toNat (100 : Int)) b)
 (List.take (Int.toNat (60 : Int)) s)).snd :
 Int)) ≤
 (↑(List.take (Int.toNat (100 : Int)) b).length : Int) ∧
 (0 : Int) ≤
 (↑(lonF (List.take (Int.toNat (100 : Int)) b) (List.take (Int.toNat (60 : Int)) s)).snd :
 Int) ∧
 (↑(lonF (List.take (Int.toNat (100 : Int)) b) (List.take (Int.toNat (60 : Int)) s)).snd :
 Int) ≤
 (↑(List.take (Int.toNat (60 : Int)) s).length : Int) ∧
 bc
 (bif false then true
 else
 decide
 (List.map toB
 (Px.part (List.take (Int.toNat (100 : Int)) b)
 (some
 (↑(lonF (List.take (Int.toNat (100 : Int)) b)
 (List.take (Int.toNat (60 : Int)) s)).fst :
 Int))
 (some
 (IntKind.i64.wrap
 ((↑(lonF (List.take (Int.toNat (100 : Int)) b)
 (List.take (Int.toNat (60 : Int)) s)).fst :
 Int) +
 (↑(lonF (List.take (Int.toNat (100 : Int)) b)
 (List.take (Int.toNat (60 : Int)) s)).snd :
 Int))))) ≠
 List.map toB
 (List.take
 (↑(lonF (List.take (Int.toNat (100 : Int)) b)
 (List.take (Int.toNat (60 : Int)) s)).snd :
 Int).toNat
 (List.take (Int.toNat (60 : Int)) s))))
 (Q [SV.bool false]
 [((8 : Nat),
 LB.var
 [SV.int IntKind.i64
 (↑(lonF (List.take (Int.toNat (100 : Int)) b)
 (List.take (Int.toNat (60 : Int)) s)).fst :
 Int),
 SV.int IntKind.i64
 (↑(lonF (List.take (Int.toNat (100 : Int)) b)
 (List.take (Int.toNat (60 : Int)) s)).snd :
 Int)]),
 ((1073728 : Nat),
 LB.row (3 : Nat) (Sh.int IntKind.i64)
 (mapI (ordB (List.take (Int.toNat (100 : Int)) b))))])
 (R (hd Try.f5 (0 : Nat))
 {
 env :=
 [((5 : Nat), SV.bool true),
 ((6 : Nat), SV.sl (Sh.int IntKind.u8) (List.take (Int.toNat (100 : Int)) b)),
 ((7 : Nat), SV.sl (Sh.int IntKind.u8) (List.take (Int.toNat (60 : Int)) s)),
 ((8 : Nat), SV.ptr (8 : Nat) (0 : Nat)),
 ((9 : Nat), SV.int IntKind.i64 (0 : Int))],
 blk :=
 [((8 : Nat),
 LB.var
 [SV.int IntKind.i64
 (↑(lonF (List.take (Int.toNat (100 : Int)) b)
 (List.take (Int.toNat (60 : Int)) s)).fst :
 Int),
 SV.int IntKind.i64
 (↑(lonF (List.take (Int.toNat (100 : Int)) b)
 (List.take (Int.toNat (60 : Int)) s)).snd :
 Int)])] }))))) := by kernel_rfl
theorem vc_law5L (x y : List Int) (a0 n i : Int) (Q : List SV → List (Nat × LB) → Prop) (R : List Item → PS → Prop) : sy tt G0 C10 Try.f5.ntmps Try.f5.results.toList Q (fun it S => R it (keepS [5, 6, 7, 8, 9] [8] S)) 1000 (hd Try.f5 0) ⟨[(5, .bool true), (6, .sl (.int .u8) x), (7, .sl (.int .u8) y), (8, .ptr 8 0), (9, .int .i64 i)], [(8, .var [.int .i64 a0, .int .i64 n])]⟩ =
    (bc (decide (i < (↑x.length : Int)))
 ((0 : Int) ≤ i ∧
 i ≤ (↑x.length : Int) ∧
 ctLcp.pre (List.drop i.toNat x, y, ()) ∧
 bc (decide (n < (↑(lcp (List.drop i.toNat x) y) : Int))) False
 (bc (decide ((↑(lcp (List.drop i.toNat x) y) : Int) = n))
 (bc (bif true then decide ((0 : Int) < (↑(lcp (List.drop i.toNat x) y) : Int)) else false)
 (bc (bif false then true else bif true then decide (i < a0) else false)
 (Q [SV.bool false] [((8 : Nat), LB.var [SV.int IntKind.i64 a0, SV.int IntKind.i64 n])])
 (R (hd Try.f5 (0 : Nat))
 {
 env :=
 [((5 : Nat), SV.bool true), ((6 : Nat), SV.sl (Sh.int IntKind.u8) x),
 ((7 : Nat), SV.sl (Sh.int IntKind.u8) y), ((8 : Nat), SV.ptr (8 : Nat) (0 : Nat)),
 ((9 : Nat), SV.int IntKind.i64 (IntKind.i64.wrap (i + (1 : Int))))],
 blk := [((8 : Nat), LB.var [SV.int IntKind.i64 a0, SV.int IntKind.i64 n])] }))
 (false = false ∧
 R (hd Try.f5 (0 : Nat))
 {
 env :=
 [((5 : Nat), SV.bool true), ((6 : Nat), SV.sl (Sh.int IntKind.u8) x),
 ((7 : Nat), SV.sl (Sh.int IntKind.u8) y), ((8 : Nat), SV.ptr (8 : Nat) (0 : Nat)),
 ((9 : Nat), SV.int IntKind.i64 (IntKind.i64.wrap (i + (1 : Int))))],
 blk := [((8 : Nat), LB.var [SV.int IntKind.i64 a0, SV.int IntKind.i64 n])] }))
 (false = false ∧
 false = false ∧
 R (hd Try.f5 (0 : Nat))
 {
 env :=
 [((5 : Nat), SV.bool true), ((6 : Nat), SV.sl (Sh.int IntKind.u8) x),
 ((7 : Nat), SV.sl (Sh.int IntKind.u8) y), ((8 : Nat), SV.ptr (8 : Nat) (0 : Nat)),
 ((9 : Nat), SV.int IntKind.i64 (IntKind.i64.wrap (i + (1 : Int))))],
 blk := [((8 : Nat), LB.var [SV.int IntKind.i64 a0, SV.int IntKind.i64 n])] })))
 (Q [SV.bool true] [((8 : Nat), LB.var [SV.int IntKind.i64 a0, SV.int IntKind.i64 n])])) := by kernel_rfl
theorem vc_law6 (b w m : List Int) (Q : List SV → List (Nat × LB) → Prop) (R : List Item → PS → Prop) : sy tt G0 C10 Try.f6.ntmps Try.f6.results.toList Q R 1000 [.code (bodyOf Try.f6)] (entry [slB, .arr 2 (.int .u8), slB] (b, w, m, ())) =
    (ctSan.pre () ∧
 ctLimited.pre (b, (100 : Int), ()) ∧
 (0 : Int) ≤ (0 : Int) ∧
 (0 : Int) < (↑(2 : Nat) : Int) ∧
 Int.toNat (0 : Int) < (2 : Nat) ∧
 IntKind.i64.wrap ((↑(List.take (Int.toNat (100 : Int)) b).length : Int) + (1 : Int)) ≠ (0 : Int) ∧
 (0 : Int) ≤ (1 : Int) ∧
 (1 : Int) < (↑(2 : Nat) : Int) ∧
 Int.toNat (1 : Int) < (2 : Nat) ∧
 IntKind.i64.wrap
 (IntKind.i64.wrap
 ((↑(List.take (Int.toNat (100 : Int)) b).length : Int) -
 (IntKind.i64.wrap (gt (Sh.int IntKind.u8) w (Int.toNat (0 : Int)))).tmod
 (IntKind.i64.wrap
 ((↑(List.take (Int.toNat (100 : Int)) b).length : Int) + (1 : Int)))) +
 (1 : Int)) ≠
 (0 : Int) ∧
 ctOrd.pre (List.take (Int.toNat (100 : Int)) b, ()) ∧
 (0 : Int) ≤
 (IntKind.i64.wrap (gt (Sh.int IntKind.u8) w (Int.toNat (0 : Int)))).tmod
 (IntKind.i64.wrap ((↑(List.take (Int.toNat (100 : Int)) b).length : Int) + (1 : Int))) ∧
 (IntKind.i64.wrap (gt (Sh.int IntKind.u8) w (Int.toNat (0 : Int)))).tmod
 (IntKind.i64.wrap ((↑(List.take (Int.toNat (100 : Int)) b).length : Int) + (1 : Int))) ≤
 IntKind.i64.wrap
 ((IntKind.i64.wrap (gt (Sh.int IntKind.u8) w (Int.toNat (0 : Int)))).tmod
 (IntKind.i64.wrap
 ((↑(List.take (Int.toNat (100 : Int)) b).length : Int) + (1 : Int))) +
 (IntKind.i64.wrap (gt (Sh.int IntKind.u8) w (Int.toNat (1 : Int)))).tmod
 (IntKind.i64.wrap
 (IntKind.i64.wrap
 ((↑(List.take (Int.toNat (100 : Int)) b).length : Int) -
 (IntKind.i64.wrap (gt (Sh.int IntKind.u8) w (Int.toNat (0 : Int)))).tmod
 (IntKind.i64.wrap
 ((↑(List.take (Int.toNat (100 : Int)) b).length : Int) + (1 : Int)))) +
 (1 : Int)))) ∧
 IntKind.i64.wrap
 ((IntKind.i64.wrap (gt (Sh.int IntKind.u8) w (Int.toNat (0 : Int)))).tmod
 (IntKind.i64.wrap
 ((↑(List.take (Int.toNat (100 : Int)) b).length : Int) + (1 : Int))) +
 (IntKind.i64.wrap (gt (Sh.int IntKind.u8) w (Int.toNat (1 : Int)))).tmod
 (IntKind.i64.wrap
 (IntKind.i64.wrap
 ((↑(List.take (Int.toNat (100 : Int)) b).length : Int) -
 (IntKind.i64.wrap (gt (Sh.int IntKind.u8) w (Int.toNat (0 : Int)))).tmod
 (IntKind.i64.wrap
 ((↑(List.take (Int.toNat (100 : Int)) b).length : Int) + (1 : Int)))) +
 (1 : Int)))) ≤
 (↑(List.take (Int.toNat (100 : Int)) b).length : Int) ∧
 (0 : Nat) + (mapI (ordB (List.take (Int.toNat (100 : Int)) b))).length ≤
 (mapI (ordB (List.take (Int.toNat (100 : Int)) b))).length ∧
 ctLon.pre
 (List.take (Int.toNat (100 : Int)) b,
 winL (Sh.int IntKind.i64) (0 : Nat)
 (mapI (ordB (List.take (Int.toNat (100 : Int)) b))).length
 (mapI (ordB (List.take (Int.toNat (100 : Int)) b))),
 Px.part (List.take (Int.toNat (100 : Int)) b)
 (some
 ((IntKind.i64.wrap (gt (Sh.int IntKind.u8) w (Int.toNat (0 : Int)))).tmod
 (IntKind.i64.wrap
 ((↑(List.take (Int.toNat (100 : Int)) b).length : Int) + (1 : Int)))))
 (some
 (IntKind.i64.wrap
 ((IntKind.i64.wrap (gt (Sh.int IntKind.u8) w (Int.toNat (0 : Int)))).tmod
 (IntKind.i64.wrap
 ((↑(List.take (Int.toNat (100 : Int)) b).length : Int) + (1 : Int))) +
 (IntKind.i64.wrap (gt (Sh.int IntKind.u8) w (Int.toNat (1 : Int)))).tmod
 (IntKind.i64.wrap
 (IntKind.i64.wrap
 ((↑(List.take (Int.toNat (100 : Int)) b).length : Int) -
 (IntKind.i64.wrap
 (gt (Sh.int IntKind.u8) w (Int.toNat (0 : Int)))).tmod
 (IntKind.i64.wrap
 ((↑(List.take (Int.toNat (100 : Int)) b).length : Int) +
 (1 : Int)))) +
 (1 : Int)))))),
 ()) ∧
 (0 : Int) ≤
 (IntKind.i64.wrap (gt (Sh.int IntKind.u8) w (Int.toNat (0 : Int)))).tmod
 (IntKind.i64.wrap
 ((↑(List.take (Int.toNat (100 : Int)) b).length : Int) + (1 : Int))) ∧
 (IntKind.i64.wrap (gt (Sh.int IntKind.u8) w (Int.toNat (0 : Int)))).tmod
 (IntKind.i64.wrap
 ((↑(List.take (Int.toNat (100 : Int)) b).length : Int) + (1 : Int))) ≤
 IntKind.i64.wrap
 ((IntKind.i64.wrap (gt (Sh.int IntKind.u8) w (Int.toNat (0 : Int)))).tmod
 (IntKind.i64.wrap
 ((↑(List.take (Int.toNat (100 : Int)) b).length : Int) + (1 : Int))) +
 (IntKind.i64.wrap (gt (Sh.int IntKind.u8) w (Int.toNat (1 : Int)))).tmod
 (IntKind.i64.wrap
 (IntKind.i64.wrap
 ((↑(List.take (Int.toNat (100 : Int)) b).length : Int) -
 (IntKind.i64.wrap
 (gt (Sh.int IntKind.u8) w (Int.toNat (0 : Int)))).tmod
 (IntKind.i64.wrap
 ((↑(List.take (Int.toNat (100 : Int)) b).length : Int) +
 (1 : Int)))) +
 (1 : Int)))) ∧
 IntKind.i64.wrap
 ((IntKind.i64.wrap (gt (Sh.int IntKind.u8) w (Int.toNat (0 : Int)))).tmod
 (IntKind.i64.wrap
 ((↑(List.take (Int.toNat (100 : Int)) b).length : Int) + (1 : Int))) +
 (IntKind.i64.wrap (gt (Sh.int IntKind.u8) w (Int.toNat (1 : Int)))).tmod
 (IntKind.i64.wrap
 (IntKind.i64.wrap
 ((↑(List.take (Int.toNat (100 : Int)) b).length : Int) -
 (IntKind.i64.wrap
 (gt (Sh.int IntKind.u8) w (Int.toNat (0 : Int)))).tmod
 (IntKind.i64.wrap
 ((↑(List.take (Int.toNat (100 : Int)) b).length : Int) +
 (1 : Int)))) +
 (1 : Int)))) ≤
 (↑(List.take (Int.toNat (100 : Int)) b).length : Int) ∧
 (0 : Nat) = (List.replicate (0 : Nat) (Sh.int IntKind.u8).dflt).length ∧
 (0 : Nat) = (0 : Nat) ∧
 (0 : Nat) +
 (Px.part (List.take (Int.toNat (100 : Int)) b)
 (some
 ((IntKind.i64.wrap
 (gt (Sh.int IntKind.u8) w (Int.toNat (0 : Int)))).tmod
 (IntKind.i64.wrap
 ((↑(List.take (Int.toNat (100 : Int)) b).length : Int) +
 (1 : Int)))))
 (some
 (IntKind.i64.wrap
 ((IntKind.i64.wrap
 (gt (Sh.int IntKind.u8) w (Int.toNat (0 : Int)))).tmod
 (IntKind.i64.wrap
 ((↑(List.take (Int.toNat (100 : Int)) b).length : Int) +
 (1 : Int))) +
 (IntKind.i64.wrap
 (gt (Sh.int IntKind.u8) w (Int.toNat (1 : Int)))).tmod
 (IntKind.i64.wrap
 (IntKind.i64.wrap
 ((↑(List.take (Int.toNat (100 : Int)) b).length :
 Int) -
 (IntKind.i64.wrap
 (gt (Sh.int IntKind.u8) w
 (Int.toNat (0 : Int)))).tmod
 (IntKind.i64.wrap
 ((↑(List.take (Int.toNat (100 : Int))
 b).length :
 Int) +
 (1 : Int)))) +
 (1 : Int))))))).length <
 (2 : Nat) ^ (30 : Nat) ∧
 (1 : Nat) ≤ (2 : Nat) ^ (10 : Nat) ∧
 ctLimited.pre (m, (20 : Int), ()) ∧
 (0 : Nat) +
 (Px.part (List.take (Int.toNat (100 : Int)) b)
 (some
 ((IntKind.i64.wrap
 (gt (Sh.int IntKind.u8) w (Int.toNat (0 : Int)))).tmod
 (IntKind.i64.wrap
 ((↑(List.take (Int.toNat (100 : Int)) b).length : Int) +
 (1 : Int)))))
 (some
 (IntKind.i64.wrap
 ((IntKind.i64.wrap
 (gt (Sh.int IntKind.u8) w
 (Int.toNat (0 : Int)))).tmod
 (IntKind.i64.wrap
 ((↑(List.take (Int.toNat (100 : Int)) b).length :
 Int) +
 (1 : Int))) +
 (IntKind.i64.wrap
 (gt (Sh.int IntKind.u8) w
 (Int.toNat (1 : Int)))).tmod
 (IntKind.i64.wrap
 (IntKind.i64.wrap
 ((↑(List.take (Int.toNat (100 : Int))
 b).length :
 Int) -
 (IntKind.i64.wrap
 (gt (Sh.int IntKind.u8) w
 (Int.toNat (0 : Int)))).tmod
 (IntKind.i64.wrap
 ((↑(List.take (Int.toNat (100 : Int))
 b).length :
 Int) +
 (1 : Int)))) +
 (1 : Int))))))).length =
 (List.replicate (0 : Nat) (Sh.int IntKind.u8).dflt ++
 Px.part (List.take (Int.toNat (100 : Int)) b)
 (some
 ((IntKind.i64.wrap
 (gt (Sh.int IntKind.u8) w (Int.toNat (0 : Int)))).tmod
 (IntKind.i64.wrap
 ((↑(List.take (Int.toNat (100 : Int)) b).length : Int) +
 (1 : Int)))))
 (some
 (IntKind.i64.wrap
 ((IntKind.i64.wrap
 (gt (Sh.int IntKind.u8) w
 (Int.toNat (0 : Int)))).tmod
 (IntKind.i64.wrap
 ((↑(List.take (Int.toNat (100 : Int)) b).length :
 Int) +
 (1 : Int))) +
 (IntKind.i64.wrap
 (gt (Sh.int IntKind.u8) w
 (Int.toNat (1 : Int)))).tmod
 (IntKind.i64.wrap
 (IntKind.i64.wrap
 ((↑(List.take (Int.toNat (100 : Int))
 b).length :
 Int) -
 (IntKind.i64.wrap
 (gt (Sh.int IntKind.u8) w
 (Int.toNat (0 : Int)))).tmod
 (IntKind.i64.wrap
 ((↑(List.take (Int.toNat (100 : Int))
 b).length :
 Int) +
 (1 : Int)))) +
 (1 : Int))))))).length ∧
 (0 : Nat) = (0 : Nat) ∧
 (0 : Nat) +
 (Px.part (List.take (Int.toNat (100 : Int)) b)
 (some
 ((IntKind.i64.wrap
 (gt (Sh.int IntKind.u8) w
 (Int.toNat (0 : Int)))).tmod
 (IntKind.i64.wrap
 ((↑(List.take (Int.toNat (100 : Int)) b).length :
 Int) +
 (1 : Int)))))
 (some
 (IntKind.i64.wrap
 ((IntKind.i64.wrap
 (gt (Sh.int IntKind.u8) w
 (Int.toNat (0 : Int)))).tmod
 (IntKind.i64.wrap
 ((↑(List.take (Int.toNat (100 : Int))
 b).length :
 Int) +
 (1 : Int))) +
 (IntKind.i64.wrap
 (gt (Sh.int IntKind.u8) w
 (Int.toNat (1 : Int)))).tmod
 (IntKind.i64.wrap
 (IntKind.i64.wrap
 ((↑(List.take (Int.toNat (100 : Int))
 b).length :
 Int) -
 (IntKind.i64.wrap
 (gt (Sh.int IntKind.u8) w
 (Int.toNat (0 : Int)))).tmod
 (IntKind.i64.wrap
 ((↑(List.take
 (Int.toNat (100 : Int))
 b).length :
 Int) +
 (1 : Int)))) +
 (1 : Int))))))).length +
 (List.take (Int.toNat (20 : Int)) m).length <
 (2 : Nat) ^ (30 : Nat) ∧
 (1 : Nat) ≤ (2 : Nat) ^ (10 : Nat) ∧
 (0 : Nat) +
 (mapI
 (ordB (List.take (Int.toNat (100 : Int)) b))).length ≤
 (mapI (ordB (List.take (Int.toNat (100 : Int)) b))).length ∧
 (0 : Nat) +
 ((0 : Nat) +
 (Px.part (List.take (Int.toNat (100 : Int)) b)
 (some
 ((IntKind.i64.wrap
 (gt (Sh.int IntKind.u8) w
 (Int.toNat (0 : Int)))).tmod
 (IntKind.i64.wrap
 ((↑(List.take (Int.toNat (100 : Int))
 b).length :
 Int) +
 (1 : Int)))))
 (some
 (IntKind.i64.wrap
 ((IntKind.i64.wrap
 (gt (Sh.int IntKind.u8) w
 (Int.toNat (0 : Int)))).tmod
 (IntKind.i64.wrap
 ((↑(List.take (Int.toNat (100 : Int))
 b).length :
 Int) +
 (1 : Int))) +
 (IntKind.i64.wrap
 (gt (Sh.int IntKind.u8) w
 (Int.toNat (1 : Int)))).tmod
 (IntKind.i64.wrap
 (IntKind.i64.wrap
 ((↑(List.take
 (Int.toNat (100 : Int))
 b).length :
 Int) -
 (IntKind.i64.wrap
 (gt (Sh.int IntKind.u8) w
 (Int.toNat
 (0 : Int)))).tmod
 (IntKind.i64.wrap
 ((↑(List.take
 (Int.toNat
 (100 : Int))
 b).length :
 Int) +
 (1 : Int)))) +
 (1 : Int))))))).length +
 (List.take (Int.toNat (20 : Int)) m).length) ≤
 (List.replicate (0 : Nat) (Sh.int IntKind.u8).dflt ++
 Px.part (List.take (Int.toNat (100 : Int)) b)
 (some
 ((IntKind.i64.wrap
 (gt (Sh.int IntKind.u8) w
 (Int.toNat (0 : Int)))).tmod
 (IntKind.i64.wrap
 ((↑(List.take (Int.toNat (100 : Int))
 b).length :
 Int) +
 (1 : Int)))))
 (some
 (IntKind.i64.wrap
 ((IntKind.i64.wrap
 (gt (Sh.int IntKind.u8) w
 (Int.toNat (0 : Int)))).tmod
 (IntKind.i64.wrap
 ((↑(List.take (Int.toNat (100 : Int))
 b).length :
 Int) +
 (1 : Int))) +
 (IntKind.i64.wrap
 (gt (Sh.int IntKind.u8) w
 (Int.toNat (1 : Int)))).tmod
 (IntKind.i64.wrap
 (IntKind.i64.wrap
 ((↑(List.take
 (Int.toNat (100 : Int))
 b).length :
 Int) -
 (IntKind.i64.wrap
 (gt (Sh.int IntKind.u8) w
 (Int.toNat
 (0 : Int)))).tmod
 (IntKind.i64.wrap
 ((↑(List.take
 (Int.toNat
 (100 : Int))
 b).length :
 Int) +
 (1 : Int)))) +
 (1 : Int)))))) ++
 List.take (Int.toNat (20 : Int)) m).length ∧
 ctLon.pre
 (List.take (Int.toNat (100 : Int)) b,
 winL (Sh.int IntKind.i64) (0 : Nat)
 (mapI
 (ordB
 (List.take (Int.toNat (100 : Int)) b))).length
 (mapI (ordB (List.take (Int.toNat (100 : Int)) b))),
 winL (Sh.int IntKind.u8) (0 : Nat)
 ((0 : Nat) +
 (Px.part (List.take (Int.toNat (100 : Int)) b)
 (some
 ((IntKind.i64.wrap
 (gt (Sh.int IntKind.u8) w
 (Int.toNat (0 : Int)))).tmod
 (IntKind.i64.wrap
 ((↑(List.take (Int.toNat (100 : Int))
 b).length :
 Int) +
 (1 : Int)))))
 (some
 (IntKind.i64.wrap
 ((IntKind.i64.wrap
 (gt (Sh.int IntKind.u8) w
 (Int.toNat (0 : Int)))).tmod
 (IntKind.i64.wrap
 ((↑(List.take
 (Int.toNat (100 : Int))
 b).length :
 Int) +
 (1 : Int))) +
 (IntKind.i64.wrap
 (gt (Sh.int IntKind.u8) w
 (Int.toNat (1 : Int)))).tmod
 (IntKind.i64.wrap
 (IntKind.i64.wrap
 ((↑(List.take
 (Int.toNat
 (100 : Int))
 b).length :
 Int) -
 (IntKind.i64.wrap
 (gt
 (Sh.int IntKind.u8)
 w
 (Int.toNat
 (0 : Int)))).tmod
 (IntKind.i64.wrap
 ((↑(List.take
 (Int.toNat
 (100 : Int))
 b).length :
 Int) +
 (1 : Int)))) +
 (1 : Int))))))).length +
 (List.take (Int.toNat (20 : Int)) m).length)
 (List.replicate (0 : Nat)
 (Sh.int IntKind.u8).dflt ++
 Px.part (List.take (Int.toNat (100 : Int)) b)
 (some
 ((IntKind.i64.wrap
 (gt (Sh.int IntKind.u8) w
 (Int.toNat (0 : Int)))).tmod
 (IntKind.i64.wrap
 ((↑(List.take (Int.toNat (100 : Int))
 b).length :
 Int) +
 (1 : Int)))))
 (some
 (IntKind.i64.wrap
 ((IntKind.i64.wrap
 (gt (Sh.int IntKind.u8) w
 (Int.toNat (0 : Int)))).tmod
 (IntKind.i64.wrap
 ((↑(List.take
 (Int.toNat (100 : Int))
 b).length :
 Int) +
 (1 : Int))) +
 (IntKind.i64.wrap
 (gt (Sh.int IntKind.u8) w
 (Int.toNat (1 : Int)))).tmod
 (IntKind.i64.wrap
 (IntKind.i64.wrap
 ((↑(List.take
 (Int.toNat
 (100 : Int))
 b).length :
 Int) -
 (IntKind.i64.wrap
 (gt (Sh.int IntKind.u8)
 w
 (Int.toNat
 (0 : Int)))).tmod
 (IntKind.i64.wrap
 ((↑(List.take
 (Int.toNat
 (100 : Int))
 b).length :
 Int) +
 (1 : Int)))) +
 (1 : Int)))))) ++
 List.take (Int.toNat (20 : Int)) m),
 ()) ∧
 bc
 (bif true then
 decide
 ((↑(lonF (List.take (Int.toNat (100 : Int)) b)
 (Px.part
 (List.take (Int.toNat (100 : Int)) b)
 (some
 ((IntKind.i64.wrap
 (gt (Sh.int IntKind.u8) w
 (Int.toNat (0 : Int)))).tmod
 (IntKind.i64.wrap
 ((↑(List.take
 (Int.toNat (100 : Int))
 b).length :
 Int) +
 (1 : Int)))))
 (some
 (IntKind.i64.wrap
 ((IntKind.i64.wrap
 (gt (Sh.int IntKind.u8) w
 (Int.toNat
 (0 : Int)))).tmod
 (IntKind.i64.wrap
 ((↑(List.take
 (Int.toNat
 (100 : Int))
 b).length :
 Int) +
 (1 : Int))) +
 (IntKind.i64.wrap
 (gt (Sh.int IntKind.u8) w
 (Int.toNat
 (1 : Int)))).tmod
 (IntKind.i64.wrap
 (IntKind.i64.wrap
 ((↑(List.take
 (Int.toNat
 (100 : Int))
 b).length :
 Int) -
 (IntKind.i64.wrap
 (gt
 (Sh.int
 IntKind.u8)
 w
 (Int.toNat
 (0 :
 Int)))).tmod
 (IntKind.i64.wrap
 ((↑(List.take
 (Int.toNat
 (100 :
 Int))
 b).length :
 Int) +
 (1 : Int)))) +
 (1 : Int)))))))).snd :
 Int) =
 IntKind.i64.wrap
 (IntKind.i64.wrap
 ((IntKind.i64.wrap
 (gt (Sh.int IntKind.u8) w
 (Int.toNat (0 : Int)))).tmod
 (IntKind.i64.wrap
 ((↑(List.take (Int.toNat (100 : Int))
 b).length :
 Int) +
 (1 : Int))) +
 (IntKind.i64.wrap
 (gt (Sh.int IntKind.u8) w
 (Int.toNat (1 : Int)))).tmod
 (IntKind.i64.wrap
 (IntKind.i64.wrap
 ((↑(List.take
 (Int.toNat (100 : Int))
 b).length :
 Int) -
 (IntKind.i64.wrap
 (gt (Sh.int IntKind.u8) w
 (Int.toNat
 (0 : Int)))).tmod
 (IntKind.i64.wrap
 ((↑(List.take
 (Int.toNat
 (100 : Int))
 b).length :
 Int) +
 (1 : Int)))) +
 (1 : Int)))) -
 (IntKind.i64.wrap
 (gt (Sh.int IntKind.u8) w
 (Int.toNat (0 : Int)))).tmod
 (IntKind.i64.wrap
 ((↑(List.take (Int.toNat (100 : Int))
 b).length :
 Int) +
 (1 : Int)))))
 else false)
 (bc
 (bif true then
 decide
 ((↑(lonF (List.take (Int.toNat (100 : Int)) b)
 (Px.part
 (List.take (Int.toNat (100 : Int)) b)
 (some
 ((IntKind.i64.wrap
 (gt (Sh.int IntKind.u8) w
 (Int.toNat (0 : Int)))).tmod
 (IntKind.i64.wrap
 ((↑(List.take
 (Int.toNat
 (100 : Int))
 b).length :
 Int) +
 (1 : Int)))))
 (some
 (IntKind.i64.wrap
 ((IntKind.i64.wrap
 (gt (Sh.int IntKind.u8) w
 (Int.toNat
 (0 : Int)))).tmod
 (IntKind.i64.wrap
 ((↑(List.take
 (Int.toNat
 (100 : Int))
 b).length :
 Int) +
 (1 : Int))) +
 (IntKind.i64.wrap
 (gt (Sh.int IntKind.u8) w
 (Int.toNat
 (1 : Int)))).tmod
 (IntKind.i64.wrap
 (IntKind.i64.wrap
 ((↑(List.take
 (Int.toNat
 (100 : Int))
 b).length :
 Int) -
 (IntKind.i64.wrap
 (gt
 (Sh.int
 IntKind.u8)
 w
 (Int.toNat
 (0 :
 Int)))).tmod
 (IntKind.i64.wrap
 ((↑(List.take
 (Int.toNat
 (100 :
 Int))
 b).length :
 Int) +
 (1 : Int)))) +
 (1 : Int)))))))).fst :
 Int) ≤
 (IntKind.i64.wrap
 (gt (Sh.int IntKind.u8) w
 (Int.toNat (0 : Int)))).tmod
 (IntKind.i64.wrap
 ((↑(List.take (Int.toNat (100 : Int))
 b).length :
 Int) +
 (1 : Int))))
 else false)
 (Q
 [SV.bool
 (bif true then
 decide
 (IntKind.i64.wrap
 (IntKind.i64.wrap
 ((IntKind.i64.wrap
 (gt (Sh.int IntKind.u8) w
 (Int.toNat
 (0 : Int)))).tmod
 (IntKind.i64.wrap
 ((↑(List.take
 (Int.toNat
 (100 : Int))
 b).length :
 Int) +
 (1 : Int))) +
 (IntKind.i64.wrap
 (gt (Sh.int IntKind.u8) w
 (Int.toNat
 (1 : Int)))).tmod
 (IntKind.i64.wrap
 (IntKind.i64.wrap
 ((↑(List.take
 (Int.toNat
 (100 : Int))
 b).length :
 Int) -
 (IntKind.i64.wrap
 (gt
 (Sh.int
 IntKind.u8)
 w
 (Int.toNat
 (0 :
 Int)))).tmod
 (IntKind.i64.wrap
 ((↑(List.take
 (Int.toNat
 (100 :
 Int))
 b).length :
 Int) +
 (1 : Int)))) +
 (1 : Int)))) -
 (IntKind.i64.wrap
 (gt (Sh.int IntKind.u8) w
 (Int.toNat (0 : Int)))).tmod
 (IntKind.i64.wrap
 ((↑(List.take
 (Int.toNat (100 : Int))
 b).length :
 Int) +
 (1 : Int)))) ≤
 (↑(lonF
 (List.take (Int.toNat (100 : Int))
 b)
 (winL (Sh.int IntKind.u8)
 (0 : Nat)
 ((0 : Nat) +
 (Px.part
 (List.take
 (Int.toNat
 (100 : Int))
 b)
 (some
 ((IntKind.i64.wrap
 (gt
 (Sh.int
 IntKind.u8)
 w
 (Int.toNat
 (0 :
 Int)))).tmod
 (IntKind.i64.wrap
 ((↑(List.take
 (Int.toNat
 (100 :
 Int))
 b).length :
 Int) +
 (1 : Int)))))
 (some
 (IntKind.i64.wrap
 ((IntKind.i64.wrap
 (gt
 (Sh.int
 IntKind.u8)
 w
 (Int.toNat
 (0 :
 Int)))).tmod
 (IntKind.i64.wrap
 ((↑(List.take
 (Int.toNat
 (100 :
 Int))
 b).length :
 Int) +
 (1 :
 Int))) +
 (IntKind.i64.wrap
 (gt
 (Sh.int
 IntKind.u8)
 w
 (Int.toNat
 (1 :
 Int)))).tmod
 (IntKind.i64.wrap
 (IntKind.i64.wrap
 ((↑(List.take
 (Int.toNat
 (100 :
 Int))
 b).length :
 Int) -
 (IntKind.i64.wrap
 (gt
 (Sh.int
 IntKind.u8)
 w
 (Int.toNat
 (0 :
 Int)))).tmod
 (IntKind.i64.wrap
 ((↑(List.take
 (Int.toNat
 (100 :
 Int))
 b).length :
 Int) +
 (1 :
 Int)))) +
 (1 :
 Int))))))).length +
 (List.take
 (Int.toNat (20 : Int))
 m).length)
 (List.replicate (0 : Nat)
 (Sh.int
 IntKind.u8).dflt ++
 Px.part
 (List.take
 (Int.toNat (100 : Int))
 b)
 (some
 ((IntKind.i64.wrap
 (gt
 (Sh.int
 IntKind.u8)
 w
 (Int.toNat
 (0 :
 Int)))).tmod
 (IntKind.i64.wrap
 ((↑(List.take
 (Int.toNat
 (100 :
 Int))
 b).length :
 Int) +
 (1 : Int)))))
 (some
 (IntKind.i64.wrap
 ((IntKind.i64.wrap
 (gt
 (Sh.int
 IntKind.u8)
 w
 (Int.toNat
 (0 :
 Int)))).tmod
 (IntKind.i64.wrap
 ((↑(List.take
 (Int.toNat
 (100 :
 Int))
 b).length :
 Int) +
 (1 : Int))) +
 (IntKind.i64.wrap
 (gt
 (Sh.int
 IntKind.u8)
 w
 (Int.toNat
 (1 :
 Int)))).tmod
 (IntKind.i64.wrap
 (IntKind.i64.wrap
 ((↑(List.take
 (Int.toNat
 (100 :
 Int))
 b).length :
 Int) -
 (IntKind.i64.wrap
 (gt
 (Sh.int
 IntKind.u8)
 w
 (Int.toNat
 (0 :
 Int)))).tmod
 (IntKind.i64.wrap
 ((↑(List.take
 (Int.toNat
 (100 :
 Int))
 b).length :
 Int) +
 (1 :
 Int)))) +
 (1 :
 Int)))))) ++
 List.take
 (Int.toNat (20 : Int))
 m))).snd :
 Int))
 else false)]
 [((4 : Nat),
 LB.var
 [SV.arr (2 : Nat) (Sh.int IntKind.u8) w]),
 ((12 : Nat),
 LB.var
 [SV.int IntKind.i64
 (↑(lonF
 (List.take (Int.toNat (100 : Int))
 b)
 (Px.part
 (List.take
 (Int.toNat (100 : Int)) b)
 (some
 ((IntKind.i64.wrap
 (gt (Sh.int IntKind.u8)
 w
 (Int.toNat
 (0 : Int)))).tmod
 (IntKind.i64.wrap
 ((↑(List.take
 (Int.toNat
 (100 : Int))
 b).length :
 Int) +
 (1 : Int)))))
 (some
 (IntKind.i64.wrap
 ((IntKind.i64.wrap
 (gt
 (Sh.int
 IntKind.u8)
 w
 (Int.toNat
 (0 :
 Int)))).tmod
 (IntKind.i64.wrap
 ((↑(List.take
 (Int.toNat
 (100 :
 Int))
 b).length :
 Int) +
 (1 : Int))) +
 (IntKind.i64.wrap
 (gt
 (Sh.int
 IntKind.u8)
 w
 (Int.toNat
 (1 :
 Int)))).tmod
 (IntKind.i64.wrap
 (IntKind.i64.wrap
 ((↑(List.take
 (Int.toNat
 (100 :
 Int))
 b).length :
 Int) -
 (IntKind.i64.wrap
 (gt
 (Sh.int
 IntKind.u8)
 w
 (Int.toNat
 (0 :
 Int)))).tmod
 (IntKind.i64.wrap
 ((↑(List.take
 (Int.toNat
 (100 :
 Int))
 b).length :
 Int) +
 (1 :
 Int)))) +
 (1 :
 Int)))))))).fst :
 Int),
 SV.int IntKind.i64
 (↑(lonF
 (List.take (Int.toNat (100 : Int))
 b)
 (Px.part
 (List.take
 (Int.toNat (100 : Int)) b)
 (some
 ((IntKind.i64.wrap
 (gt (Sh.int IntKind.u8)
 w
 (Int.toNat
 (0 : Int)))).tmod
 (IntKind.i64.wrap
 ((↑(List.take
 (Int.toNat
 (100 : Int))
 b).length :
 Int) +
 (1 : Int)))))
 (some
 (IntKind.i64.wrap
 ((IntKind.i64.wrap
 (gt
 (Sh.int
 IntKind.u8)
 w
 (Int.toNat
 (0 :
 Int)))).tmod
 (IntKind.i64.wrap
 ((↑(List.take
 (Int.toNat
 (100 :
 Int))
 b).length :
 Int) +
 (1 : Int))) +
 (IntKind.i64.wrap
 (gt
 (Sh.int
 IntKind.u8)
 w
 (Int.toNat
 (1 :
 Int)))).tmod
 (IntKind.i64.wrap
 (IntKind.i64.wrap
 ((↑(List.take
 (Int.toNat
 (100 :
 Int))
 b).length :
 Int) -
 (IntKind.i64.wrap
 (gt
 (Sh.int
 IntKind.u8)
 w
 (Int.toNat
 (0 :
 Int)))).tmod
 (IntKind.i64.wrap
 ((↑(List.take
 (Int.toNat
 (100 :
 Int))
 b).length :
 Int) +
 (1 :
 Int)))) +
 (1 :
 Int)))))))).snd :
 Int)]),
 ((14 : Nat),
 LB.var
 [SV.int IntKind.i64
 (↑(lonF
 (List.take (Int.toNat (100 : Int))
 b)
 (winL (Sh.int IntKind.u8)
 (0 : Nat)
 ((0 : Nat) +
 (Px.part
 (List.take
 (Int.toNat
 (100 : Int))
 b)
 (some
 ((IntKind.i64.wrap
 (gt
 (Sh.int
 IntKind.u8)
 w
 (Int.toNat
 (0 :
 Int)))).tmod
 (IntKind.i64.wrap
 ((↑(List.take
 (Int.toNat
 (100 :
 Int))
 b).length :
 Int) +
 (1 : Int)))))
 (some
 (IntKind.i64.wrap
 ((IntKind.i64.wrap
 (gt
 (Sh.int
 IntKind.u8)
 w
 (Int.toNat
 (0 :
 Int)))).tmod
 (IntKind.i64.wrap
 ((↑(List.take
 (Int.toNat
 (100 :
 Int))
 b).length :
 Int) +
 (1 :
 Int))) +
 (IntKind.i64.wrap
 (gt
 (Sh.int
 IntKind.u8)
 w
 (Int.toNat
 (1 :
 Int)))).tmod
 (IntKind.i64.wrap
 (IntKind.i64.wrap
 ((↑(List.take
 (Int.toNat
 (100 :
 Int))
 b).length :
 Int) -
 (IntKind.i64.wrap
 (gt
 (Sh.int
 IntKind.u8)
 w
 (Int.toNat
 (0 :
 Int)))).tmod
 (IntKind.i64.wrap
 ((↑(List.take
 (Int.toNat
 (100 :
 Int))
 b).length :
 Int) +
 (1 :
 Int)))) +
 (1 :
 Int))))))).length +
 (List.take
 (Int.toNat (20 : Int))
 m).length)
 (List.replicate (0 : Nat)
 (Sh.int
 IntKind.u8).dflt ++
 Px.part
 (List.take
 (Int.toNat (100 : Int))
 b)
 (some
 ((IntKind.i64.wrap
 (gt
 (Sh.int
 IntKind.u8)
 w
 (Int.toNat
 (0 :
 Int)))).tmod
 (IntKind.i64.wrap
 ((↑(List.take
 (Int.toNat
 (100 :
 Int))
 b).length :
 Int) +
 (1 : Int)))))
 (some
 (IntKind.i64.wrap
 ((IntKind.i64.wrap
 (gt
 (Sh.int
 IntKind.u8)
 w
 (Int.toNat
 (0 :
 Int)))).tmod
 (IntKind.i64.wrap
 ((↑(List.take
 (Int.toNat
 (100 :
 Int))
 b).length :
 Int) +
 (1 : Int))) +
 (IntKind.i64.wrap
 (gt
 (Sh.int
 IntKind.u8)
 w
 (Int.toNat
 (1 :
 Int)))).tmod
 (IntKind.i64.wrap
 (IntKind.i64.wrap
 ((↑(List.take
 (Int.toNat
 (100 :
 Int))
 b).length :
 Int) -
 (IntKind.i64.wrap
 (gt
 (Sh.int
 IntKind.u8)
 w
 (Int.toNat
 (0 :
 Int)))).tmod
 (IntKind.i64.wrap
 ((↑(List.take
 (Int.toNat
 (100 :
 Int))
 b).length :
 Int) +
 (1 :
 Int)))) +
 (1 :
 Int)))))) ++
 List.take
 (Int.toNat (20 : Int))
 m))).fst :
 Int),
 SV.int IntKind.i64
 (↑(lonF
 (List.take (Int.toNat (100 : Int))
 b)
 (winL (Sh.int IntKind.u8)
 (0 : Nat)
 ((0 : Nat) +
 (Px.part
 (List.take
 (Int.toNat
 (100 : Int))
 b)
 (some
 ((IntKind.i64.wrap
 (gt
 (Sh.int
 IntKind.u8)
 w
 (Int.toNat
 (0 :
 Int)))).tmod
 (IntKind.i64.wrap
 ((↑(List.take
 (Int.toNat
 (100 :
 Int))
 b).length :
 Int) +
 (1 : Int)))))
 (some
 (IntKind.i64.wrap
 ((IntKind.i64.wrap
 (gt
 (Sh.int
 IntKind.u8)
 w
 (Int.toNat
 (0 :
 Int)))).tmod
 (IntKind.i64.wrap
 ((↑(List.take
 (Int.toNat
 (100 :
 Int))
 b).length :
 Int) +
 (1 :
 Int))) +
 (IntKind.i64.wrap
 (gt
 (Sh.int
 IntKind.u8)
 w
 (Int.toNat
 (1 :
 Int)))).tmod
 (IntKind.i64.wrap
 (IntKind.i64.wrap
 ((↑(List.take
 (Int.toNat
 (100 :
 Int))
 b).length :
 Int) -
 (IntKind.i64.wrap
 (gt
 (Sh.int
 IntKind.u8)
 w
 (Int.toNat
 (0 :
 Int)))).tmod
 (IntKind.i64.wrap
 ((↑(List.take
 (Int.toNat
 (100 :
 Int))
 b).length :
 Int) +
 (1 :
 Int)))) +
 (1 :
 Int))))))).length +
 (List.take
 (Int.toNat (20 : Int))
 m).length)
 (List.replicate (0 : Nat)
 (Sh.int
 IntKind.u8).dflt ++
 Px.part
 (List.take
 (Int.toNat (100 : Int))
 b)
 (some
 ((IntKind.i64.wrap
 (gt
 (Sh.int
 IntKind.u8)
 w
 (Int.toNat
 (0 :
 Int)))).tmod
 (IntKind.i64.wrap
 ((↑(List.take
 (Int.toNat
 (100 :
 Int))
 b).length :
 Int) +
 (1 : Int)))))
 (some
 (IntKind.i64.wrap
 ((IntKind.i64.wrap
 (gt
 (Sh.int
 IntKind.u8)
 w
 (Int.toNat
 (0 :
 Int)))).tmod
 (IntKind.i64.wrap
 ((↑(List.take
 (Int.toNat
 (100 :
 Int))
 b).length :
 Int) +
 (1 : Int))) +
 (IntKind.i64.wrap
 (gt
 (Sh.int
 IntKind.u8)
 w
 (Int.toNat
 (1 :
 Int)))).tmod
 (IntKind.i64.wrap
 (IntKind.i64.wrap
 ((↑(List.take
 (Int.toNat
 (100 :
 Int))
 b).length :
 Int) -
 (IntKind.i64.wrap
 (gt
 (Sh.int
 IntKind.u8)
 w
 (Int.toNat
 (0 :
 Int)))).tmod
 (IntKind.i64.wrap
 ((↑(List.take
 (Int.toNat
 (100 :
 Int))
 b).length :
 Int) +
 (1 :
 Int)))) +
 (1 :
 Int)))))) ++
 List.take
 (Int.toNat (20 : Int))
 m))).snd :
 Int)]),
 ((54 : Nat),
 LB.row (5 : Nat) (Sh.int IntKind.u8)
 (List.replicate (0 : Nat)
 (Sh.int IntKind.u8).dflt ++
 Px.part
 (List.take (Int.toNat (100 : Int)) b)
 (some
 ((IntKind.i64.wrap
 (gt (Sh.int IntKind.u8) w
 (Int.toNat (0 : Int)))).tmod
 (IntKind.i64.wrap
 ((↑(List.take
 (Int.toNat (100 : Int))
 b).length :
 Int) +
 (1 : Int)))))
 (some
 (IntKind.i64.wrap
 ((IntKind.i64.wrap
 (gt (Sh.int IntKind.u8) w
 (Int.toNat
 (0 : Int)))).tmod
 (IntKind.i64.wrap
 ((↑(List.take
 (Int.toNat
 (100 : Int))
 b).length :
 Int) +
 (1 : Int))) +
 (IntKind.i64.wrap
 (gt (Sh.int IntKind.u8) w
 (Int.toNat
 (1 : Int)))).tmod
 (IntKind.i64.wrap
 (IntKind.i64.wrap
 ((↑(List.take
 (Int.toNat
 (100 : Int))
 b).length :
 Int) -
 (IntKind.i64.wrap
 (gt
 (Sh.int
 IntKind.u8)
 w
 (Int.toNat
 (0 :
 Int)))).tmod
 (IntKind.i64.wrap
 ((↑(List.take
 (Int.toNat
 (100 :
 Int))
 b).length :
 Int) +
 (1 : Int)))) +
 (1 : Int)))))) ++
 List.take (Int.toNat (20 : Int)) m)),
 ((1151552 : Nat),
 LB.row (3 : Nat) (Sh.int IntKind.i64)
 (mapI
 (ordB
 (List.take (Int.toNat (100 : Int)) b))))])
 (false = false ∧
 Q [SV.bool false]
 [((4 : Nat),
 LB.var
 [SV.arr (2 : Nat) (Sh.int IntKind.u8) w]),
 ((12 : Nat),
 LB.var
 [SV.int IntKind.i64
 (↑(lonF
 (List.take
 (Int.toNat (100 : Int)) b)
 (Px.part
 (List.take
 (Int.toNat (100 : Int)) b)
 (some
 ((IntKind.i64.wrap
 (gt
 (Sh.int IntKind.u8)
 w
 (Int.toNat
 (0 : Int)))).tmod
 (IntKind.i64.wrap
 ((↑(List.take
 (Int.toNat
 (100 : Int))
 b).length :
 Int) +
 (1 : Int)))))
 (some
 (IntKind.i64.wrap
 ((IntKind.i64.wrap
 (gt
 (Sh.int
 IntKind.u8)
 w
 (Int.toNat
 (0 :
 Int)))).tmod
 (IntKind.i64.wrap
 ((↑(List.take
 (Int.toNat
 (100 :
 Int))
 b).length :
 Int) +
 (1 : Int))) +
 (IntKind.i64.wrap
 (gt
 (Sh.int
 IntKind.u8)
 w
 (Int.toNat
 (1 :
 Int)))).tmod
 (IntKind.i64.wrap
 (IntKind.i64.wrap
 ((↑(List.take
 (Int.toNat
 (100 :
 Int))
 b).length :
 Int) -
 (IntKind.i64.wrap
 (gt
 (Sh.int
 IntKind.u8)
 w
 (Int.toNat
 (0 :
 Int)))).tmod
 (IntKind.i64.wrap
 ((↑(List.take
 (Int.toNat
 (100 :
 Int))
 b).length :
 Int) +
 (1 :
 Int)))) +
 (1 :
 Int)))))))).fst :
 Int),
 SV.int IntKind.i64
 (↑(lonF
 (List.take
 (Int.toNat (100 : Int)) b)
 (Px.part
 (List.take
 (Int.toNat (100 : Int)) b)
 (some
 ((IntKind.i64.wrap
 (gt
 (Sh.int IntKind.u8)
 w
 (Int.toNat
 (0 : Int)))).tmod
 (IntKind.i64.wrap
 ((↑(List.take
 (Int.toNat
 (100 : Int))
 b).length :
 Int) +
 (1 : Int)))))
 (some
 (IntKind.i64.wrap
 ((IntKind.i64.wrap
 (gt
 (Sh.int
 IntKind.u8)
 w
 (Int.toNat
 (0 :
 Int)))).tmod
 (IntKind.i64.wrap
 ((↑(List.take
 (Int.toNat
 (100 :
 Int))
 b).length :
 Int) +
 (1 : Int))) +
 (IntKind.i64.wrap
 (gt
 (Sh.int
 IntKind.u8)
 w
 (Int.toNat
 (1 :
 Int)))).tmod
 (IntKind.i64.wrap
 (IntKind.i64.wrap
 ((↑(List.take
 (Int.toNat
 (100 :
 Int))
 b).length :
 Int) -
 (IntKind.i64.wrap
 (gt
 (Sh.int
 IntKind.u8)
 w
 (Int.toNat
 (0 :
 Int)))).tmod
 (IntKind.i64.wrap
 ((↑(List.take
 (Int.toNat
 (100 :
 Int))
 b).length :
 Int) +
 (1 :
 Int)))) +
 (1 :
 Int)))))))).snd :
 Int)]),
 ((14 : Nat),
 LB.var
 [SV.int IntKind.i64
 (↑(lonF
 (List.take
 (Int.toNat (100 : Int)) b)
 (winL (Sh.int IntKind.u8)
 (0 : Nat)
 ((0 : Nat) +
 (Px.part
 (List.take
 (Int.toNat
 (100 : Int))
 b)
 (some
 ((IntKind.i64.wrap
 (gt
 (Sh.int
 IntKind.u8)
 w
 (Int.toNat
 (0 :
 Int)))).tmod
 (IntKind.i64.wrap
 ((↑(List.take
 (Int.toNat
 (100 :
 Int))
 b).length :
 Int) +
 (1 : Int)))))
 (some
 (IntKind.i64.wrap
 ((IntKind.i64.wrap
 (gt
 (Sh.int
 IntKind.u8)
 w
 (Int.toNat
 (0 :
 Int)))).tmod
 (IntKind.i64.wrap
 ((↑(List.take
 (Int.toNat
 (100 :
 Int))
 b).length :
 Int) +
 (1 :
 Int))) +
 (IntKind.i64.wrap
 (gt
 (Sh.int
 IntKind.u8)
 w
 (Int.toNat
 (1 :
 Int)))).tmod
 (IntKind.i64.wrap
 (IntKind.i64.wrap
 ((↑(List.take
 (Int.toNat
 (100 :
 Int))
 b).length :
 Int) -
 (IntKind.i64.wrap
 (gt
 (Sh.int
 IntKind.u8)
 w
 (Int.toNat
 (0 :
 Int)))).tmod
 (IntKind.i64.wrap
 ((↑(List.take
 (Int.toNat
 (100 :
 Int))
 b).length :
 Int) +
 (1 :
 Int)))) +
 (1 :
 Int))))))).length +
 (List.take
 (Int.toNat (20 : Int))
 m).length)
 (List.replicate (0 : Nat)
 (Sh.int
 IntKind.u8).dflt ++
 Px.part
 (List.take
 (Int.toNat
 (100 : Int))
 b)
 (some
 ((IntKind.i64.wrap
 (gt
 (Sh.int
 IntKind.u8)
 w
 (Int.toNat
 (0 :
 Int)))).tmod
 (IntKind.i64.wrap
 ((↑(List.take
 (Int.toNat
 (100 :
 Int))
 b).length :
 Int) +
 (1 : Int)))))
 (some
 (IntKind.i64.wrap
 ((IntKind.i64.wrap
 (gt
 (Sh.int
 IntKind.u8)
 w
 (Int.toNat
 (0 :
 Int)))).tmod
 (IntKind.i64.wrap
 ((↑(List.take
 (Int.toNat
 (100 :
 Int))
 b).length :
 Int) +
 (1 :
 Int))) +
 (IntKind.i64.wrap
 (gt
 (Sh.int
 IntKind.u8)
 w
 (Int.toNat
 (1 :
 Int)))).tmod
 (IntKind.i64.wrap
 (IntKind.i64.wrap
 ((↑(List.take
 (Int.toNat
 (100 :
 Int))
 b).length :
 Int) -
 (IntKind.i64.wrap
 (gt
 (Sh.int
 IntKind.u8)
 w
 (Int.toNat
 (0 :
 Int)))).tmod
 (IntKind.i64.wrap
 ((↑(List.take
 (Int.toNat
 (100 :
 Int))
 b).length :
 Int) +
 (1 :
 Int)))) +
 (1 :
 Int)))))) ++
 List.take
 (Int.toNat (20 : Int))
 m))).fst :
 Int),
 SV.int IntKind.i64
 (↑(lonF
 (List.take
 (Int.toNat (100 : Int)) b)
 (winL (Sh.int IntKind.u8)
 (0 : Nat)
 ((0 : Nat) +
 (Px.part
 (List.take
 (Int.toNat
 (100 : Int))
 b)
 (some
 ((IntKind.i64.wrap
 (gt
 (Sh.int
 IntKind.u8)
 w
 (Int.toNat
 (0 :
 Int)))).tmod
 (IntKind.i64.wrap
 ((↑(List.take
 (Int.toNat
 (100 :
 Int))
 b).length :
 Int) +
 (1 : Int)))))
 (some
 (IntKind.i64.wrap
 ((IntKind.i64.wrap
 (gt
 (Sh.int
 IntKind.u8)
 w
 (Int.toNat
 (0 :
 Int)))).tmod
 (IntKind.i64.wrap
 ((↑(List.take
 (Int.toNat
 (100 :
 Int))
 b).length :
 Int) +
 (1 :
 Int))) +
 (IntKind.i64.wrap
 (gt
 (Sh.int
 IntKind.u8)
 w
 (Int.toNat
 (1 :
 Int)))).tmod
 (IntKind.i64.wrap
 (IntKind.i64.wrap
 ((↑(List.take
 (Int.toNat
 (100 :
 Int))
 b).length :
 Int) -
 (IntKind.i64.wrap
 (gt
 (Sh.int
 IntKind.u8)
 w
 (Int.toNat
 (0 :
 Int)))).tmod
 (IntKind.i64.wrap
 ((↑(List.take
 (Int.toNat
 (100 :
 Int))
 b).length :
 Int) +
 (1 :
 Int)))) +
 (1 :
 Int))))))).length +
 (List.take
 (Int.toNat (20 : Int))
 m).length)
 (List.replicate (0 : Nat)
 (Sh.int
 IntKind.u8).dflt ++
 Px.part
 (List.take
 (Int.toNat
 (100 : Int))
 b)
 (some
 ((IntKind.i64.wrap
 (gt
 (Sh.int
 IntKind.u8)
 w
 (Int.toNat
 (0 :
 Int)))).tmod
 (IntKind.i64.wrap
 ((↑(List.take
 (Int.toNat
 (100 :
 Int))
 b).length :
 Int) +
 (1 : Int)))))
 (some
 (IntKind.i64.wrap
 ((IntKind.i64.wrap
 (gt
 (Sh.int
 IntKind.u8)
 w
 (Int.toNat
 (0 :
 Int)))).tmod
 (IntKind.i64.wrap
 ((↑(List.take
 (Int.toNat
 (100 :
 Int))
 b).length :
 Int) +
 (1 :
 Int))) +
 (IntKind.i64.wrap
 (gt
 (Sh.int
 IntKind.u8)
 w
 (Int.toNat
 (1 :
 Int)))).tmod
 (IntKind.i64.wrap
 (IntKind.i64.wrap
 ((↑(List.take
 (Int.toNat
 (100 :
 Int))
 b).length :
 Int) -
 (IntKind.i64.wrap
 (gt
 (Sh.int
 IntKind.u8)
 w
 (Int.toNat
 (0 :
 Int)))).tmod
 (IntKind.i64.wrap
 ((↑(List.take
 (Int.toNat
 (100 :
 Int))
 b).length :
 Int) +
 (1 :
 Int)))) +
 (1 :
 Int)))))) ++
 List.take
 (Int.toNat (20 : Int))
 m))).snd :
 Int)]),
 ((54 : Nat),
 LB.row (5 : Nat) (Sh.int IntKind.u8)
 (List.replicate (0 : Nat)
 (Sh.int IntKind.u8).dflt ++
 Px.part
 (List.take (Int.toNat (100 : Int)) b)
 (some
 ((IntKind.i64.wrap
 (gt (Sh.int IntKind.u8) w
 (Int.toNat (0 : Int)))).tmod
 (IntKind.i64.wrap
 ((↑(List.take
 (Int.toNat
 (100 : Int))
 b).length :
 Int) +
 (1 : Int)))))
 (some
 (IntKind.i64.wrap
 ((IntKind.i64.wrap
 (gt (Sh.int IntKind.u8) w
 (Int.toNat
 (0 : Int)))).tmod
 (IntKind.i64.wrap
 ((↑(List.take
 (Int.toNat
 (100 : Int))
 b).length :
 Int) +
 (1 : Int))) +
 (IntKind.i64.wrap
 (gt (Sh.int IntKind.u8) w
 (Int.toNat
 (1 : Int)))).tmod
 (IntKind.i64.wrap
 (IntKind.i64.wrap
 ((↑(List.take
 (Int.toNat
 (100 : Int))
 b).length :
 Int) -
 (IntKind.i64.wrap
 (gt
 (Sh.int
 IntKind.u8)
 w
 (Int.toNat
 (0 :
 Int)))).tmod
 (IntKind.i64.wrap
 ((↑(List.take
 (Int.toNat
 (100 :
 Int))
 b).length :
 Int) +
 (1 : Int)))) +
 (1 : Int)))))) ++
 List.take (Int.toNat (20 : Int)) m)),
 ((1151552 : Nat),
 LB.row (3 : Nat) (Sh.int IntKind.i64)
 (mapI
 (ordB
 (List.take (Int.toNat (100 : Int))
 b))))]))
 (false = false ∧
 false = false ∧
 Q [SV.bool false]
 [((4 : Nat),
 LB.var
 [SV.arr (2 : Nat) (Sh.int IntKind.u8) w]),
 ((12 : Nat),
 LB.var
 [SV.int IntKind.i64
 (↑(lonF
 (List.take
 (Int.toNat (100 : Int)) b)
 (Px.part
 (List.take
 (Int.toNat (100 : Int)) b)
 (some
 ((IntKind.i64.wrap
 (gt
 (Sh.int IntKind.u8)
 w
 (Int.toNat
 (0 : Int)))).tmod
 (IntKind.i64.wrap
 ((↑(List.take
 (Int.toNat
 (100 : Int))
 b).length :
 Int) +
 (1 : Int)))))
 (some
 (IntKind.i64.wrap
 ((IntKind.i64.wrap
 (gt
 (Sh.int
 IntKind.u8)
 w
 (Int.toNat
 (0 :
 Int)))).tmod
 (IntKind.i64.wrap
 ((↑(List.take
 (Int.toNat
 (100 :
 Int))
 b).length :
 Int) +
 (1 : Int))) +
 (IntKind.i64.wrap
 (gt
 (Sh.int
 IntKind.u8)
 w
 (Int.toNat
 (1 :
 Int)))).tmod
 (IntKind.i64.wrap
 (IntKind.i64.wrap
 ((↑(List.take
 (Int.toNat
 (100 :
 Int))
 b).length :
 Int) -
 (IntKind.i64.wrap
 (gt
 (Sh.int
 IntKind.u8)
 w
 (Int.toNat
 (0 :
 Int)))).tmod
 (IntKind.i64.wrap
 ((↑(List.take
 (Int.toNat
 (100 :
 Int))
 b).length :
 Int) +
 (1 :
 Int)))) +
 (1 :
 Int)))))))).fst :
 Int),
 SV.int IntKind.i64
 (↑(lonF
 (List.take
 (Int.toNat (100 : Int)) b)
 (Px.part
 (List.take
 (Int.toNat (100 : Int)) b)
 (some
 ((IntKind.i64.wrap
 (gt
 (Sh.int IntKind.u8)
 w
 (Int.toNat
 (0 : Int)))).tmod
 (IntKind.i64.wrap
 ((↑(List.take
 (Int.toNat
 (100 : Int))
 b).length :
 Int) +
 (1 : Int)))))
 (some
 (IntKind.i64.wrap
 ((IntKind.i64.wrap
 (gt
 (Sh.int
 IntKind.u8)
 w
 (Int.toNat
 (0 :
 Int)))).tmod
 (IntKind.i64.wrap
 ((↑(List.take
 (Int.toNat
 (100 :
 Int))
 b).length :
 Int) +
 (1 : Int))) +
 (IntKind.i64.wrap
 (gt
 (Sh.int
 IntKind.u8)
 w
 (Int.toNat
 (1 :
 Int)))).tmod
 (IntKind.i64.wrap
 (IntKind.i64.wrap
 ((↑(List.take
 (Int.toNat
 (100 :
 Int))
 b).length :
 Int) -
 (IntKind.i64.wrap
 (gt
 (Sh.int
 IntKind.u8)
 w
 (Int.toNat
 (0 :
 Int)))).tmod
 (IntKind.i64.wrap
 ((↑(List.take
 (Int.toNat
 (100 :
 Int))
 b).length :
 Int) +
 (1 :
 Int)))) +
 (1 :
 Int)))))))).snd :
 Int)]),
 ((14 : Nat),
 LB.var
 [SV.int IntKind.i64
 (↑(lonF
 (List.take
 (Int.toNat (100 : Int)) b)
 (winL (Sh.int IntKind.u8)
 (0 : Nat)
 ((0 : Nat) +
 (Px.part
 (List.take
 (Int.toNat
 (100 : Int))
 b)
 (some
 ((IntKind.i64.wrap
 (gt
 (Sh.int
 IntKind.u8)
 w
 (Int.toNat
 (0 :
 Int)))).tmod
 (IntKind.i64.wrap
 ((↑(List.take
 (Int.toNat
 (100 :
 Int))
 b).length :
 Int) +
 (1 : Int)))))
 (some
 (IntKind.i64.wrap
 ((IntKind.i64.wrap
 (gt
 (Sh.int
 IntKind.u8)
 w
 (Int.toNat
 (0 :
 Int)))).tmod
 (IntKind.i64.wrap
 ((↑(List.take
 (Int.toNat
 (100 :
 Int))
 b).length :
 Int) +
 (1 :
 Int))) +
 (IntKind.i64.wrap
 (gt
 (Sh.int
 IntKind.u8)
 w
 (Int.toNat
 (1 :
 Int)))).tmod
 (IntKind.i64.wrap
 (IntKind.i64.wrap
 ((↑(List.take
 (Int.toNat
 (100 :
 Int))
 b).length :
 Int) -
 (IntKind.i64.wrap
 (gt
 (Sh.int
 IntKind.u8)
 w
 (Int.toNat
 (0 :
 Int)))).tmod
 (IntKind.i64.wrap
 ((↑(List.take
 (Int.toNat
 (100 :
 Int))
 b).length :
 Int) +
 (1 :
 Int)))) +
 (1 :
 Int))))))).length +
 (List.take
 (Int.toNat (20 : Int))
 m).length)
 (List.replicate (0 : Nat)
 (Sh.int
 IntKind.u8).dflt ++
 Px.part
 (List.take
 (Int.toNat
 (100 : Int))
 b)
 (some
 ((IntKind.i64.wrap
 (gt
 (Sh.int
 IntKind.u8)
 w
 (Int.toNat
 (0 :
 Int)))).tmod
 (IntKind.i64.wrap
 ((↑(List.take
 (Int.toNat
 (100 :
 Int))
 b).length :
 Int) +
 (1 : Int)))))
 (some
 (IntKind.i64.wrap
 ((IntKind.i64.wrap
 (gt
 (Sh.int
 IntKind.u8)
 w
 (Int.toNat
 (0 :
 Int)))).tmod
 (IntKind.i64.wrap
 ((↑(List.take
 (Int.toNat
 (100 :
 Int))
 b).length :
 Int) +
 (1 :
 Int))) +
 (IntKind.i64.wrap
 (gt
 (Sh.int
 IntKind.u8)
 w
 (Int.toNat
 (1 :
 Int)))).tmod
 (IntKind.i64.wrap
 (IntKind.i64.wrap
 ((↑(List.take
 (Int.toNat
 (100 :
 Int))
 b).length :
 Int) -
 (IntKind.i64.wrap
 (gt
 (Sh.int
 IntKind.u8)
 w
 (Int.toNat
 (0 :
 Int)))).tmod
 (IntKind.i64.wrap
 ((↑(List.take
 (Int.toNat
 (100 :
 Int))
 b).length :
 Int) +
 (1 :
 Int)))) +
 (1 :
 Int)))))) ++
 List.take
 (Int.toNat (20 : Int))
 m))).fst :
 Int),
 SV.int IntKind.i64
 (↑(lonF
 (List.take
 (Int.toNat (100 : Int)) b)
 (winL (Sh.int IntKind.u8)
 (0 : Nat)
 ((0 : Nat) +
 (Px.part
 (List.take
 (Int.toNat
 (100 : Int))
 b)
 (some
 ((IntKind.i64.wrap
 (gt
 (Sh.int
 IntKind.u8)
 w
 (Int.toNat
 (0 :
 Int)))).tmod
 (IntKind.i64.wrap
 ((↑(List.take
 (Int.toNat
 (100 :
 Int))
 b).length :
 Int) +
 (1 : Int)))))
 (some
 (IntKind.i64.wrap
 ((IntKind.i64.wrap
 (gt
 (Sh.int
 IntKind.u8)
 w
 (Int.toNat
 (0 :
 Int)))).tmod
 (IntKind.i64.wrap
 ((↑(List.take
 (Int.toNat
 (100 :
 Int))
 b).length :
 Int) +
 (1 :
 Int))) +
 (IntKind.i64.wrap
 (gt
 (Sh.int
 IntKind.u8)
 w
 (Int.toNat
 (1 :
 Int)))).tmod
 (IntKind.i64.wrap
 (IntKind.i64.wrap
 ((↑(List.take
 (Int.toNat
 (100 :
 Int))
 b).length :
 Int) -
 (IntKind.i64.wrap
 (gt
 (Sh.int
 IntKind.u8)
 w
 (Int.toNat
 (0 :
 Int)))).tmod
 (IntKind.i64.wrap
 ((↑(List.take
 (Int.toNat
 (100 :
 Int))
 b).length :
 Int) +
 (1 :
 Int)))) +
 (1 :
 Int))))))).length +
 (List.take
 (Int.toNat (20 : Int))
 m).length)
 (List.replicate (0 : Nat)
 (Sh.int
 IntKind.u8).dflt ++
 Px.part
 (List.take
 (Int.toNat
 (100 : Int))
 b)
 (some
 ((IntKind.i64.wrap
 (gt
 (Sh.int
 IntKind.u8)
 w
 (Int.toNat
 (0 :
 Int)))).tmod
 (IntKind.i64.wrap
 ((↑(List.take
 (Int.toNat
 (100 :
 Int))
 b).length :
 Int) +
 (1 : Int)))))
 (some
 (IntKind.i64.wrap
 ((IntKind.i64.wrap
 (gt
 (Sh.int
 IntKind.u8)
 w
 (Int.toNat
 (0 :
 Int)))).tmod
 (IntKind.i64.wrap
 ((↑(List.take
 (Int.toNat
 (100 :
 Int))
 b).length :
 Int) +
 (1 :
 Int))) +
 (IntKind.i64.wrap
 (gt
 (Sh.int
 IntKind.u8)
 w
 (Int.toNat
 (1 :
 Int)))).tmod
 (IntKind.i64.wrap
 (IntKind.i64.wrap
 ((↑(List.take
 (Int.toNat
 (100 :
 Int))
 b).length :
 Int) -
 (IntKind.i64.wrap
 (gt
 (Sh.int
 IntKind.u8)
 w
 (Int.toNat
 (0 :
 Int)))).tmod
 (IntKind.i64.wrap
 ((↑(List.take
 (Int.toNat
 (100 :
 Int))
 b).length :
 Int) +
 (1 :
 Int)))) +
 (1 :
 Int)))))) ++
 List.take
 (Int.toNat (20 : Int))
 m))).snd :
 Int)]),
 ((54 : Nat),
 LB.row (5 : Nat) (Sh.int IntKind.u8)
 (List.replicate (0 : Nat)
 (Sh.int IntKind.u8).dflt ++
 Px.part
 (List.take (Int.toNat (100 : Int)) b)
 (some
 ((IntKind.i64.wrap
 (gt (Sh.int IntKind.u8) w
 (Int.toNat (0 : Int)))).tmod
 (IntKind.i64.wrap
 ((↑(List.take
 (Int.toNat
 (100 : Int))
 b).length :
 Int) +
 (1 : Int)))))
 (some
 (IntKind.i64.wrap
 ((IntKind.i64.wrap
 (gt (Sh.int IntKind.u8) w
 (Int.toNat
 (0 : Int)))).tmod
 (IntKind.i64.wrap
 ((↑(List.take
 (Int.toNat
 (100 : Int))
 b).length :
 Int) +
 (1 : Int))) +
 (IntKind.i64.wrap
 (gt (Sh.int IntKind.u8) w
 (Int.toNat
 (1 : Int)))).tmod
 (IntKind.i64.wrap
 (IntKind.i64.wrap
 ((↑(List.take
 (Int.toNat
 (100 : Int))
 b).length :
 Int) -
 (IntKind.i64.wrap
 (gt
 (Sh.int
 IntKind.u8)
 w
 (Int.toNat
 (0 :
 Int)))).tmod
 (IntKind.i64.wrap
 ((↑(List.take
 (Int.toNat
 (100 :
 Int))
 b).length :
 Int) +
 (1 : Int)))) +
 (1 : Int)))))) ++
 List.take (Int.toNat (20 : Int)) m)),
 ((1151552 : Nat),
 LB.row (3 : Nat) (Sh.int IntKind.i64)
 (mapI
 (ordB
 (List.take (Int.toNat (100 : Int))
 b))))])) := by kernel_rfl
end Go.Proofs.Ytijeaicbnfiegaa
