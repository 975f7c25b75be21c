/-
  A part of the proof: what pieces of the program give; conditions: those of each theorem.
-/
import Derived.Test.YtgffokpiklnpmaaHD
import Derived.Test.YtgffokpiklnpmaaProg
set_option linter.unusedVariables false
namespace Go.Proofs.Ytgffokpiklnpmaa
open Go.Px Go.Ax
def tyL : List (Nat × (Nat × Nat × Bool × TK × Sh × Option IntKind)) := [
  (1, (1, 8, false, .other, .unit, none)),
  (2, (1, 8, false, (.int .i64), (.int .i64), none)),
  (3, (1, 8, false, (.int .i64), (.int .i64), none)),
  (4, (1, 1, false, .bool, .bool, none)),
  (5, (1, 1, false, (.int .u8), (.int .u8), none)),
  (6, (1, 1, false, (.int .u8), (.int .u8), none)),
  (7, (4, 24, true, (.struct [(0, 2), (1, 3), (2, 4), (3, 6)]), (.pair (.int .i64) (.pair (.int .i64) (.pair .bool (.int .u8)))), none)),
  (8, (4, 24, true, (.struct [(0, 2), (1, 3), (2, 4), (3, 6)]), (.pair (.int .i64) (.pair (.int .i64) (.pair .bool (.int .u8)))), none)),
  (9, (1, 16, false, .str, .str, none)),
  (10, (1, 16, false, .str, .str, none)),
  (11, (1, 16, false, .str, .str, none)),
  (12, (1, 8, false, (.int .u64), (.int .u64), none)),
  (13, (2, 24, true, (.struct [(0, 9), (1, 12)]), (.pair .str (.int .u64)), none)),
  (14, (2, 24, true, (.struct [(0, 9), (1, 12)]), (.pair .str (.int .u64)), none)),
  (21, (1, 4, false, (.int .i32), (.int .i32), none)),
  (22, (1, 24, false, (.slice 5), (.sl (.int .u8)), none)),
  (23, (1, 2, false, (.int .i16), (.int .i16), none)),
  (24, (2, 4, true, (.array 2 23), (.arr 2 (.int .i16)), (some .i16))),
  (25, (1, 8, false, .other, .unit, none)),
  (26, (2, 16, true, (.array 2 3), (.arr 2 (.int .i64)), (some .i64))),
  (27, (2, 16, true, (.array 2 3), (.arr 2 (.int .i64)), (some .i64))),
  (28, (1, 24, false, (.slice 3), (.sl (.int .i64)), none)),
  (29, (1, 8, false, (.int .i64), (.int .i64), none)),
  (31, (1, 8, false, .other, .unit, none)),
  (32, (1, 8, false, .other, .unit, none)),
  (33, (1, 24, false, (.slice 48), (.sl (.pair (.int .i64) (.int .i64))), none)),
  (35, (1, 8, false, .other, .unit, none)),
  (36, (1, 24, false, (.slice 26), (.sl (.arr 2 (.int .i64))), none)),
  (38, (1, 8, false, .other, .unit, none)),
  (39, (1, 8, false, .other, .unit, none)),
  (40, (2, 48, true, (.array 2 22), (.arr 2 (.sl (.int .u8))), none)),
  (41, (1, 8, false, .other, .unit, none)),
  (42, (1, 8, false, .other, .unit, none)),
  (43, (1, 8, false, .other, .unit, none)),
  (44, (1, 8, false, .other, .unit, none)),
  (45, (2, 2, true, (.array 2 5), (.arr 2 (.int .u8)), (some .u8))),
  (46, (1, 8, false, .other, .unit, none)),
  (47, (2, 16, true, (.struct [(0, 3), (1, 3)]), (.pair (.int .i64) (.int .i64)), (some .i64))),
  (48, (2, 16, true, (.struct [(0, 3), (1, 3)]), (.pair (.int .i64) (.int .i64)), (some .i64))),
  (49, (1, 8, false, .other, .unit, none)),
  (50, (1, 8, false, .other, .unit, none)),
  (51, (1, 2, false, (.int .u16), (.int .u16), none)),
  (52, (1, 8, false, .other, .unit, none)),
  (53, (1, 8, false, .other, .unit, none)),
  (54, (1, 8, false, .other, .unit, none)),
  (55, (1, 8, false, .other, .unit, none)),
  (56, (1, 8, false, .other, .unit, none)),
  (57, (1, 8, false, .other, .unit, none)),
  (58, (1, 8, false, .other, .unit, none)),
  (59, (1, 8, false, .other, .unit, none)),
  (60, (1, 8, false, .other, .unit, none)),
  (61, (1, 8, false, .other, .unit, none)),
  (62, (1, 8, false, .other, .unit, none)),
  (63, (1, 8, false, .other, .unit, none)),
  (64, (1, 8, false, (.map 9 3), .unit, none)),
  (65, (1, 8, false, .other, .unit, none)),
  (67, (1, 8, false, .other, .unit, none)),
  (68, (1, 8, false, .other, .unit, none)),
  (69, (1, 8, false, .other, .unit, none)),
  (70, (1, 8, false, .other, .unit, none)),
  (76, (1, 8, false, .other, .unit, none)),
  (77, (1, 4, false, (.int .u32), (.int .u32), none)),
  (78, (1, 1, false, (.int .u8), (.int .u8), none)),
  (79, (1, 1, false, (.int .u8), (.int .u8), none)),
  (80, (1, 8, false, .other, .unit, none)),
  (82, (1, 4, false, (.int .i32), (.int .i32), none)),
  (83, (1, 4, false, (.int .i32), (.int .i32), none))]
abbrev tt : TT := ttOf tyL
set_option maxRecDepth 100000 in
theorem tyOK : ttB Try.prog tyL = true := by decide +kernel
theorem ty : TTOK Try.prog tt := ttB_ok tyOK
theorem mixed : Try.prog.follows .mixedOrders = true := by decide +kernel
def G0 : GV := ⟨[], .nil⟩
theorem cx0 : CxOK Try.prog tt G0 [] := CxOK.nil ty mixed
end Go.Proofs.Ytgffokpiklnpmaa
namespace Go.Proofs.Ytgffokpiklnpmaa
open Go.Px Go.Ax
set_option maxRecDepth 100000
theorem vc_lim (l m : Int) (Q : List SV → List (Nat × LB) → Prop) (R : List Item → PS → Prop) : sy tt G0 [] Try.f26.ntmps Try.f26.results.toList Q R 1000 [.code (bodyOf Try.f26)] (entry [.int .i64, .int .i64] (l, m, ())) =
    (bc (decide ((4 : Int) ≤ l))
 (bc (bif true then decide (l ≤ m) else false) (Q [SV.bool (bif true then decide (m ≤ (4096 : Int)) else false)] [])
 (false = false ∧ Q [SV.bool false] []))
 (false = false ∧ false = false ∧ Q [SV.bool false] [])) := by kernel_rfl
theorem vc_sum (b : List Int) (i : Int) (Q : List SV → List (Nat × LB) → Prop) (R : List Item → PS → Prop) : sy tt G0 [] Try.f33.ntmps Try.f33.results.toList Q R 1000 [.code (bodyOf Try.f33)] (entry [.sl (.int .u8), .int .i64] (b, i, ())) =
    ((0 : Int) ≤ IntKind.i64.wrap (i - (4 : Int)) ∧
 IntKind.i64.wrap (i - (4 : Int)) ≤ i ∧
 i ≤ (↑b.length : Int) ∧
 R (hd Try.f33 (0 : Nat))
 {
 env :=
 [((0 : Nat), SV.sl (Sh.int IntKind.u8) b), ((1 : Nat), SV.int IntKind.i64 i),
 ((4 : Nat), SV.int IntKind.i64 (0 : Int)), ((5 : Nat), SV.int IntKind.i64 (0 : Int)),
 ((8 : Nat), SV.sl (Sh.int IntKind.u8) b), ((9 : Nat), SV.int IntKind.i64 i),
 ((10 : Nat), SV.int IntKind.i64 (IntKind.i64.wrap (i - (4 : Int)))), ((11 : Nat), SV.int IntKind.i64 i),
 ((12 : Nat), SV.sl (Sh.int IntKind.u8) (Px.part b (some (IntKind.i64.wrap (i - (4 : Int)))) (some i))),
 ((13 : Nat),
 SV.int IntKind.i64 (↑(Px.part b (some (IntKind.i64.wrap (i - (4 : Int)))) (some i)).length : Int)),
 ((14 : Nat), SV.int IntKind.i64 (0 : Int))],
 blk := [] }) := by kernel_rfl
theorem vc_sumL (p : List Int) (s i : Int) (Q : List SV → List (Nat × LB) → Prop) (R : List Item → PS → Prop) : sy tt G0 [] Try.f33.ntmps Try.f33.results.toList Q (fun it S => R it (keepS [5, 12, 13, 14] [] S)) 1000 (hd Try.f33 0) ⟨[(5, .int .i64 s), (12, .sl (.int .u8) p), (13, .int .i64 (p.length : Int)), (14, .int .i64 i)], []⟩ =
    (bc (decide (i < (↑p.length : Int)))
 ((0 : Int) ≤ i ∧
 i < (↑p.length : Int) ∧
 R (hd Try.f33 (0 : Nat))
 {
 env :=
 [((5 : Nat),
 SV.int IntKind.i64 (IntKind.i64.wrap (s + IntKind.i64.wrap (gt (Sh.int IntKind.u8) p i.toNat)))),
 ((12 : Nat), SV.sl (Sh.int IntKind.u8) p), ((13 : Nat), SV.int IntKind.i64 (↑p.length : Int)),
 ((14 : Nat), SV.int IntKind.i64 (IntKind.i64.wrap (i + (1 : Int))))],
 blk := [] })
 (Q [SV.int IntKind.i64 s] [])) := by kernel_rfl
theorem vc_refLim (w : List Int) (Q : List SV → List (Nat × LB) → Prop) (R : List Item → PS → Prop) : sy tt G0 [] Try.f28.ntmps Try.f28.results.toList Q R 1000 [.code (bodyOf Try.f28)] (entry [.arr 2 (.int .i64)] (w, ())) =
    ((0 : Int) ≤ (0 : Int) ∧
 (0 : Int) < (↑(2 : Nat) : Int) ∧
 Int.toNat (0 : Int) < (2 : Nat) ∧
 bc (decide ((4 : Int) ≤ gt (Sh.int IntKind.i64) w (Int.toNat (0 : Int))))
 ((0 : Int) ≤ (0 : Int) ∧
 (0 : Int) < (↑(2 : Nat) : Int) ∧
 Int.toNat (0 : Int) < (2 : Nat) ∧
 (0 : Int) ≤ (1 : Int) ∧
 (1 : Int) < (↑(2 : Nat) : Int) ∧
 Int.toNat (1 : Int) < (2 : Nat) ∧
 bc
 (bif true then
 decide
 (gt (Sh.int IntKind.i64) w (Int.toNat (0 : Int)) ≤
 gt (Sh.int IntKind.i64) w (Int.toNat (1 : Int)))
 else false)
 ((0 : Int) ≤ (1 : Int) ∧
 (1 : Int) < (↑(2 : Nat) : Int) ∧
 Int.toNat (1 : Int) < (2 : Nat) ∧
 Q
 [SV.bool
 (bif true then decide (gt (Sh.int IntKind.i64) w (Int.toNat (1 : Int)) ≤ (4096 : Int))
 else false)]
 [((1 : Nat), LB.var [SV.arr (2 : Nat) (Sh.int IntKind.i64) w])])
 (false = false ∧
 Q [SV.bool false] [((1 : Nat), LB.var [SV.arr (2 : Nat) (Sh.int IntKind.i64) w])]))
 (false = false ∧
 false = false ∧ Q [SV.bool false] [((1 : Nat), LB.var [SV.arr (2 : Nat) (Sh.int IntKind.i64) w])])) := by kernel_rfl
theorem vc_made (w : List Int) (Q : List SV → List (Nat × LB) → Prop) (R : List Item → PS → Prop) : sy tt G0 [] Try.f21.ntmps Try.f21.results.toList Q R 1000 [.code (bodyOf Try.f21)] (entry [.arr 2 (.int .u8)] (w, ())) =
    ((0 : Int) ≤ (0 : Int) ∧
 (0 : Int) < (↑(2 : Nat) : Int) ∧
 Int.toNat (0 : Int) < (2 : Nat) ∧
 (8 : Int) ≠ (0 : Int) ∧
 (0 : Int) ≤ (1 : Int) ∧
 (1 : Int) < (↑(2 : Nat) : Int) ∧
 Int.toNat (1 : Int) < (2 : Nat) ∧
 (16 : Int) ≠ (0 : Int) ∧
 Q
 [SV.arr (2 : Nat) (Sh.int IntKind.i64)
 ((List.set (Sh.arr (2 : Nat) (Sh.int IntKind.i64)).dflt (0 : Nat)
 (IntKind.i64.wrap
 ((4 : Int) +
 IntKind.i64.wrap
 (Int.tmod (gt (Sh.int IntKind.u8) w (Int.toNat (0 : Int))) (8 : Int))))).set
 (1 : Nat)
 (IntKind.i64.wrap
 (IntKind.i64.wrap
 ((4 : Int) +
 IntKind.i64.wrap
 (Int.tmod (gt (Sh.int IntKind.u8) w (Int.toNat (0 : Int))) (8 : Int))) +
 IntKind.i64.wrap (Int.tmod (gt (Sh.int IntKind.u8) w (Int.toNat (1 : Int))) (16 : Int)))))]
 [((1 : Nat), LB.var [SV.arr (2 : Nat) (Sh.int IntKind.u8) w]),
 ((2 : Nat),
 LB.var
 [SV.arr (2 : Nat) (Sh.int IntKind.i64)
 ((List.set (Sh.arr (2 : Nat) (Sh.int IntKind.i64)).dflt (0 : Nat)
 (IntKind.i64.wrap
 ((4 : Int) +
 IntKind.i64.wrap
 (Int.tmod (gt (Sh.int IntKind.u8) w (Int.toNat (0 : Int))) (8 : Int))))).set
 (1 : Nat)
 (IntKind.i64.wrap
 (IntKind.i64.wrap
 ((4 : Int) +
 IntKind.i64.wrap
 (Int.tmod (gt (Sh.int IntKind.u8) w (Int.toNat (0 : Int))) (8 : Int))) +
 IntKind.i64.wrap
 (Int.tmod (gt (Sh.int IntKind.u8) w (Int.toNat (1 : Int))) (16 : Int)))))])]) := by kernel_rfl
theorem vc_ints (a b : List Int) (Q : List SV → List (Nat × LB) → Prop) (R : List Item → PS → Prop) : sy tt G0 [] Try.f18.ntmps Try.f18.results.toList Q R 1000 [.code (bodyOf Try.f18)] (entry [.sl (.int .i64), .sl (.int .i64)] (a, b, ())) =
    (bc (decide ((↑a.length : Int) ≠ (↑b.length : Int))) (Q [SV.bool false] [])
 (R (hd Try.f18 (0 : Nat))
 {
 env :=
 [((0 : Nat), SV.sl (Sh.int IntKind.i64) a), ((1 : Nat), SV.sl (Sh.int IntKind.i64) b),
 ((4 : Nat), SV.bool false), ((5 : Nat), SV.int IntKind.i64 (0 : Int)),
 ((6 : Nat), SV.sl (Sh.int IntKind.i64) a), ((7 : Nat), SV.int IntKind.i64 (↑a.length : Int)),
 ((8 : Nat), SV.sl (Sh.int IntKind.i64) b), ((9 : Nat), SV.int IntKind.i64 (↑b.length : Int)),
 ((10 : Nat), SV.bool (decide ((↑a.length : Int) ≠ (↑b.length : Int))))],
 blk := [] })) := by kernel_rfl
theorem vc_intsL (a b : List Int) (i : Int) (Q : List SV → List (Nat × LB) → Prop) (R : List Item → PS → Prop) : sy tt G0 [] Try.f18.ntmps Try.f18.results.toList Q (fun it S => R it (keepS [0, 1, 5] [] S)) 1000 (hd Try.f18 0) ⟨[(0, .sl (.int .i64) a), (1, .sl (.int .i64) b), (5, .int .i64 i)], []⟩ =
    (bc (decide (i < (↑a.length : Int)))
 ((0 : Int) ≤ i ∧
 i < (↑a.length : Int) ∧
 (0 : Int) ≤ i ∧
 i < (↑b.length : Int) ∧
 bc (decide (gt (Sh.int IntKind.i64) a i.toNat ≠ gt (Sh.int IntKind.i64) b i.toNat)) (Q [SV.bool false] [])
 (R (hd Try.f18 (0 : Nat))
 {
 env :=
 [((0 : Nat), SV.sl (Sh.int IntKind.i64) a), ((1 : Nat), SV.sl (Sh.int IntKind.i64) b),
 ((5 : Nat), SV.int IntKind.i64 (IntKind.i64.wrap (i + (1 : Int))))],
 blk := [] }))
 (Q [SV.bool true] [])) := by kernel_rfl
theorem vc_rngs (a b : List (Int × Int)) (Q : List SV → List (Nat × LB) → Prop) (R : List Item → PS → Prop) : sy tt G0 [] Try.f19.ntmps Try.f19.results.toList Q R 1000 [.code (bodyOf Try.f19)] (entry [.sl (.pair (.int .i64) (.int .i64)), .sl (.pair (.int .i64) (.int .i64))] (a, b, ())) =
    (bc (decide ((↑a.length : Int) ≠ (↑b.length : Int))) (Q [SV.bool false] [])
 (R (hd Try.f19 (0 : Nat))
 {
 env :=
 [((0 : Nat), SV.sl ((Sh.int IntKind.i64).pair (Sh.int IntKind.i64)) a),
 ((1 : Nat), SV.sl ((Sh.int IntKind.i64).pair (Sh.int IntKind.i64)) b), ((4 : Nat), SV.bool false),
 ((5 : Nat), SV.int IntKind.i64 (0 : Int)),
 ((6 : Nat), SV.sl ((Sh.int IntKind.i64).pair (Sh.int IntKind.i64)) a),
 ((7 : Nat), SV.int IntKind.i64 (↑a.length : Int)),
 ((8 : Nat), SV.sl ((Sh.int IntKind.i64).pair (Sh.int IntKind.i64)) b),
 ((9 : Nat), SV.int IntKind.i64 (↑b.length : Int)),
 ((10 : Nat), SV.bool (decide ((↑a.length : Int) ≠ (↑b.length : Int))))],
 blk := [] })) := by kernel_rfl
theorem vc_rngsL (a b : List (Int × Int)) (i : Int) (Q : List SV → List (Nat × LB) → Prop) (R : List Item → PS → Prop) : sy tt G0 [] Try.f19.ntmps Try.f19.results.toList Q (fun it S => R it (keepS [0, 1, 5] [] S)) 1000 (hd Try.f19 0) ⟨[(0, .sl (.pair (.int .i64) (.int .i64)) a), (1, .sl (.pair (.int .i64) (.int .i64)) b), (5, .int .i64 i)], []⟩ =
    (bc (decide (i < (↑a.length : Int)))
 ((0 : Int) ≤ i ∧
 i < (↑a.length : Int) ∧
 (0 : Int) ≤ i ∧
 i < (↑b.length : Int) ∧
 bc
 (!decide
 ([(gt ((Sh.int IntKind.i64).pair (Sh.int IntKind.i64)) a i.toNat).fst,
 (gt ((Sh.int IntKind.i64).pair (Sh.int IntKind.i64)) a i.toNat).snd] =
 [(gt ((Sh.int IntKind.i64).pair (Sh.int IntKind.i64)) b i.toNat).fst,
 (gt ((Sh.int IntKind.i64).pair (Sh.int IntKind.i64)) b i.toNat).snd]))
 (Q [SV.bool false] [])
 (R (hd Try.f19 (0 : Nat))
 {
 env :=
 [((0 : Nat), SV.sl ((Sh.int IntKind.i64).pair (Sh.int IntKind.i64)) a),
 ((1 : Nat), SV.sl ((Sh.int IntKind.i64).pair (Sh.int IntKind.i64)) b),
 ((5 : Nat), SV.int IntKind.i64 (IntKind.i64.wrap (i + (1 : Int))))],
 blk := [] }))
 (Q [SV.bool true] [])) := by kernel_rfl
theorem vc_prsL (a b : List (List Int)) (i : Int) (Q : List SV → List (Nat × LB) → Prop) (R : List Item → PS → Prop) : sy tt G0 [] Try.f20.ntmps Try.f20.results.toList Q (fun it S => R it (keepS [0, 1, 5] [] S)) 1000 (hd Try.f20 0) ⟨[(0, .sl (.arr 2 (.int .i64)) a), (1, .sl (.arr 2 (.int .i64)) b), (5, .int .i64 i)], []⟩ =
    (bc (decide (i < (↑a.length : Int)))
 ((0 : Int) ≤ i ∧
 i < (↑a.length : Int) ∧
 (0 : Int) ≤ i ∧
 i < (↑b.length : Int) ∧
 bc
 (!decide
 (gt (Sh.arr (2 : Nat) (Sh.int IntKind.i64)) a i.toNat =
 gt (Sh.arr (2 : Nat) (Sh.int IntKind.i64)) b i.toNat))
 (Q [SV.bool false] [])
 (R (hd Try.f20 (0 : Nat))
 {
 env :=
 [((0 : Nat), SV.sl (Sh.arr (2 : Nat) (Sh.int IntKind.i64)) a),
 ((1 : Nat), SV.sl (Sh.arr (2 : Nat) (Sh.int IntKind.i64)) b),
 ((5 : Nat), SV.int IntKind.i64 (IntKind.i64.wrap (i + (1 : Int))))],
 blk := [] }))
 (Q [SV.bool true] [])) := by kernel_rfl
theorem vc_sameL (a b : List Int) (i : Int) (Q : List SV → List (Nat × LB) → Prop) (R : List Item → PS → Prop) : sy tt G0 [] Try.f23.ntmps Try.f23.results.toList Q (fun it S => R it (keepS [0, 1, 5] [] S)) 1000 (hd Try.f23 0) ⟨[(0, .sl (.int .u8) a), (1, .sl (.int .u8) b), (5, .int .i64 i)], []⟩ =
    (bc (decide (i < (↑a.length : Int)))
 ((0 : Int) ≤ i ∧
 i < (↑a.length : Int) ∧
 (0 : Int) ≤ i ∧
 i < (↑b.length : Int) ∧
 bc (decide (gt (Sh.int IntKind.u8) a i.toNat ≠ gt (Sh.int IntKind.u8) b i.toNat)) (Q [SV.bool false] [])
 (R (hd Try.f23 (0 : Nat))
 {
 env :=
 [((0 : Nat), SV.sl (Sh.int IntKind.u8) a), ((1 : Nat), SV.sl (Sh.int IntKind.u8) b),
 ((5 : Nat), SV.int IntKind.i64 (IntKind.i64.wrap (i + (1 : Int))))],
 blk := [] }))
 (Q [SV.bool true] [])) := by kernel_rfl
theorem vc_prs (a b : List (List Int)) (Q : List SV → List (Nat × LB) → Prop) (R : List Item → PS → Prop) : sy tt G0 [] Try.f20.ntmps Try.f20.results.toList Q R 1000 [.code (bodyOf Try.f20)] (entry [.sl (.arr 2 (.int .i64)), .sl (.arr 2 (.int .i64))] (a, b, ())) =
    (bc (decide ((↑a.length : Int) ≠ (↑b.length : Int))) (Q [SV.bool false] [])
 (R (hd Try.f20 (0 : Nat))
 {
 env :=
 [((0 : Nat), SV.sl (Sh.arr (2 : Nat) (Sh.int IntKind.i64)) a),
 ((1 : Nat), SV.sl (Sh.arr (2 : Nat) (Sh.int IntKind.i64)) b), ((4 : Nat), SV.bool false),
 ((5 : Nat), SV.int IntKind.i64 (0 : Int)), ((6 : Nat), SV.sl (Sh.arr (2 : Nat) (Sh.int IntKind.i64)) a),
 ((7 : Nat), SV.int IntKind.i64 (↑a.length : Int)),
 ((8 : Nat), SV.sl (Sh.arr (2 : Nat) (Sh.int IntKind.i64)) b),
 ((9 : Nat), SV.int IntKind.i64 (↑b.length : Int)),
 ((10 : Nat), SV.bool (decide ((↑a.length : Int) ≠ (↑b.length : Int))))],
 blk := [] })) := by kernel_rfl
theorem vc_same (a b : List Int) (Q : List SV → List (Nat × LB) → Prop) (R : List Item → PS → Prop) : sy tt G0 [] Try.f23.ntmps Try.f23.results.toList Q R 1000 [.code (bodyOf Try.f23)] (entry [.sl (.int .u8), .sl (.int .u8)] (a, b, ())) =
    (bc (decide ((↑a.length : Int) ≠ (↑b.length : Int))) (Q [SV.bool false] [])
 (R (hd Try.f23 (0 : Nat))
 {
 env :=
 [((0 : Nat), SV.sl (Sh.int IntKind.u8) a), ((1 : Nat), SV.sl (Sh.int IntKind.u8) b), ((4 : Nat), SV.bool false),
 ((5 : Nat), SV.int IntKind.i64 (0 : Int)), ((6 : Nat), SV.sl (Sh.int IntKind.u8) a),
 ((7 : Nat), SV.int IntKind.i64 (↑a.length : Int)), ((8 : Nat), SV.sl (Sh.int IntKind.u8) b),
 ((9 : Nat), SV.int IntKind.i64 (↑b.length : Int)),
 ((10 : Nat), SV.bool (decide ((↑a.length : Int) ≠ (↑b.length : Int))))],
 blk := [] })) := by kernel_rfl
theorem vc_piece (b : List Int) (r : Int × Int) (Q : List SV → List (Nat × LB) → Prop) (R : List Item → PS → Prop) : sy tt G0 [] Try.f24.ntmps Try.f24.results.toList Q R 1000 [.code (bodyOf Try.f24)] (entry [.sl (.int .u8), .pair (.int .i64) (.int .i64)] (b, r, ())) =
    ((0 : Int) ≤ r.fst ∧
 r.fst ≤ r.snd ∧
 r.snd ≤ (↑b.length : Int) ∧
 Q [SV.sl (Sh.int IntKind.u8) (Px.part b (some r.fst) (some r.snd))]
 [((3 : Nat), LB.var [SV.int IntKind.i64 r.fst, SV.int IntKind.i64 r.snd])]) := by kernel_rfl
theorem vc_bof (b : List Int) (l m : Int) (Q : List SV → List (Nat × LB) → Prop) (R : List Item → PS → Prop) : sy tt G0 [] Try.f27.ntmps Try.f27.results.toList Q R 1000 [.code (bodyOf Try.f27)] (entryI [.dat (.sl (.int .u8)), .dat (.int .i64), .dat (.int .i64)] (b, l, m, ())) =
    (Q [SV.fn (31 : Nat) [] [SV.ptr (3 : Nat) (0 : Nat), SV.ptr (4 : Nat) (0 : Nat), SV.ptr (5 : Nat) (0 : Nat)]]
 [((3 : Nat), LB.var [SV.sl (Sh.int IntKind.u8) b]), ((4 : Nat), LB.var [SV.int IntKind.i64 l]),
 ((5 : Nat), LB.var [SV.int IntKind.i64 m])]) := by kernel_rfl
end Go.Proofs.Ytgffokpiklnpmaa
namespace Go.Proofs.Ytgffokpiklnpmaa
open Go.Px Go.Ax
abbrev GD (f : Nat) (fn : Func) (Q : List SV → List (Nat × LB) → Prop) (it : List Item) (S : PS) : Prop := Px.Good Try.prog tt G0 f fn.ntmps fn.results.toList Q it S
abbrev slB : Sh := .sl (.int .u8)
abbrev slI : Sh := .sl (.int .i64)
abbrev iI : Sh := .int .i64
abbrev rgS : Sh := .pair (.int .i64) (.int .i64)
abbrev paS : Sh := .arr 2 (.int .i64)
def bytesOK (b : List Int) : Prop := ∀ c ∈ b, 0 ≤ c ∧ c < 256
theorem gtE {σ : Sh} {l : List σ.D} {i : Nat} (h : i < l.length) : gt σ l i = l[i] := by
  show (l[i]?).getD _ = _
  rw [List.getElem?_eq_getElem h]; rfl
theorem dropc {α : Type} {l : List α} {i : Nat} (h : i < l.length) : l.drop i = l[i] :: l.drop (i + 1) := List.drop_eq_getElem_cons h
/-- The numbers that may be limits. -/
def limR (l m : Int) : Bool := decide (4 ≤ l ∧ l ≤ m ∧ m ≤ 4096)
def ctLim : Ctr := ⟨[iI, iI], fun _ => True, fun x => [.bool (limR x.1 x.2.1)], fun _ => []⟩
theorem lim_run (l m : Int) (R : List Item → PS → Prop) : sy tt G0 [] Try.f26.ntmps Try.f26.results.toList (QC ctLim (l, m, ())) R 1000 [.code (bodyOf Try.f26)] (entry [iI, iI] (l, m, ())) := by
  refine (vc_lim _ _ _ _).mpr (bc_of (fun h => ?_) (fun h => ?_))
  · have h := of_decide_eq_true h
    refine bc_of (fun h2 => QC.flat ?_ rfl rfl) (fun h2 => ⟨rfl, QC.flat ?_ rfl rfl⟩)
    · have h2 : l ≤ m := of_decide_eq_true h2
      show [SV.bool (limR l m)] = [SV.bool (decide (m ≤ 4096))]
      rw [limR, decide_eq_decide.2 (show (4 ≤ l ∧ l ≤ m ∧ m ≤ 4096) ↔ m ≤ 4096 by omega)]
    · have h2 : ¬ l ≤ m := of_decide_eq_false h2
      show [SV.bool (limR l m)] = _
      rw [limR, decide_eq_false (by omega)]
  · have h := of_decide_eq_false h
    refine ⟨rfl, rfl, QC.flat ?_ rfl rfl⟩
    show [SV.bool (limR l m)] = _
    rw [limR, decide_eq_false (by omega)]
theorem lim_held : Held Try.prog G0 26 ctLim := Held.run cx0 (fn := Try.f26) rfl rfl ⟨by decide, by decide⟩ fun x _ => lim_run x.1 x.2.1 _
/-- The sum at a place. -/
def sumL (p : List Int) : Int := p.foldl (· + ·) 0
def sum4 (b : List Int) (i : Nat) : Int := sumL ((b.take i).drop (i - 4))
def preSum (b : List Int) (i : Int) : Prop := 4 ≤ i ∧ i ≤ b.length ∧ b.length < 1048576 ∧ bytesOK b
def ctSum : Ctr := ⟨[slB, iI], fun x => preSum x.1 x.2.1, fun x => [.int .i64 (sum4 x.1 x.2.1.toNat)], fun _ => []⟩
theorem foldl_add : ∀ (p : List Int) (s : Int), p.foldl (· + ·) s = s + sumL p
  | [], s => by simp [sumL]
  | x :: p, s => by
    rw [List.foldl_cons, foldl_add p, show sumL (x :: p) = p.foldl (· + ·) (0 + x) from rfl, foldl_add p (0 + x)]; omega
theorem sumL_bd : ∀ (p : List Int), bytesOK p → 0 ≤ sumL p ∧ sumL p ≤ 256 * (p.length : Nat)
  | [], _ => by simp [sumL]
  | x :: p, h => by
    have h1 := h x (by simp)
    have h2 := sumL_bd p fun c hc => h c (by simp [hc])
    rw [sumL, List.foldl_cons, foldl_add, List.length_cons]
    omega
theorem sum_loop {p : List Int} (hp : bytesOK p) (hl : p.length < 1048576) : ∀ (m i : Nat) (s : Int), p.length - i ≤ m → i ≤ p.length → 0 ≤ s → s ≤ 256 * (i : Nat) →
    GD 33 Try.f33 (fun rs _ => rs = [.int .i64 (s + sumL (p.drop i))]) (hd Try.f33 0) ⟨[(5, .int .i64 s), (12, .sl (.int .u8) p), (13, .int .i64 (p.length : Int)), (14, .int .i64 (i : Nat))], []⟩ := by
  intro m
  induction m with
  | zero =>
    intro i s hm h1 h2 h3
    refine sy_goK cx0 (vc_sumL _ _ _ _ _) (bc_of (fun h => ?_) (fun h => ?_))
    · have h := of_decide_eq_true h; omega
    · show [SV.int _ _] = _
      rw [List.drop_eq_nil_of_le (by omega)]; simp [sumL]
  | succ m ih =>
    intro i s hm h1 h2 h3
    by_cases hi : i < p.length
    · refine sy_goK cx0 (vc_sumL _ _ _ _ _) ?_
      have hb := hp p[i] (List.getElem_mem hi)
      have e1 : gt (Sh.int .u8) p (i : Int).toNat = p[i] := gtE hi
      rw [decide_eq_true (show (i : Int) < (p.length : Int) by omega), bc_t, e1, IntWalk.i64_in p[i] (by omega), IntWalk.i64_in (s + p[i]) (by omega), IntWalk.i64_in ((i : Int) + 1) (by omega)]
      refine ⟨by omega, by omega, ?_⟩
      have k := ih (i + 1) (s + p[i]) (by omega) (by omega) (by omega) (by omega)
      rw [dropc hi, sumL, List.foldl_cons, foldl_add, show s + (0 + p[i] + sumL (p.drop (i + 1))) = s + p[i] + sumL (p.drop (i + 1)) by omega]
      exact k
    · exact ih i s (by omega) h1 h2 h3
theorem bytes_part {b : List Int} (h : bytesOK b) (lo n : Nat) : bytesOK ((b.take n).drop lo) := fun c hc => h c (List.mem_of_mem_take (List.mem_of_mem_drop hc))
theorem bytes_drop {b : List Int} (h : bytesOK b) (n : Nat) : bytesOK (b.drop n) := fun c hc => h c (List.mem_of_mem_drop hc)
theorem sum_run (b : List Int) (i : Int) (hp : preSum b i) : sy tt G0 [] Try.f33.ntmps Try.f33.results.toList (QC ctSum (b, i, ())) (Px.Good Try.prog tt G0 33 Try.f33.ntmps Try.f33.results.toList (QC ctSum (b, i, ()))) 1000 [.code (bodyOf Try.f33)] (entry [slB, iI] (b, i, ())) := by
  obtain ⟨h1, h2, h3, h4⟩ := hp
  refine (vc_sum _ _ _ _).mpr ?_
  rw [IntWalk.i64_in (i - 4) (by omega)]
  refine ⟨by omega, by omega, h2, ?_⟩
  have hpl : ((b.take i.toNat).drop (i.toNat - 4)).length = 4 := by rw [List.length_drop, List.length_take]; omega
  have e : Px.part b (some (i - 4)) (some i) = (b.take i.toNat).drop (i.toNat - 4) := by
    show (b.take i.toNat).drop (i - 4).toNat = _
    rw [show (i - 4).toNat = i.toNat - 4 by omega]
  rw [e]
  refine ((sum_loop (bytes_part h4 _ _) (by omega) _ 0 0 (Nat.le_refl _) (Nat.zero_le _) (by omega) (by omega)).post fun rs blk hq => QC.flat (by rw [hq, Int.zero_add]; rfl) rfl (by rw [hq]; rfl)).only ⟨rfl, rfl, rfl, rfl, trivial⟩ trivial
theorem sum_held : Held Try.prog G0 33 ctSum := Held.run cx0 (fn := Try.f33) rfl rfl ⟨by decide, by decide⟩ fun x hp => sum_run x.1 x.2.1 hp
/-- The reference's limits. -/
def pr2 (w : List Int) : Int × Int := (gt (Sh.int .i64) w 0, gt (Sh.int .i64) w 1)
def ctRefLim : Ctr := ⟨[paS], fun _ => True, fun x => [.bool (limR (pr2 x.1).1 (pr2 x.1).2)], fun _ => []⟩
theorem refLim_run (w : List Int) (R : List Item → PS → Prop) : sy tt G0 [] Try.f28.ntmps Try.f28.results.toList (QC ctRefLim (w, ())) R 1000 [.code (bodyOf Try.f28)] (entry [paS] (w, ())) := by
  refine (vc_refLim _ _ _).mpr ⟨by decide, by decide, by decide, bc_of (fun h => ⟨by decide, by decide, by decide, by decide, by decide, by decide, ?_⟩) (fun h => ⟨rfl, rfl, ?_⟩)⟩
  · have h := of_decide_eq_true h
    refine bc_of (fun h2 => ⟨by decide, by decide, by decide, QC.flat ?_ rfl rfl⟩) (fun h2 => ⟨rfl, QC.flat ?_ rfl rfl⟩)
    · have h2 : gt (Sh.int .i64) w 0 ≤ gt (Sh.int .i64) w 1 := of_decide_eq_true h2
      show [SV.bool (limR (gt (Sh.int .i64) w 0) (gt (Sh.int .i64) w 1))] = [SV.bool (decide (gt (Sh.int .i64) w 1 ≤ 4096))]
      have h' : (4 : Int) ≤ gt (Sh.int .i64) w 0 := h
      rw [limR, decide_eq_decide.2 ⟨fun q => q.2.2, fun q => ⟨h', h2, q⟩⟩]
    · have h2 : ¬ gt (Sh.int .i64) w 0 ≤ gt (Sh.int .i64) w 1 := of_decide_eq_false h2
      show [SV.bool (limR (gt (Sh.int .i64) w 0) (gt (Sh.int .i64) w 1))] = _
      rw [limR, decide_eq_false fun q => h2 q.2.1]
  · have h : ¬ (4 : Int) ≤ gt (Sh.int .i64) w 0 := of_decide_eq_false h
    refine QC.flat ?_ rfl rfl
    show [SV.bool (limR (gt (Sh.int .i64) w 0) (gt (Sh.int .i64) w 1))] = _
    rw [limR, decide_eq_false fun q => h q.1]
theorem refLim_held : Held Try.prog G0 28 ctRefLim := Held.run cx0 (fn := Try.f28) rfl rfl ⟨by decide, by decide⟩ fun x _ => refLim_run x.1 _
/-- The limits that are made of octets. -/
def madeL (w : List Int) : List Int := [4 + (gt (Sh.int .u8) w 0) % 8, 4 + (gt (Sh.int .u8) w 0) % 8 + (gt (Sh.int .u8) w 1) % 16]
def preMade (w : List Int) : Prop := (0 ≤ gt (Sh.int .u8) w 0 ∧ gt (Sh.int .u8) w 0 < 256) ∧ 0 ≤ gt (Sh.int .u8) w 1 ∧ gt (Sh.int .u8) w 1 < 256
def ctMade : Ctr := ⟨[.arr 2 (.int .u8)], fun x => preMade x.1, fun x => [.arr 2 (.int .i64) (madeL x.1)], fun _ => []⟩
theorem made_run (w : List Int) (hp : preMade w) (R : List Item → PS → Prop) : sy tt G0 [] Try.f21.ntmps Try.f21.results.toList (QC ctMade (w, ())) R 1000 [.code (bodyOf Try.f21)] (entry [.arr 2 (.int .u8)] (w, ())) := by
  obtain ⟨⟨h1, h2⟩, h3, h4⟩ := hp
  refine (vc_made _ _ _).mpr ⟨by decide, by decide, by decide, by decide, by decide, by decide, by decide, by decide, QC.flat ?_ rfl rfl⟩
  show [SV.arr 2 (.int .i64) (madeL w)] = [SV.arr 2 (.int .i64) [_, _]]
  have e1 : Int.tmod (gt (Sh.int .u8) w 0) 8 = (gt (Sh.int .u8) w 0) % 8 := Int.tmod_eq_emod_of_nonneg h1
  have e2 : Int.tmod (gt (Sh.int .u8) w 1) 16 = (gt (Sh.int .u8) w 1) % 16 := Int.tmod_eq_emod_of_nonneg h3
  simp only [show Int.toNat 0 = 0 from rfl, show Int.toNat 1 = 1 from rfl]
  rw [e1, e2, IntWalk.i64_in (gt (Sh.int .u8) w 0 % 8) (by omega), IntWalk.i64_in (gt (Sh.int .u8) w 1 % 16) (by omega), IntWalk.i64_in (4 + gt (Sh.int .u8) w 0 % 8) (by omega), IntWalk.i64_in (4 + gt (Sh.int .u8) w 0 % 8 + gt (Sh.int .u8) w 1 % 16) (by omega)]
  rfl
theorem made_held : Held Try.prog G0 21 ctMade := Held.run cx0 (fn := Try.f21) rfl rfl ⟨by decide, by decide⟩ fun x hp => made_run x.1 hp _
end Go.Proofs.Ytgffokpiklnpmaa
namespace Go.Proofs.Ytgffokpiklnpmaa
open Go.Px Go.Ax
abbrev D1 : CV := [(26, .inl ctLim), (33, .inl ctSum), (28, .inl ctRefLim), (21, .inl ctMade)]
theorem dx1 : CxOK Try.prog tt G0 D1 := (((cx0.cons made_held (fn := Try.f21) rfl rfl rfl).cons refLim_held (fn := Try.f28) rfl rfl rfl).cons sum_held (fn := Try.f33) rfl rfl rfl).cons lim_held (fn := Try.f26) rfl rfl rfl
set_option maxRecDepth 100000
theorem vc_flen (b : List Int) (l m : Int) (Q : List SV → List (Nat × LB) → Prop) (R : List Item → PS → Prop) : sy tt G0 D1 Try.f32.ntmps Try.f32.results.toList Q R 1000 [.code (bodyOf Try.f32)] (entry [.sl (.int .u8), .int .i64, .int .i64] (b, l, m, ())) =
    (R (hd Try.f32 (0 : Nat))
 {
 env :=
 [((0 : Nat), SV.sl (Sh.int IntKind.u8) b), ((1 : Nat), SV.int IntKind.i64 l), ((2 : Nat), SV.int IntKind.i64 m),
 ((6 : Nat), SV.int IntKind.i64 (0 : Int)), ((7 : Nat), SV.int IntKind.i64 (min (↑b.length : Int) m)),
 ((8 : Nat), SV.int IntKind.i64 l), ((9 : Nat), SV.sl (Sh.int IntKind.u8) b),
 ((10 : Nat), SV.int IntKind.i64 (↑b.length : Int)), ((11 : Nat), SV.int IntKind.i64 m),
 ((12 : Nat), SV.int IntKind.i64 (min (↑b.length : Int) m)), ((13 : Nat), SV.int IntKind.i64 l)],
 blk := [] }) := by kernel_rfl
theorem vc_flenL (b : List Int) (n e : Int) (Q : List SV → List (Nat × LB) → Prop) (R : List Item → PS → Prop) : sy tt G0 D1 Try.f32.ntmps Try.f32.results.toList Q (fun it S => R it (keepS [0, 7, 8] [] S)) 1000 (hd Try.f32 0) ⟨[(0, .sl (.int .u8) b), (7, .int .i64 e), (8, .int .i64 n)], []⟩ =
    (bc (decide (n < e))
 (ctSum.pre (b, n, ()) ∧
 (16 : Int) ≠ (0 : Int) ∧
 bc (decide ((sum4 b n.toNat).tmod (16 : Int) = (0 : Int))) (Q [SV.int IntKind.i64 n] [])
 (R (hd Try.f32 (0 : Nat))
 {
 env :=
 [((0 : Nat), SV.sl (Sh.int IntKind.u8) b), ((7 : Nat), SV.int IntKind.i64 e),
 ((8 : Nat), SV.int IntKind.i64 (IntKind.i64.wrap (n + (1 : Int))))],
 blk := [] }))
 (Q [SV.int IntKind.i64 e] [])) := by kernel_rfl
end Go.Proofs.Ytgffokpiklnpmaa
namespace Go.Proofs.Ytgffokpiklnpmaa
open Go.Px Go.Ax
def isCut (b : List Int) (n : Nat) : Bool := decide ((sum4 b n).tmod 16 = 0)
def scanB (b : List Int) : Nat → Nat → Nat
  | 0, n => n
  | k + 1, n => if isCut b n then n else scanB b k (n + 1)
/-- How many bytes the first block has. -/
def firstLen (b : List Int) (l m : Nat) : Nat := if min b.length m ≤ l then min b.length m else scanB b (min b.length m - l) l
theorem scanB_bd (b : List Int) : ∀ k n, n ≤ scanB b k n ∧ scanB b k n ≤ n + k
  | 0, n => ⟨Nat.le_refl _, Nat.le_refl _⟩
  | k + 1, n => by
    have := scanB_bd b k (n + 1)
    simp only [scanB]
    split <;> omega
theorem firstLen_bd {b : List Int} {l m : Nat} (h : 4 ≤ l ∧ l ≤ m) (hb : 0 < b.length) : 1 ≤ firstLen b l m ∧ firstLen b l m ≤ b.length ∧ firstLen b l m ≤ m := by
  unfold firstLen
  split
  · omega
  · have := scanB_bd b (min b.length m - l) l
    omega
def preB (b : List Int) (l m : Int) : Prop := (4 ≤ l ∧ l ≤ m ∧ m ≤ 4096) ∧ b.length < 1048576 ∧ bytesOK b
def ctFlen : Ctr := ⟨[slB, iI, iI], fun x => preB x.1 x.2.1 x.2.2.1, fun x => [.int .i64 (firstLen x.1 x.2.1.toNat x.2.2.1.toNat : Nat)], fun _ => []⟩
theorem flen_loop {b : List Int} (hb : bytesOK b) (hl : b.length < 1048576) : ∀ (k n : Nat), 4 ≤ n → n + k ≤ b.length →
    GD 32 Try.f32 (fun rs _ => rs = [.int .i64 (scanB b k n : Nat)]) (hd Try.f32 0) ⟨[(0, .sl (.int .u8) b), (7, .int .i64 ((n + k : Nat) : Int)), (8, .int .i64 (n : Nat))], []⟩ := by
  intro k
  induction k with
  | zero =>
    intro n h1 h2
    refine sy_goK dx1 (vc_flenL _ _ _ _ _) ?_
    rw [decide_eq_false (by omega), bc_f]
    rfl
  | succ k ih =>
    intro n h1 h2
    refine sy_goK dx1 (vc_flenL _ _ _ _ _) ?_
    rw [decide_eq_true (by omega), bc_t, IntWalk.i64_in ((n : Int) + 1) (by omega)]
    refine ⟨(show preSum b n from ⟨by omega, by omega, hl, hb⟩), by decide, bc_of (fun h => ?_) (fun h => ?_)⟩
    · have h : isCut b n = true := h
      rw [scanB, if_pos h]
    · have h : isCut b n = false := h
      rw [scanB, if_neg (by rw [h]; decide)]
      have e := ih (n + 1) (by omega) (by omega)
      rw [show n + 1 + k = n + (k + 1) by omega] at e
      exact e
theorem flen_run (b : List Int) (l m : Int) (hp : preB b l m) : sy tt G0 D1 Try.f32.ntmps Try.f32.results.toList (QC ctFlen (b, l, m, ())) (Px.Good Try.prog tt G0 32 Try.f32.ntmps Try.f32.results.toList (QC ctFlen (b, l, m, ()))) 1000 [.code (bodyOf Try.f32)] (entry [slB, iI, iI] (b, l, m, ())) := by
  obtain ⟨h1, h2, h3⟩ := hp
  refine (vc_flen _ _ _ _ _).mpr ?_
  obtain ⟨l, rfl⟩ := Int.eq_ofNat_of_zero_le (show 0 ≤ l by omega)
  obtain ⟨m, rfl⟩ := Int.eq_ofNat_of_zero_le (show 0 ≤ m by omega)
  have em : min (b.length : Int) (m : Int) = ((min b.length m : Nat) : Int) := by omega
  rw [em]
  by_cases hle : min b.length m ≤ l
  · have hg : GD 32 Try.f32 (fun rs _ => rs = [.int .i64 (firstLen b l m : Nat)]) (hd Try.f32 0) ⟨[(0, .sl (.int .u8) b), (7, .int .i64 ((min b.length m : Nat) : Int)), (8, .int .i64 (l : Nat))], []⟩ := by
      refine sy_goK dx1 (vc_flenL _ _ _ _ _) ?_
      rw [decide_eq_false (by omega), bc_f, firstLen, if_pos hle]
    exact (hg.post fun rs blk hq => QC.flat (by rw [hq]; rfl) rfl (by rw [hq]; rfl)).only ⟨rfl, rfl, rfl, trivial⟩ trivial
  · have hg := flen_loop h3 h2 (min b.length m - l) l (by omega) (by omega)
    rw [show l + (min b.length m - l) = min b.length m by omega] at hg
    refine (hg.post fun rs blk hq => QC.flat ?_ rfl (by rw [hq]; rfl)).only ⟨rfl, rfl, rfl, trivial⟩ trivial
    rw [hq]
    show [SV.int .i64 (firstLen b l m : Nat)] = _
    rw [firstLen, if_neg hle]
theorem flen_held : Held Try.prog G0 32 ctFlen := Held.run dx1 (fn := Try.f32) rfl rfl ⟨by decide, by decide⟩ fun x hp => flen_run x.1 x.2.1 x.2.2.1 hp
abbrev D2 : CV := (32, .inl ctFlen) :: D1
theorem dx2 : CxOK Try.prog tt G0 D2 := dx1.cons flen_held (fn := Try.f32) rfl rfl rfl
end Go.Proofs.Ytgffokpiklnpmaa
namespace Go.Proofs.Ytgffokpiklnpmaa
open Go.Px Go.Ax
abbrev capK : List AK := [.ptr [.dat (.sl (.int .u8))], .ptr [.dat (.int .i64)], .ptr [.dat (.int .i64)]]
abbrev ySh : List Sh := [.int .i64, .pair (.int .i64) (.int .i64)]
set_option maxRecDepth 100000
theorem vc_it (b : List Int) (l m : Int) (lp : Nat) (ys : List (DL ySh)) (Q : AExit → Nat × Bool → PS → Prop) (R : List Item → Nat × Bool → PS → Prop) : syE tt G0 D2 Try.f31.ntmps ⟨lp, ySh, ys⟩ Q R .fn 1000 [.code (bodyOf Try.f31)] (0, false) (entryY lp capK ((b, ()), (l, ()), (m, ()), ())) =
    (R (hd Try.f31 (0 : Nat)) ((0 : Nat), false)
 {
 env :=
 [((0 : Nat), SV.yl lp), ((1 : Nat), SV.ptr (1099511627776 : Nat) (0 : Nat)),
 ((2 : Nat), SV.ptr (1099511627777 : Nat) (0 : Nat)), ((3 : Nat), SV.ptr (1099511627778 : Nat) (0 : Nat)),
 ((5 : Nat), SV.int IntKind.i64 (0 : Int)), ((6 : Nat), SV.int IntKind.i64 (0 : Int))],
 blk :=
 [((1099511627776 : Nat), LB.var [SV.sl (Sh.int IntKind.u8) b]),
 ((1099511627777 : Nat), LB.var [SV.int IntKind.i64 l]),
 ((1099511627778 : Nat), LB.var [SV.int IntKind.i64 m])] }) := by kernel_rfl
theorem vc_itL (b : List Int) (l m i p : Int) (j : Nat) (q : Bool) (lp : Nat) (ys : List (DL ySh)) (Q : AExit → Nat × Bool → PS → Prop) (R : List Item → Nat × Bool → PS → Prop) : syE tt G0 D2 Try.f31.ntmps ⟨lp, ySh, ys⟩ Q (fun it g S => R it g (keepS [0, 1, 2, 3, 5, 6] [BIG, BIG + 1, BIG + 2] S)) .fn 1000 (hd Try.f31 0) (j, q) (⟨[(0, .yl lp), (1, .ptr BIG 0), (2, .ptr (BIG + 1) 0), (3, .ptr (BIG + 2) 0), (5, .int .i64 p), (6, .int .i64 i)], [(BIG, .var [.sl (.int .u8) b]), (BIG + 1, .var [.int .i64 l]), (BIG + 2, .var [.int .i64 m])]⟩) =
    (bc (decide (p < (↑b.length : Int)))
 ((0 : Int) ≤ p ∧
 p ≤ (↑b.length : Int) ∧
 ctFlen.pre (List.drop p.toNat b, l, m, ()) ∧
 lp = (Yp.mk lp ySh ys).l ∧
 q = false ∧
 (Yp.mk lp ySh ys).ys[j]? =
 some (i, (p, IntKind.i64.wrap (p + (↑(firstLen (List.drop p.toNat b) l.toNat m.toNat) : Int))), ()) ∧
 ∀ (r : Bool),
 bc (!r)
 (Q AExit.ret (j + (1 : Nat), !r)
 {
 env :=
 [((0 : Nat), SV.yl lp), ((1 : Nat), SV.ptr (1099511627776 : Nat) (0 : Nat)),
 ((2 : Nat), SV.ptr (1099511627777 : Nat) (0 : Nat)),
 ((3 : Nat), SV.ptr (1099511627778 : Nat) (0 : Nat)), ((5 : Nat), SV.int IntKind.i64 p),
 ((6 : Nat), SV.int IntKind.i64 i),
 ((7 : Nat),
 SV.int IntKind.i64
 (IntKind.i64.wrap (p + (↑(firstLen (List.drop p.toNat b) l.toNat m.toNat) : Int)))),
 ((8 : Nat), SV.int IntKind.i64 p), ((9 : Nat), SV.sl (Sh.int IntKind.u8) b),
 ((10 : Nat), SV.int IntKind.i64 (↑b.length : Int)),
 ((11 : Nat), SV.bool (decide (p < (↑b.length : Int)))), ((14 : Nat), SV.int IntKind.i64 p),
 ((15 : Nat), SV.sl (Sh.int IntKind.u8) b), ((16 : Nat), SV.int IntKind.i64 p),
 ((17 : Nat), SV.sl (Sh.int IntKind.u8) (List.drop p.toNat b)),
 ((18 : Nat), SV.int IntKind.i64 l), ((19 : Nat), SV.int IntKind.i64 m),
 ((20 : Nat), SV.int IntKind.i64 (↑(firstLen (List.drop p.toNat b) l.toNat m.toNat) : Int)),
 ((21 : Nat),
 SV.int IntKind.i64
 (IntKind.i64.wrap (p + (↑(firstLen (List.drop p.toNat b) l.toNat m.toNat) : Int)))),
 ((22 : Nat), SV.yl lp), ((23 : Nat), SV.int IntKind.i64 i),
 ((24 : Nat), SV.int IntKind.i64 p),
 ((25 : Nat),
 SV.int IntKind.i64
 (IntKind.i64.wrap (p + (↑(firstLen (List.drop p.toNat b) l.toNat m.toNat) : Int)))),
 ((26 : Nat),
 SV.agg
 [SV.int IntKind.i64 p,
 SV.int IntKind.i64
 (IntKind.i64.wrap (p + (↑(firstLen (List.drop p.toNat b) l.toNat m.toNat) : Int)))]),
 ((27 : Nat), SV.bool r), ((28 : Nat), SV.bool !r)],
 blk :=
 [((1099511627776 : Nat), LB.var [SV.sl (Sh.int IntKind.u8) b]),
 ((1099511627777 : Nat), LB.var [SV.int IntKind.i64 l]),
 ((1099511627778 : Nat), LB.var [SV.int IntKind.i64 m])] })
 (R (hd Try.f31 (0 : Nat)) (j + (1 : Nat), !r)
 {
 env :=
 [((0 : Nat), SV.yl lp), ((1 : Nat), SV.ptr (1099511627776 : Nat) (0 : Nat)),
 ((2 : Nat), SV.ptr (1099511627777 : Nat) (0 : Nat)),
 ((3 : Nat), SV.ptr (1099511627778 : Nat) (0 : Nat)),
 ((5 : Nat),
 SV.int IntKind.i64
 (IntKind.i64.wrap (p + (↑(firstLen (List.drop p.toNat b) l.toNat m.toNat) : Int)))),
 ((6 : Nat), SV.int IntKind.i64 (IntKind.i64.wrap (i + (1 : Int))))],
 blk :=
 [((1099511627776 : Nat), LB.var [SV.sl (Sh.int IntKind.u8) b]),
 ((1099511627777 : Nat), LB.var [SV.int IntKind.i64 l]),
 ((1099511627778 : Nat), LB.var [SV.int IntKind.i64 m])] }))
 (Q AExit.normal (j, q)
 {
 env :=
 [((0 : Nat), SV.yl lp), ((1 : Nat), SV.ptr (1099511627776 : Nat) (0 : Nat)),
 ((2 : Nat), SV.ptr (1099511627777 : Nat) (0 : Nat)), ((3 : Nat), SV.ptr (1099511627778 : Nat) (0 : Nat)),
 ((5 : Nat), SV.int IntKind.i64 p), ((6 : Nat), SV.int IntKind.i64 i), ((8 : Nat), SV.int IntKind.i64 p),
 ((9 : Nat), SV.sl (Sh.int IntKind.u8) b), ((10 : Nat), SV.int IntKind.i64 (↑b.length : Int)),
 ((11 : Nat), SV.bool (decide (p < (↑b.length : Int))))],
 blk :=
 [((1099511627776 : Nat), LB.var [SV.sl (Sh.int IntKind.u8) b]),
 ((1099511627777 : Nat), LB.var [SV.int IntKind.i64 l]),
 ((1099511627778 : Nat), LB.var [SV.int IntKind.i64 m])] })) := by kernel_rfl
end Go.Proofs.Ytgffokpiklnpmaa
namespace Go.Proofs.Ytgffokpiklnpmaa
open Go.Px Go.Ax
abbrev GE (f : Nat) (fn : Func) (Y : Yp) (K : AExit → Nat × Bool → PS → Prop) (it : List Item) (g : Nat × Bool) (S : PS) : Prop := Px.GoodE Try.prog G0 f fn.ntmps .fn Y K it g S
/-- The blocks from a place on. -/
def blksF (b : List Int) (l m : Nat) : Nat → Nat → List (Int × Int)
  | 0, _ => []
  | k + 1, p => if p < b.length then ((p : Int), ((p + firstLen (b.drop p) l m : Nat) : Int)) :: blksF b l m k (p + firstLen (b.drop p) l m) else []
def blks (b : List Int) (l m : Nat) : List (Int × Int) := blksF b l m b.length 0
def idx : Nat → List (Int × Int) → List (DL ySh)
  | _, [] => []
  | i, r :: rs => ((i : Int), (r, ())) :: idx (i + 1) rs
theorem idx_len : ∀ (rs : List (Int × Int)) i, (idx i rs).length = rs.length
  | [], _ => rfl
  | _ :: rs, i => by simp [idx, idx_len rs]
def ctIt : CtrY := ⟨capK, fun x => preB x.1.1 x.2.1.1 x.2.2.1.1, ySh, fun x => idx 0 (blks x.1.1 x.2.1.1.toNat x.2.2.1.1.toNat)⟩
abbrev itS (b : List Int) (l m : Int) (p i : Nat) (lp : Nat) : PS := ⟨[(0, .yl lp), (1, .ptr BIG 0), (2, .ptr (BIG + 1) 0), (3, .ptr (BIG + 2) 0), (5, .int .i64 (p : Int)), (6, .int .i64 (i : Int))], [(BIG, .var [.sl (.int .u8) b]), (BIG + 1, .var [.int .i64 l]), (BIG + 2, .var [.int .i64 m])]⟩
theorem it_loop {b : List Int} {l m : Nat} (hp : preB b l m) (lp : Nat) (ys : List (DL ySh)) : ∀ (k p i : Nat), b.length - p ≤ k → p ≤ b.length → i ≤ p → i ≤ ys.length → ys.drop i = idx i (blksF b l m k p) →
    GE 31 Try.f31 ⟨lp, ySh, ys⟩ (endY ys.length) (hd Try.f31 0) (i, false) (itS b l m p i lp) := by
  obtain ⟨h1, h2, h3⟩ := hp
  have hend : ∀ (p i k : Nat), ¬ p < b.length → i ≤ ys.length → ys.drop i = idx i (blksF b l m k p) → i = ys.length := by
    intro p i k hn hi hd
    have e : blksF b l m k p = [] := by
      cases k with
      | zero => rfl
      | succ k => rw [blksF, if_neg hn]
    rw [e] at hd
    have := congrArg List.length hd
    simp only [List.length_drop, idx, List.length_nil] at this
    omega
  intro k
  induction k with
  | zero =>
    intro p i hk hpl hip hi hd
    refine syE_goK dx2 (vc_itL b l m i p i false lp ys _ _) ?_
    rw [decide_eq_false (by omega), bc_f]
    exact .inr (hend p i 0 (by omega) hi hd)
  | succ k ih =>
    intro p i hk hpl hip hi hd
    refine syE_goK dx2 (vc_itL b l m i p i false lp ys _ _) ?_
    by_cases hlt : p < b.length
    · rw [decide_eq_true (show (p : Int) < (b.length : Int) by omega), bc_t]
      have hdl : (b.drop p).length = b.length - p := List.length_drop
      have hf := firstLen_bd (b := b.drop p) (l := l) (m := m) (by omega) (by omega)
      have e2 : IntKind.i64.wrap ((i : Int) + 1) = ((i + 1 : Nat) : Int) := by rw [IntWalk.i64_in _ (by omega)]; omega
      simp only [Int.toNat_natCast]
      have e3 : IntKind.i64.wrap ((p : Int) + (firstLen (b.drop p) l m : Nat)) = ((p + firstLen (b.drop p) l m : Nat) : Int) := by rw [IntWalk.i64_in _ (by omega)]; omega
      rw [e2, e3]
      rw [blksF, if_pos hlt, idx] at hd
      have hil : i < ys.length := by
        rcases Nat.lt_or_ge i ys.length with q | q
        · exact q
        · rw [List.drop_eq_nil_of_le q] at hd; cases hd
      have hget : ys[i]? = some ((i : Int), (((p : Int), ((p + firstLen (b.drop p) l m : Nat) : Int)), ())) := by
        rw [dropc hil] at hd
        rw [List.getElem?_eq_getElem hil]
        exact congrArg some (List.cons.inj hd).1
      have hd2 : ys.drop (i + 1) = idx (i + 1) (blksF b l m k (p + firstLen (b.drop p) l m)) := by
        rw [dropc hil] at hd
        exact (List.cons.inj hd).2
      refine ⟨by omega, by omega, (show preB (b.drop p) l m from ⟨h1, by omega, bytes_drop h3 p⟩), trivial, trivial, hget, fun r => ?_⟩
      cases r with
      | false => exact .inl rfl
      | true => exact ih (p + firstLen (b.drop p) l m) (i + 1) (by omega) (by omega) (by omega) (by omega) hd2
    · rw [decide_eq_false (by omega), bc_f]
      exact .inr (hend p i _ hlt hi hd)
theorem it_run {b : List Int} {l m : Int} (hp : preB b l m) (lp : Nat) : GE 31 Try.f31 ⟨lp, ySh, idx 0 (blks b l.toNat m.toNat)⟩ (endY (idx 0 (blks b l.toNat m.toNat)).length) [.code (bodyOf Try.f31)] (0, false) (entryY lp capK ((b, ()), (l, ()), (m, ()), ())) := by
  refine syE_go dx2 (vc_it b l m lp _ _ _) ?_
  have hp0 := hp
  obtain ⟨h1, h2, h3⟩ := hp
  obtain ⟨l, rfl⟩ := Int.eq_ofNat_of_zero_le (show 0 ≤ l by omega)
  obtain ⟨m, rfl⟩ := Int.eq_ofNat_of_zero_le (show 0 ≤ m by omega)
  exact it_loop hp0 lp _ b.length 0 0 (by omega) (Nat.zero_le _) (Nat.le_refl _) (Nat.zero_le _) rfl
theorem it_held : HeldY Try.prog G0 31 ctIt := HeldY.of (fn := Try.f31) rfl rfl rfl ⟨by decide, by decide⟩ fun x hp lp => it_run hp lp
end Go.Proofs.Ytgffokpiklnpmaa
namespace Go.Proofs.Ytgffokpiklnpmaa
open Go.Px Go.Ax
attribute [local irreducible] Go.Px.sy
theorem mtL_nil {π : Nat → Option Nat} : MtL π [] [] := by simp only [MtL]
theorem mtL_cons {π : Nat → Option Nat} {s t : SV} {l r : List SV} (h1 : Mt π s t) (h2 : MtL π l r) : MtL π (s :: l) (t :: r) := by simp only [MtL]; exact ⟨t, r, rfl, h1, h2⟩
theorem mt_ptr {π : Nat → Option Nat} {i j o : Nat} (h : π i = some j) : Mt π (.ptr i o) (.ptr j o) := by simp only [Mt]; exact ⟨j, rfl, h⟩
theorem mt_fn {π : Nat → Option Nat} {f : Nat} {a a' c c' : List SV} (h1 : MtL π a a') (h2 : MtL π c c') : Mt π (.fn f a c) (.fn f a' c') := by simp only [Mt]; exact ⟨a', c', rfl, h1, h2⟩
abbrev K27 : List AK := [.dat slB, .dat iI, .dat iI]
def ctBof : CtrI := ⟨K27, fun _ => True, fun _ => [.fn 31 [] [.ptr 0 0, .ptr 1 0, .ptr 2 0]], fun x => [(0, .var [.sl (.int .u8) x.1]), (1, .var [.int .i64 x.2.1]), (2, .var [.int .i64 x.2.2.1])]⟩
theorem bof_run (b : List Int) (l m : Int) (R : List Item → PS → Prop) : sy tt G0 [] Try.f27.ntmps Try.f27.results.toList (QI ctBof (b, l, m, ())) R 1000 [.code (bodyOf Try.f27)] (entryI K27 (b, l, m, ())) := by
  rw [vc_bof b l m]
  refine ⟨[(0, 3), (1, 4), (2, 5)], ?_, ?_, by decide, fun p hp => ?_⟩
  rotate_left 2
  · simp only [List.mem_cons, List.not_mem_nil, or_false] at hp
    rcases hp with rfl | rfl | rfl <;> decide
  all_goals
    have p0 : piOf [(0, 3), (1, 4), (2, 5)] 0 = some 3 := by decide
    have p1 : piOf [(0, 3), (1, 4), (2, 5)] 1 = some 4 := by decide
    have p2 : piOf [(0, 3), (1, 4), (2, 5)] 2 = some 5 := by decide
  · exact mtL_cons (mt_fn mtL_nil (mtL_cons (mt_ptr p0) (mtL_cons (mt_ptr p1) (mtL_cons (mt_ptr p2) mtL_nil)))) mtL_nil
  · exact ⟨.inl ⟨3, _, p0, rfl, _, rfl, mtL_flat _ _ rfl⟩, .inl ⟨4, _, p1, rfl, _, rfl, mtL_flat _ _ rfl⟩, .inl ⟨5, _, p2, rfl, _, rfl, mtL_flat _ _ rfl⟩, trivial⟩
theorem bof_held : HeldI Try.prog G0 27 ctBof := HeldI.run cx0 (fn := Try.f27) rfl rfl ⟨by decide, by decide⟩ fun x _ => bof_run x.1 x.2.1 x.2.2.1 _
abbrev D3 : CV := (27, .inr ctBof) :: D2
theorem dx3 : CxOK Try.prog tt G0 D3 := dx2.consI bof_held (fn := Try.f27) rfl rfl rfl
end Go.Proofs.Ytgffokpiklnpmaa
namespace Go.Proofs.Ytgffokpiklnpmaa
open Go.Px Go.Ax
abbrev KR : List AK := [.ptr [.row 48 (.pair (.int .i64) (.int .i64))]]
set_option maxRecDepth 100000
theorem vc_blk (b : List Int) (l m : Int) (Q : List SV → List (Nat × LB) → Prop) (R : List Item → PS → Prop) : sy tt G0 D3 Try.f25.ntmps Try.f25.results.toList Q R 1000 [.code (bodyOf Try.f25)] (entry [.sl (.int .u8), .int .i64, .int .i64] (b, l, m, ())) =
    (ctLim.pre (l, m, ()) ∧
 bc (!limR l m) (Q [SV.nils, SV.int IntKind.i64 (1 : Int)] [])
 (ctBof.pre (b, l, m, ()) ∧
 R (hd Try.f25 (0 : Nat))
 {
 env :=
 [((0 : Nat), SV.sl (Sh.int IntKind.u8) b), ((1 : Nat), SV.int IntKind.i64 l),
 ((2 : Nat), SV.int IntKind.i64 m), ((6 : Nat), SV.nils), ((7 : Nat), SV.int IntKind.i64 (0 : Int)),
 ((8 : Nat), SV.ptr (8 : Nat) (0 : Nat)), ((11 : Nat), SV.int IntKind.i64 l),
 ((12 : Nat), SV.int IntKind.i64 m), ((13 : Nat), SV.bool (limR l m)), ((14 : Nat), SV.bool !limR l m),
 ((15 : Nat), SV.sl (Sh.int IntKind.u8) b), ((16 : Nat), SV.int IntKind.i64 l),
 ((17 : Nat), SV.int IntKind.i64 m),
 ((18 : Nat),
 SV.fn (31 : Nat) []
 [SV.ptr (1073728 : Nat) (0 : Nat), SV.ptr (1073729 : Nat) (0 : Nat),
 SV.ptr (1073730 : Nat) (0 : Nat)])],
 blk :=
 [((8 : Nat), LB.var [SV.nils]), ((1073728 : Nat), LB.var [SV.sl (Sh.int IntKind.u8) b]),
 ((1073729 : Nat), LB.var [SV.int IntKind.i64 l]), ((1073730 : Nat), LB.var [SV.int IntKind.i64 m])] })) := by kernel_rfl
theorem vc_blkR (o : List (Int × Int)) (i : Int) (r : Int × Int) (j : Nat) (q : Bool) (Q : AExit → Nat × Bool → PS → Prop) (R : List Item → Nat × Bool → PS → Prop) : syE tt G0 D3 Try.f25.ntmps Y0 Q R .ready 1000 (rnd Try.f25 0) (j, q) (entryR [8] [19, 20] KR ySh ((o, ()), ()) (i, r, ())) =
    ((0 : Nat) + (1 : Nat) ≤
 ((List.replicate (1 : Nat) ((Sh.int IntKind.i64).pair (Sh.int IntKind.i64)).dflt).set (0 : Nat)
 (r.fst, r.snd)).length ∧
 o.length = o.length ∧
 (0 : Nat) = (0 : Nat) ∧
 o.length +
 (winL
 ((fun self => self.6)
 (mkT (2 : Nat) (16 : Nat) true (TK.struct [((0 : Nat), (3 : TypeId)), ((1 : Nat), (3 : TypeId))])
 ((Sh.int IntKind.i64).pair (Sh.int IntKind.i64)) (some IntKind.i64)))
 (0 : Nat) (1 : Nat)
 ((List.replicate (1 : Nat) ((Sh.int IntKind.i64).pair (Sh.int IntKind.i64)).dflt).set (0 : Nat)
 (r.fst, r.snd))).length <
 (2 : Nat) ^ (30 : Nat) ∧
 (16 : Nat) ≤ (2 : Nat) ^ (10 : Nat) ∧
 Q AExit.normal (j, q)
 {
 env :=
 [((10 : Nat), SV.ptr (10 : Nat) (0 : Nat)), ((19 : Nat), SV.int IntKind.i64 i),
 ((20 : Nat), SV.agg [SV.int IntKind.i64 r.fst, SV.int IntKind.i64 r.snd]),
 ((8 : Nat), SV.ptr (1099511627776 : Nat) (0 : Nat)), ((21 : Nat), SV.dead),
 ((22 : Nat), SV.agg [SV.int IntKind.i64 r.fst, SV.int IntKind.i64 r.snd]),
 ((23 : Nat),
 SV.win true ((Sh.int IntKind.i64).pair (Sh.int IntKind.i64)) (23 : Nat) (0 : Nat) (1 : Nat)),
 ((24 : Nat),
 SV.win true ((Sh.int IntKind.i64).pair (Sh.int IntKind.i64)) (24 : Nat) (0 : Nat)
 (o.length +
 (winL
 ((fun self => self.6)
 (mkT (2 : Nat) (16 : Nat) true
 (TK.struct [((0 : Nat), (3 : TypeId)), ((1 : Nat), (3 : TypeId))])
 ((Sh.int IntKind.i64).pair (Sh.int IntKind.i64)) (some IntKind.i64)))
 (0 : Nat) (1 : Nat)
 ((List.replicate (1 : Nat) ((Sh.int IntKind.i64).pair (Sh.int IntKind.i64)).dflt).set
 (0 : Nat) (r.fst, r.snd))).length))],
 blk :=
 [((10 : Nat), LB.var [SV.int IntKind.i64 r.fst, SV.int IntKind.i64 r.snd]),
 ((23 : Nat),
 LB.row (48 : Nat) ((Sh.int IntKind.i64).pair (Sh.int IntKind.i64))
 ((List.replicate (1 : Nat) ((Sh.int IntKind.i64).pair (Sh.int IntKind.i64)).dflt).set (0 : Nat)
 (r.fst, r.snd))),
 ((24 : Nat),
 LB.row (48 : Nat) ((Sh.int IntKind.i64).pair (Sh.int IntKind.i64))
 (o ++
 winL ((Sh.int IntKind.i64).pair (Sh.int IntKind.i64)) (0 : Nat) (1 : Nat)
 ((List.replicate (1 : Nat) ((Sh.int IntKind.i64).pair (Sh.int IntKind.i64)).dflt).set
 (0 : Nat) (r.fst, r.snd)))),
 ((1099511627776 : Nat),
 LB.var
 [SV.win true ((Sh.int IntKind.i64).pair (Sh.int IntKind.i64)) (24 : Nat) (0 : Nat)
 (o.length +
 (winL
 ((fun self => self.6)
 (mkT (2 : Nat) (16 : Nat) true
 (TK.struct [((0 : Nat), (3 : TypeId)), ((1 : Nat), (3 : TypeId))])
 ((Sh.int IntKind.i64).pair (Sh.int IntKind.i64)) (some IntKind.i64)))
 (0 : Nat) (1 : Nat)
 ((List.replicate (1 : Nat) ((Sh.int IntKind.i64).pair (Sh.int IntKind.i64)).dflt).set
 (0 : Nat) (r.fst, r.snd))).length)])] }) := by kernel_rfl
end Go.Proofs.Ytgffokpiklnpmaa
namespace Go.Proofs.Ytgffokpiklnpmaa
open Go.Px Go.Ax
set_option maxRecDepth 100000
theorem vc_blkK (o : List (Int × Int)) (j : Nat) (q : Bool) (Q : AExit → Nat × Bool → PS → Prop) (R : List Item → Nat × Bool → PS → Prop) : syE tt G0 D3 Try.f25.ntmps Y0 Q R .fn 1000 (rfK Try.f25 0) (j, q) (⟨[(8, .ptr 8 0)], [(8, .var [.win true (.pair (.int .i64) (.int .i64)) 1086016 0 o.length]), (1086016, .row 48 (.pair (.int .i64) (.int .i64)) o)]⟩) =
    (Q AExit.ret (j, q)
 {
 env :=
 [((6 : Nat), SV.win true ((Sh.int IntKind.i64).pair (Sh.int IntKind.i64)) (1086016 : Nat) (0 : Nat) o.length),
 ((7 : Nat), SV.int IntKind.i64 (0 : Int)), ((8 : Nat), SV.ptr (8 : Nat) (0 : Nat)),
 ((25 : Nat), SV.win true ((Sh.int IntKind.i64).pair (Sh.int IntKind.i64)) (1086016 : Nat) (0 : Nat) o.length)],
 blk :=
 [((8 : Nat),
 LB.var [SV.win true ((Sh.int IntKind.i64).pair (Sh.int IntKind.i64)) (1086016 : Nat) (0 : Nat) o.length]),
 ((1086016 : Nat), LB.row (48 : Nat) ((Sh.int IntKind.i64).pair (Sh.int IntKind.i64)) o)] }) := by kernel_rfl
end Go.Proofs.Ytgffokpiklnpmaa
namespace Go.Proofs.Ytgffokpiklnpmaa
open Go.Px Go.Ax
attribute [local irreducible] Go.Px.sy Go.Px.syE
theorem blksF_len (b : List Int) (l m : Nat) (h : 4 ≤ l ∧ l ≤ m) : ∀ k p, (blksF b l m k p).length ≤ k
  | 0, _ => Nat.le_refl _
  | k + 1, p => by
    rw [blksF]
    split
    · have := blksF_len b l m h k (p + firstLen (b.drop p) l m)
      rw [List.length_cons]; omega
    · exact Nat.zero_le _
theorem hd25 : hd Try.f25 0 = .code (.rangeFunc (.tmp 18) #[19, 20] (rfA Try.f25 0) (rfB Try.f25 0)) :: rfK Try.f25 0 := by kernel_rfl
theorem rnd25 : rnd Try.f25 0 = [.code (rfA Try.f25 0), .beginRound, .code (rfB Try.f25 0)] := by kernel_rfl
/-- The blocks, where there are any. -/
def blkO (b : List Int) (l m : Int) : List (Int × Int) := if limR l m then blks b l.toNat m.toNat else []
def errO (l m : Int) : Int := if limR l m then 0 else 1
def preT (b : List Int) : Prop := b.length < 1048576 ∧ bytesOK b
def ctBlk : Ctr := ⟨[slB, iI, iI], fun x => preT x.1, fun x => [.win true rgS 0 0 (List.length (blkO x.1 x.2.1 x.2.2.1)), .int .i64 (errO x.2.1 x.2.2.1)], fun x => [.row 48 rgS (blkO x.1 x.2.1 x.2.2.1)]⟩
theorem blk_rounds {QL : AExit → Nat × Bool → DI KR → Prop} {g : Nat × Bool} : ∀ (rs o : List (Int × Int)) (i : Nat), o.length + rs.length < 2 ^ 30 → QL .normal g ((o ++ rs, ()), ()) →
    RLoop Try.prog G0 25 Try.f25.ntmps Y0 [8] [19, 20] KR ySh (rfA Try.f25 0) (rfB Try.f25 0) QL (idx i rs) g ((o, ()), ())
  | [], o, i, _, h => by
    rw [List.append_nil] at h
    exact h
  | r :: rs, o, i, hl, h => by
    rw [List.length_cons] at hl
    show GoodE Try.prog G0 25 Try.f25.ntmps .ready Y0 _ [.code (rfA Try.f25 0), .beginRound, .code (rfB Try.f25 0)] g (entryR [8] [19, 20] KR ySh ((o, ()), ()) ((i : Int), (r, ())))
    rw [← rnd25]
    refine syE_go dx3 (vc_blkR o i r g.1 g.2 _ _) ⟨Nat.le_refl _, rfl, rfl, ?_, by decide, ?_⟩
    · show o.length + 1 < 2 ^ 30
      omega
    · have k := blk_rounds rs (o ++ [r]) (i + 1) (by rw [List.length_append, List.length_singleton]; omega) (by rw [List.append_assoc]; exact h)
      refine ⟨[(BIG + 1, 24)], ((o ++ [r], ()), ()), ⟨?_, rfl, rfl⟩, k⟩
      have e : SV.win true rgS 24 0 (o ++ [r]).length = SV.win true rgS 24 0 (o.length + 1) := by rw [List.length_append, List.length_singleton]
      refine ⟨?_, rfl, trivial⟩
      show some (LB.var [SV.win true rgS 24 0 (o.length + 1)]) = some (LB.var [SV.win true rgS 24 0 (o ++ [r]).length])
      rw [e]
theorem blk_end {b : List Int} {l m : Int} {o : List (Int × Int)} {g : Nat × Bool} (ho : o = blkO b l m) (he : errO l m = 0) :
    GoodE Try.prog G0 25 Try.f25.ntmps .fn Y0 (endK tt G0 Try.f25.results.toList (QC ctBlk (b, l, m, ()))) (rfK Try.f25 0) g ⟨[(8, .ptr 8 0)], [(8, .var [.win true rgS 1086016 0 o.length]), (1086016, .row 48 rgS o)]⟩ := by
  refine syE_go dx3 (vc_blkK o g.1 g.2 _ _) ?_
  subst ho
  show QC ctBlk (b, l, m, ()) [.win true rgS 1086016 0 (blkO b l m).length, .int .i64 0] _
  refine QC.row1 (n := 0) ?_ rfl rfl rfl rfl
  show [SV.win true rgS 0 0 (blkO b l m).length, SV.int .i64 (errO l m)] = _
  rw [he]
end Go.Proofs.Ytgffokpiklnpmaa
namespace Go.Proofs.Ytgffokpiklnpmaa
open Go.Px Go.Ax
attribute [local irreducible] Go.Px.sy Go.Px.syE
def bkF25 (x : DI KR) : List (Nat × LB) := [(BIG, .var [.win true rgS 0 0 x.1.1.length]), (0, .row 48 rgS x.1.1)]
theorem blk_run (b : List Int) (l m : Int) (hp : preT b) : sy tt G0 D3 Try.f25.ntmps Try.f25.results.toList (QC ctBlk (b, l, m, ())) (Px.Good Try.prog tt G0 25 Try.f25.ntmps Try.f25.results.toList (QC ctBlk (b, l, m, ()))) 1000 [.code (bodyOf Try.f25)] (entry [slB, iI, iI] (b, l, m, ())) := by
  obtain ⟨hp1, hp2⟩ := hp
  rw [vc_blk]
  refine ⟨trivial, bc_of (fun h => ?_) (fun h => ⟨trivial, ?_⟩)⟩
  · have h : limR l m = false := by simpa using h
    have e1 : blkO b l m = [] := by rw [blkO, h]; rfl
    have e2 : errO l m = 1 := by rw [errO, h]; rfl
    refine QC.nil1 (e := rgS) (et := 48) ?_ ?_ (by decide)
    · show [SV.win true rgS 0 0 (blkO b l m).length, SV.int .i64 (errO l m)] = _
      rw [e1, e2]; rfl
    · show [LB.row 48 rgS (blkO b l m)] = _
      rw [e1]
  · have h : limR l m = true := by simpa using h
    have e1 : blkO b l m = blks b l.toNat m.toNat := by rw [blkO, h]; rfl
    have e2 : errO l m = 0 := by rw [errO, h]; rfl
    have hlim : 4 ≤ l ∧ l ≤ m ∧ m ≤ 4096 := of_decide_eq_true h
    have hlen : (blks b l.toNat m.toNat).length ≤ b.length := blksF_len b _ _ (by omega) _ _
    show GoodE Try.prog G0 25 Try.f25.ntmps .fn Y0 (endK tt G0 Try.f25.results.toList (QC ctBlk (b, l, m, ()))) (hd Try.f25 0) (0, false) _
    rw [hd25]
    refine GoodE.rangeF (gf := 31) (ct := ctIt) (Ko := KR) (xi := ((b, ()), (l, ()), (m, ()), ())) (x0 := (([], ()), ())) (ns1 := [some 1073728, some 1073729, some 1073730]) (ns2 := [some 8, none]) (tl := [(8, .ptr 8 0)]) (bkF := bkF25) (rF := [(0, BIG + 1)]) (d := 21) (m := 1)
      (by simp) ?_ it_held rfl rfl rfl ?_ ⟨hlim, hp1, hp2⟩ ⟨rfl, trivial⟩ rfl ?_ (by decide) ⟨by decide, by decide, rfl⟩ rfl ?_ (by decide) ?_
    · exact fun args w => callFunc_enter (fn := Try.f31) rfl rfl rfl args w
    · exact fun c hc => by cases hc
    · exact fun c hc => by cases hc
    · exact fun x hx => ⟨⟨rfl, rfl, trivial⟩, by simp [bkF25, rho, lk, BIG], fun p hp hb => (by
        simp only [bkF25, List.mem_cons, List.not_mem_nil, or_false] at hp
        rcases hp with rfl | rfl
        · exact ⟨rfl, rfl⟩
        · exact absurd hb (show ¬ BIG ≤ 0 by decide)), by kernel_rfl⟩
    · refine blk_rounds _ [] 0 ?_ ?_
      · show 0 + (blks b l.toNat m.toNat).length < 2 ^ 30
        omega
      · exact (blk_end (o := blks b l.toNat m.toNat) e1.symm e2).only ⟨by kernel_rfl, trivial⟩ ⟨by kernel_rfl, by kernel_rfl, trivial⟩
theorem blk_held : Held Try.prog G0 25 ctBlk := Held.run dx3 (fn := Try.f25) rfl rfl ⟨by decide, by decide⟩ fun x hp => blk_run x.1 x.2.1 x.2.2.1 hp
abbrev D4 : CV := (25, .inl ctBlk) :: D3
theorem dx4 : CxOK Try.prog tt G0 D4 := dx3.cons blk_held (fn := Try.f25) rfl rfl rfl
end Go.Proofs.Ytgffokpiklnpmaa
namespace Go.Proofs.Ytgffokpiklnpmaa
open Go.Px Go.Ax
abbrev KC : List AK := [.ptr [.dat (.sl (.int .u8))], .ptr [.row 3 (.int .i64)]]
set_option maxRecDepth 100000
theorem vc_cut (b : List Int) (l m : Int) (Q : List SV → List (Nat × LB) → Prop) (R : List Item → PS → Prop) : sy tt G0 D4 Try.f12.ntmps Try.f12.results.toList Q R 1000 [.code (bodyOf Try.f12)] (entry [.sl (.int .u8), .int .i64, .int .i64] (b, l, m, ())) =
    (ctLim.pre (l, m, ()) ∧
 bc (!limR l m) (Q [SV.nils, SV.int IntKind.i64 (1 : Int)] [((3 : Nat), LB.var [SV.sl (Sh.int IntKind.u8) b])])
 (ctBof.pre (b, l, m, ()) ∧
 R (hd Try.f12 (0 : Nat))
 {
 env :=
 [((0 : Nat), SV.sl (Sh.int IntKind.u8) b), ((1 : Nat), SV.int IntKind.i64 l),
 ((2 : Nat), SV.int IntKind.i64 m), ((3 : Nat), SV.ptr (3 : Nat) (0 : Nat)), ((6 : Nat), SV.nils),
 ((7 : Nat), SV.int IntKind.i64 (0 : Int)), ((8 : Nat), SV.ptr (8 : Nat) (0 : Nat)),
 ((11 : Nat), SV.int IntKind.i64 l), ((12 : Nat), SV.int IntKind.i64 m), ((13 : Nat), SV.bool (limR l m)),
 ((14 : Nat), SV.bool !limR l m), ((15 : Nat), SV.sl (Sh.int IntKind.u8) b),
 ((16 : Nat), SV.int IntKind.i64 l), ((17 : Nat), SV.int IntKind.i64 m),
 ((18 : Nat),
 SV.fn (31 : Nat) []
 [SV.ptr (1073728 : Nat) (0 : Nat), SV.ptr (1073729 : Nat) (0 : Nat),
 SV.ptr (1073730 : Nat) (0 : Nat)])],
 blk :=
 [((3 : Nat), LB.var [SV.sl (Sh.int IntKind.u8) b]), ((8 : Nat), LB.var [SV.nils]),
 ((1073728 : Nat), LB.var [SV.sl (Sh.int IntKind.u8) b]), ((1073729 : Nat), LB.var [SV.int IntKind.i64 l]),
 ((1073730 : Nat), LB.var [SV.int IntKind.i64 m])] })) := by kernel_rfl
theorem vc_cutR (b o : List Int) (i : Int) (r : Int × Int) (j : Nat) (q : Bool) (Q : AExit → Nat × Bool → PS → Prop) (R : List Item → Nat × Bool → PS → Prop) : syE tt G0 D4 Try.f12.ntmps Y0 Q R .ready 1000 (rnd Try.f12 0) (j, q) (entryR [3, 8] [19, 20] KC ySh ((b, ()), ((o, ()), ())) (i, r, ())) =
    (bc (decide (r.snd = (↑b.length : Int)))
 (Q (AExit.exit (0 : Nat)) (j, q)
 {
 env :=
 [((10 : Nat), SV.ptr (10 : Nat) (0 : Nat)), ((19 : Nat), SV.int IntKind.i64 i),
 ((20 : Nat), SV.agg [SV.int IntKind.i64 r.fst, SV.int IntKind.i64 r.snd]),
 ((3 : Nat), SV.ptr (1099511627776 : Nat) (0 : Nat)), ((8 : Nat), SV.ptr (1099511627777 : Nat) (0 : Nat)),
 ((21 : Nat), SV.ptr (10 : Nat) (1 : Nat)), ((22 : Nat), SV.int IntKind.i64 r.snd),
 ((23 : Nat), SV.sl (Sh.int IntKind.u8) b), ((24 : Nat), SV.int IntKind.i64 (↑b.length : Int)),
 ((25 : Nat), SV.bool (decide (r.snd = (↑b.length : Int))))],
 blk :=
 [((10 : Nat), LB.var [SV.int IntKind.i64 r.fst, SV.int IntKind.i64 r.snd]),
 ((1099511627776 : Nat), LB.var [SV.sl (Sh.int IntKind.u8) b]),
 ((1099511627777 : Nat), LB.var [SV.win true (Sh.int IntKind.i64) (1099511627778 : Nat) (0 : Nat) o.length]),
 ((1099511627778 : Nat), LB.row (3 : Nat) (Sh.int IntKind.i64) o)] })
 ((0 : Nat) + (1 : Nat) ≤ ((List.replicate (1 : Nat) (Sh.int IntKind.i64).dflt).set (0 : Nat) r.snd).length ∧
 o.length = o.length ∧
 (0 : Nat) = (0 : Nat) ∧
 o.length +
 (winL
 ((fun self => self.6) (mkT (1 : Nat) (8 : Nat) false (TK.int IntKind.i64) (Sh.int IntKind.i64) none))
 (0 : Nat) (1 : Nat)
 ((List.replicate (1 : Nat) (Sh.int IntKind.i64).dflt).set (0 : Nat) r.snd)).length <
 (2 : Nat) ^ (30 : Nat) ∧
 (8 : Nat) ≤ (2 : Nat) ^ (10 : Nat) ∧
 Q AExit.normal (j, q)
 {
 env :=
 [((10 : Nat), SV.ptr (10 : Nat) (0 : Nat)), ((19 : Nat), SV.int IntKind.i64 i),
 ((20 : Nat), SV.agg [SV.int IntKind.i64 r.fst, SV.int IntKind.i64 r.snd]),
 ((3 : Nat), SV.ptr (1099511627776 : Nat) (0 : Nat)),
 ((8 : Nat), SV.ptr (1099511627777 : Nat) (0 : Nat)), ((21 : Nat), SV.ptr (10 : Nat) (1 : Nat)),
 ((22 : Nat), SV.int IntKind.i64 r.snd), ((23 : Nat), SV.sl (Sh.int IntKind.u8) b),
 ((24 : Nat), SV.int IntKind.i64 (↑b.length : Int)),
 ((25 : Nat), SV.bool (decide (r.snd = (↑b.length : Int)))), ((26 : Nat), SV.dead),
 ((27 : Nat), SV.ptr (10 : Nat) (1 : Nat)), ((28 : Nat), SV.int IntKind.i64 r.snd),
 ((29 : Nat), SV.win true (Sh.int IntKind.i64) (29 : Nat) (0 : Nat) (1 : Nat)),
 ((30 : Nat),
 SV.win true (Sh.int IntKind.i64) (30 : Nat) (0 : Nat)
 (o.length +
 (winL
 ((fun self => self.6)
 (mkT (1 : Nat) (8 : Nat) false (TK.int IntKind.i64) (Sh.int IntKind.i64) none))
 (0 : Nat) (1 : Nat)
 ((List.replicate (1 : Nat) (Sh.int IntKind.i64).dflt).set (0 : Nat) r.snd)).length))],
 blk :=
 [((10 : Nat), LB.var [SV.int IntKind.i64 r.fst, SV.int IntKind.i64 r.snd]),
 ((29 : Nat),
 LB.row (3 : Nat) (Sh.int IntKind.i64)
 ((List.replicate (1 : Nat) (Sh.int IntKind.i64).dflt).set (0 : Nat) r.snd)),
 ((30 : Nat),
 LB.row (3 : Nat) (Sh.int IntKind.i64)
 (o ++
 winL (Sh.int IntKind.i64) (0 : Nat) (1 : Nat)
 ((List.replicate (1 : Nat) (Sh.int IntKind.i64).dflt).set (0 : Nat) r.snd))),
 ((1099511627776 : Nat), LB.var [SV.sl (Sh.int IntKind.u8) b]),
 ((1099511627777 : Nat),
 LB.var
 [SV.win true (Sh.int IntKind.i64) (30 : Nat) (0 : Nat)
 (o.length +
 (winL
 ((fun self => self.6)
 (mkT (1 : Nat) (8 : Nat) false (TK.int IntKind.i64) (Sh.int IntKind.i64) none))
 (0 : Nat) (1 : Nat)
 ((List.replicate (1 : Nat) (Sh.int IntKind.i64).dflt).set (0 : Nat)
 r.snd)).length)])] })) := by kernel_rfl
theorem vc_cutK (o : List Int) (j : Nat) (q : Bool) (Q : AExit → Nat × Bool → PS → Prop) (R : List Item → Nat × Bool → PS → Prop) : syE tt G0 D4 Try.f12.ntmps Y0 Q R .fn 1000 (rfK Try.f12 0) (j, q) (⟨[(8, .ptr 8 0)], [(8, .var [.win true (.int .i64) 1086016 0 o.length]), (1086016, .row 3 (.int .i64) o)]⟩) =
    (Q AExit.ret (j, q)
 {
 env :=
 [((6 : Nat), SV.win true (Sh.int IntKind.i64) (1086016 : Nat) (0 : Nat) o.length),
 ((7 : Nat), SV.int IntKind.i64 (0 : Int)), ((8 : Nat), SV.ptr (8 : Nat) (0 : Nat)),
 ((31 : Nat), SV.win true (Sh.int IntKind.i64) (1086016 : Nat) (0 : Nat) o.length)],
 blk :=
 [((8 : Nat), LB.var [SV.win true (Sh.int IntKind.i64) (1086016 : Nat) (0 : Nat) o.length]),
 ((1086016 : Nat), LB.row (3 : Nat) (Sh.int IntKind.i64) o)] }) := by kernel_rfl
theorem vc_cutX (o : List Int) (j : Nat) (q : Bool) (Q : AExit → Nat × Bool → PS → Prop) (R : List Item → Nat × Bool → PS → Prop) : syE tt G0 D4 Try.f12.ntmps Y0 Q R .fn 1000 (jumpI (.exit 0) ++ rfK Try.f12 0) (j, q) (⟨[(8, .ptr 8 0)], [(8, .var [.win true (.int .i64) 1086016 0 o.length]), (1086016, .row 3 (.int .i64) o)]⟩) =
    (Q AExit.ret (j, q)
 {
 env :=
 [((6 : Nat), SV.win true (Sh.int IntKind.i64) (1086016 : Nat) (0 : Nat) o.length),
 ((7 : Nat), SV.int IntKind.i64 (0 : Int)), ((8 : Nat), SV.ptr (8 : Nat) (0 : Nat)),
 ((31 : Nat), SV.win true (Sh.int IntKind.i64) (1086016 : Nat) (0 : Nat) o.length)],
 blk :=
 [((8 : Nat), LB.var [SV.win true (Sh.int IntKind.i64) (1086016 : Nat) (0 : Nat) o.length]),
 ((1086016 : Nat), LB.row (3 : Nat) (Sh.int IntKind.i64) o)] }) := by kernel_rfl
end Go.Proofs.Ytgffokpiklnpmaa
namespace Go.Proofs.Ytgffokpiklnpmaa
open Go.Px Go.Ax
attribute [local irreducible] Go.Px.sy Go.Px.syE
theorem hd12 : hd Try.f12 0 = .code (.rangeFunc (.tmp 18) #[19, 20] (rfA Try.f12 0) (rfB Try.f12 0)) :: rfK Try.f12 0 := by kernel_rfl
theorem rnd12 : rnd Try.f12 0 = [.code (rfA Try.f12 0), .beginRound, .code (rfB Try.f12 0)] := by kernel_rfl
/-- The ends of the ranges before the one that ends at n. -/
def cutsL (n : Int) : List (Int × Int) → List Int
  | [] => []
  | r :: rs => if r.2 = n then [] else r.2 :: cutsL n rs
def cutO (b : List Int) (l m : Int) : List Int := cutsL b.length (blkO b l m)
def ctCut : Ctr := ⟨[slB, iI, iI], fun x => preT x.1, fun x => [.win true iI 0 0 (List.length (cutO x.1 x.2.1 x.2.2.1)), .int .i64 (errO x.2.1 x.2.2.1)], fun x => [.row 3 iI (cutO x.1 x.2.1 x.2.2.1)]⟩
theorem cutsL_len (n : Int) : ∀ rs, (cutsL n rs).length ≤ rs.length
  | [] => Nat.le_refl _
  | r :: rs => by
    have := cutsL_len n rs
    rw [cutsL]; split
    · exact Nat.zero_le _
    · simp only [List.length_cons]; omega
theorem cut_rounds {b : List Int} {QL : AExit → Nat × Bool → DI KC → Prop} {g : Nat × Bool} : ∀ (rs : List (Int × Int)) (o : List Int) (i : Nat), o.length + rs.length < 2 ^ 30 →
    (∀ e, e = .normal ∨ e = .exit 0 → QL e g ((b, ()), ((o ++ cutsL b.length rs, ()), ()))) →
    RLoop Try.prog G0 12 Try.f12.ntmps Y0 [3, 8] [19, 20] KC ySh (rfA Try.f12 0) (rfB Try.f12 0) QL (idx i rs) g ((b, ()), ((o, ()), ()))
  | [], o, i, _, h => by
    have h := h _ (.inl rfl)
    rw [cutsL, List.append_nil] at h
    exact h
  | r :: rs, o, i, hl, h => by
    rw [List.length_cons] at hl
    show GoodE Try.prog G0 12 Try.f12.ntmps .ready Y0 _ [.code (rfA Try.f12 0), .beginRound, .code (rfB Try.f12 0)] g (entryR [3, 8] [19, 20] KC ySh ((b, ()), ((o, ()), ())) ((i : Int), (r, ())))
    rw [← rnd12]
    refine syE_go dx4 (vc_cutR b o i r g.1 g.2 _ _) (bc_of (fun hc => ?_) (fun hc => ⟨Nat.le_refl _, rfl, rfl, ?_, by decide, ?_⟩))
    · have hc : r.2 = (b.length : Int) := of_decide_eq_true hc
      have h := h _ (.inr rfl)
      rw [cutsL, if_pos hc, List.append_nil] at h
      exact ⟨[], ((b, ()), ((o, ()), ())), ⟨⟨rfl, rfl, rfl, trivial⟩, rfl, rfl⟩, h⟩
    · show o.length + 1 < 2 ^ 30
      omega
    · have hc : ¬ r.2 = (b.length : Int) := of_decide_eq_false hc
      have k := cut_rounds (b := b) (QL := QL) (g := g) rs (o ++ [r.2]) (i + 1) (by rw [List.length_append, List.length_singleton]; omega) (fun e he => by
        have h := h e he
        rw [cutsL, if_neg hc] at h
        rw [List.append_assoc]; exact h)
      refine ⟨[(BIG + 2, 30)], ((b, ()), ((o ++ [r.2], ()), ())), ⟨⟨rfl, ?_, rfl, trivial⟩, rfl, rfl⟩, k⟩
      have e : SV.win true iI 30 0 (o ++ [r.2]).length = SV.win true iI 30 0 (o.length + 1) := by rw [List.length_append, List.length_singleton]
      show some (LB.var [SV.win true iI 30 0 (o.length + 1)]) = some (LB.var [SV.win true iI 30 0 (o ++ [r.2]).length])
      rw [e]
theorem cut_end {b : List Int} {l m : Int} {o : List Int} {g : Nat × Bool} (ho : o = cutO b l m) (he : errO l m = 0) {e : AExit} (hh : e = .normal ∨ e = .exit 0) :
    GoodE Try.prog G0 12 Try.f12.ntmps .fn Y0 (endK tt G0 Try.f12.results.toList (QC ctCut (b, l, m, ()))) (jumpI e ++ rfK Try.f12 0) g ⟨[(8, .ptr 8 0)], [(8, .var [.win true iI 1086016 0 o.length]), (1086016, .row 3 iI o)]⟩ := by
  subst ho
  rcases hh with rfl | rfl
  · refine syE_go dx4 (vc_cutK _ g.1 g.2 _ _) ?_
    refine QC.row1 (n := 0) ?_ rfl rfl rfl rfl
    show [SV.win true iI 0 0 (cutO b l m).length, SV.int .i64 (errO l m)] = _
    rw [he]
  · refine syE_go dx4 (vc_cutX _ g.1 g.2 _ _) ?_
    refine QC.row1 (n := 0) ?_ rfl rfl rfl rfl
    show [SV.win true iI 0 0 (cutO b l m).length, SV.int .i64 (errO l m)] = _
    rw [he]
def bkF12 (x : DI KC) : List (Nat × LB) := [(BIG, .var [.sl (.int .u8) x.1.1]), (BIG + 1, .var [.win true iI 0 0 x.2.1.1.length]), (0, .row 3 iI x.2.1.1)]
theorem cut_run (b : List Int) (l m : Int) (hp : preT b) : sy tt G0 D4 Try.f12.ntmps Try.f12.results.toList (QC ctCut (b, l, m, ())) (Px.Good Try.prog tt G0 12 Try.f12.ntmps Try.f12.results.toList (QC ctCut (b, l, m, ()))) 1000 [.code (bodyOf Try.f12)] (entry [slB, iI, iI] (b, l, m, ())) := by
  obtain ⟨hp1, hp2⟩ := hp
  rw [vc_cut]
  refine ⟨trivial, bc_of (fun h => ?_) (fun h => ⟨trivial, ?_⟩)⟩
  · have h : limR l m = false := by simpa using h
    have e1 : cutO b l m = [] := by rw [cutO, blkO, h]; rfl
    have e2 : errO l m = 1 := by rw [errO, h]; rfl
    refine QC.nil1 (e := iI) (et := 3) ?_ ?_ (by decide)
    · show [SV.win true iI 0 0 (cutO b l m).length, SV.int .i64 (errO l m)] = _
      rw [e1, e2]; rfl
    · show [LB.row 3 iI (cutO b l m)] = _
      rw [e1]
  · have h : limR l m = true := by simpa using h
    have e1 : cutO b l m = cutsL b.length (blks b l.toNat m.toNat) := by rw [cutO, blkO, h]; rfl
    have e2 : errO l m = 0 := by rw [errO, h]; rfl
    have hlim : 4 ≤ l ∧ l ≤ m ∧ m ≤ 4096 := of_decide_eq_true h
    have hlen : (blks b l.toNat m.toNat).length ≤ b.length := blksF_len b _ _ (by omega) _ _
    show GoodE Try.prog G0 12 Try.f12.ntmps .fn Y0 (endK tt G0 Try.f12.results.toList (QC ctCut (b, l, m, ()))) (hd Try.f12 0) (0, false) _
    rw [hd12]
    refine GoodE.rangeF (gf := 31) (ct := ctIt) (Ko := KC) (xi := ((b, ()), (l, ()), (m, ()), ())) (x0 := ((b, ()), (([], ()), ()))) (ns1 := [some 1073728, some 1073729, some 1073730]) (ns2 := [some 3, some 8, none]) (tl := [(3, .ptr 3 0), (8, .ptr 8 0)]) (bkF := bkF12) (rF := [(0, BIG + 2)]) (d := 21) (m := 2)
      (by simp) ?_ it_held rfl rfl rfl ?_ ⟨hlim, hp1, hp2⟩ ⟨rfl, rfl, trivial⟩ rfl ?_ (by decide) ⟨by decide, by decide, rfl⟩ rfl ?_ (by decide) ?_
    · exact fun args w => callFunc_enter (fn := Try.f31) rfl rfl rfl args w
    · exact fun c hc => by cases hc
    · exact fun c hc => by cases hc
    · exact fun x hx => ⟨⟨rfl, rfl, rfl, trivial⟩, by simp [bkF12, rho, lk, BIG], fun p hp hb => (by
        simp only [bkF12, List.mem_cons, List.not_mem_nil, or_false] at hp
        rcases hp with rfl | rfl | rfl
        · exact ⟨rfl, rfl⟩
        · exact ⟨rfl, rfl⟩
        · exact absurd hb (show ¬ BIG ≤ 0 by decide)), by kernel_rfl⟩
    · refine cut_rounds _ [] 0 ?_ fun e he => ?_
      · show 0 + (blks b l.toNat m.toNat).length < 2 ^ 30
        omega
      · exact (cut_end (o := cutsL b.length (blks b l.toNat m.toNat)) e1.symm e2 he).only ⟨by kernel_rfl, trivial⟩ ⟨by kernel_rfl, by kernel_rfl, trivial⟩
theorem cut_held : Held Try.prog G0 12 ctCut := Held.run dx4 (fn := Try.f12) rfl rfl ⟨by decide, by decide⟩ fun x hp => cut_run x.1 x.2.1 x.2.2.1 hp
abbrev D5 : CV := (12, .inl ctCut) :: D4
theorem dx5 : CxOK Try.prog tt G0 D5 := dx4.cons cut_held (fn := Try.f12) rfl rfl rfl
end Go.Proofs.Ytgffokpiklnpmaa
namespace Go.Proofs.Ytgffokpiklnpmaa
open Go.Px Go.Ax
abbrev KM : List AK := [.ptr [.dat (.sl (.int .u8))], .ptr [.map .str (.int .i64)]]
set_option maxRecDepth 100000
theorem vc_fi (b : List Int) (l m : Int) (Q : List SV → List (Nat × LB) → Prop) (R : List Item → PS → Prop) : sy tt G0 D5 Try.f30.ntmps Try.f30.results.toList Q R 1000 [.code (bodyOf Try.f30)] (entryI [.dat (.sl (.int .u8)), .dat (.int .i64), .dat (.int .i64)] (b, l, m, ())) =
    (ctBof.pre (b, l, m, ()) ∧
 R (hd Try.f30 (0 : Nat))
 {
 env :=
 [((0 : Nat), SV.sl (Sh.int IntKind.u8) b), ((1 : Nat), SV.int IntKind.i64 l), ((2 : Nat), SV.int IntKind.i64 m),
 ((3 : Nat), SV.ptr (3 : Nat) (0 : Nat)), ((6 : Nat), SV.nilm), ((7 : Nat), SV.ptr (7 : Nat) (0 : Nat)),
 ((13 : Nat), SV.mp (13 : Nat)), ((14 : Nat), SV.sl (Sh.int IntKind.u8) b), ((15 : Nat), SV.int IntKind.i64 l),
 ((16 : Nat), SV.int IntKind.i64 m),
 ((17 : Nat),
 SV.fn (31 : Nat) []
 [SV.ptr (1069632 : Nat) (0 : Nat), SV.ptr (1069633 : Nat) (0 : Nat), SV.ptr (1069634 : Nat) (0 : Nat)])],
 blk :=
 [((3 : Nat), LB.var [SV.sl (Sh.int IntKind.u8) b]), ((7 : Nat), LB.var [SV.mp (13 : Nat)]),
 ((13 : Nat), LB.mp Sh.str (Sh.int IntKind.i64) []), ((1069632 : Nat), LB.var [SV.sl (Sh.int IntKind.u8) b]),
 ((1069633 : Nat), LB.var [SV.int IntKind.i64 l]), ((1069634 : Nat), LB.var [SV.int IntKind.i64 m])] }) := by kernel_rfl
theorem vc_fiR (b : List Int) (o : List (List UInt8 × Int)) (i : Int) (r : Int × Int) (j : Nat) (q : Bool) (Q : AExit → Nat × Bool → PS → Prop) (R : List Item → Nat × Bool → PS → Prop) : syE tt G0 D5 Try.f30.ntmps Y0 Q R .ready 1000 (rnd Try.f30 0) (j, q) (entryR [3, 7] [18, 19] KM ySh ((b, ()), ((o, ()), ())) (i, r, ())) =
    ((0 : Int) ≤ r.fst ∧
 r.fst ≤ r.snd ∧
 r.snd ≤ (↑b.length : Int) ∧
 bc (!(getM (κ := .str) (σ := .int .i64) o (List.map toB (Px.part b (some r.fst) (some r.snd)))).isSome)
 (Q AExit.normal (j, q)
 {
 env :=
 [((8 : Nat), SV.int IntKind.i64 i), ((9 : Nat), SV.ptr (9 : Nat) (0 : Nat)),
 ((10 : Nat), SV.str (List.map toB (Px.part b (some r.fst) (some r.snd)))),
 ((11 : Nat),
 SV.int IntKind.i64
 ((getM (κ := .str) (σ := .int .i64) o (List.map toB (Px.part b (some r.fst) (some r.snd)))).getD (Sh.int IntKind.i64).dflt)),
 ((12 : Nat), SV.bool (getM (κ := .str) (σ := .int .i64) o (List.map toB (Px.part b (some r.fst) (some r.snd)))).isSome),
 ((18 : Nat), SV.int IntKind.i64 i),
 ((19 : Nat), SV.agg [SV.int IntKind.i64 r.fst, SV.int IntKind.i64 r.snd]),
 ((3 : Nat), SV.ptr (1099511627776 : Nat) (0 : Nat)),
 ((7 : Nat), SV.ptr (1099511627777 : Nat) (0 : Nat)), ((20 : Nat), SV.sl (Sh.int IntKind.u8) b),
 ((21 : Nat), SV.ptr (9 : Nat) (0 : Nat)), ((22 : Nat), SV.int IntKind.i64 r.fst),
 ((23 : Nat), SV.ptr (9 : Nat) (1 : Nat)), ((24 : Nat), SV.int IntKind.i64 r.snd),
 ((25 : Nat), SV.sl (Sh.int IntKind.u8) (Px.part b (some r.fst) (some r.snd))),
 ((26 : Nat), SV.str (List.map toB (Px.part b (some r.fst) (some r.snd)))),
 ((27 : Nat),
 SV.tup
 [SV.int IntKind.i64
 ((getM (κ := .str) (σ := .int .i64) o (List.map toB (Px.part b (some r.fst) (some r.snd)))).getD (Sh.int IntKind.i64).dflt),
 SV.bool (getM (κ := .str) (σ := .int .i64) o (List.map toB (Px.part b (some r.fst) (some r.snd)))).isSome]),
 ((28 : Nat), SV.mp (1099511627778 : Nat)),
 ((29 : Nat), SV.str (List.map toB (Px.part b (some r.fst) (some r.snd)))),
 ((30 : Nat),
 SV.tup
 [SV.int IntKind.i64
 ((getM (κ := .str) (σ := .int .i64) o (List.map toB (Px.part b (some r.fst) (some r.snd)))).getD (Sh.int IntKind.i64).dflt),
 SV.bool (getM (κ := .str) (σ := .int .i64) o (List.map toB (Px.part b (some r.fst) (some r.snd)))).isSome]),
 ((31 : Nat),
 SV.int IntKind.i64
 ((getM (κ := .str) (σ := .int .i64) o (List.map toB (Px.part b (some r.fst) (some r.snd)))).getD (Sh.int IntKind.i64).dflt)),
 ((32 : Nat), SV.bool (getM (κ := .str) (σ := .int .i64) o (List.map toB (Px.part b (some r.fst) (some r.snd)))).isSome),
 ((33 : Nat), SV.bool (getM (κ := .str) (σ := .int .i64) o (List.map toB (Px.part b (some r.fst) (some r.snd)))).isSome),
 ((34 : Nat), SV.bool !(getM (κ := .str) (σ := .int .i64) o (List.map toB (Px.part b (some r.fst) (some r.snd)))).isSome),
 ((35 : Nat), SV.mp (1099511627778 : Nat)),
 ((36 : Nat), SV.str (List.map toB (Px.part b (some r.fst) (some r.snd)))),
 ((37 : Nat), SV.int IntKind.i64 i)],
 blk :=
 [((9 : Nat), LB.var [SV.int IntKind.i64 r.fst, SV.int IntKind.i64 r.snd]),
 ((1099511627776 : Nat), LB.var [SV.sl (Sh.int IntKind.u8) b]),
 ((1099511627777 : Nat), LB.var [SV.mp (1099511627778 : Nat)]),
 ((1099511627778 : Nat),
 LB.mp Sh.str (Sh.int IntKind.i64) (updM (κ := .str) (σ := .int .i64) o (List.map toB (Px.part b (some r.fst) (some r.snd))) i))] })
 (Q AExit.normal (j, q)
 {
 env :=
 [((8 : Nat), SV.int IntKind.i64 i), ((9 : Nat), SV.ptr (9 : Nat) (0 : Nat)),
 ((10 : Nat), SV.str (List.map toB (Px.part b (some r.fst) (some r.snd)))),
 ((11 : Nat),
 SV.int IntKind.i64
 ((getM (κ := .str) (σ := .int .i64) o (List.map toB (Px.part b (some r.fst) (some r.snd)))).getD (Sh.int IntKind.i64).dflt)),
 ((12 : Nat), SV.bool (getM (κ := .str) (σ := .int .i64) o (List.map toB (Px.part b (some r.fst) (some r.snd)))).isSome),
 ((18 : Nat), SV.int IntKind.i64 i),
 ((19 : Nat), SV.agg [SV.int IntKind.i64 r.fst, SV.int IntKind.i64 r.snd]),
 ((3 : Nat), SV.ptr (1099511627776 : Nat) (0 : Nat)),
 ((7 : Nat), SV.ptr (1099511627777 : Nat) (0 : Nat)), ((20 : Nat), SV.sl (Sh.int IntKind.u8) b),
 ((21 : Nat), SV.ptr (9 : Nat) (0 : Nat)), ((22 : Nat), SV.int IntKind.i64 r.fst),
 ((23 : Nat), SV.ptr (9 : Nat) (1 : Nat)), ((24 : Nat), SV.int IntKind.i64 r.snd),
 ((25 : Nat), SV.sl (Sh.int IntKind.u8) (Px.part b (some r.fst) (some r.snd))),
 ((26 : Nat), SV.str (List.map toB (Px.part b (some r.fst) (some r.snd)))),
 ((27 : Nat),
 SV.tup
 [SV.int IntKind.i64
 ((getM (κ := .str) (σ := .int .i64) o (List.map toB (Px.part b (some r.fst) (some r.snd)))).getD (Sh.int IntKind.i64).dflt),
 SV.bool (getM (κ := .str) (σ := .int .i64) o (List.map toB (Px.part b (some r.fst) (some r.snd)))).isSome]),
 ((28 : Nat), SV.mp (1099511627778 : Nat)),
 ((29 : Nat), SV.str (List.map toB (Px.part b (some r.fst) (some r.snd)))),
 ((30 : Nat),
 SV.tup
 [SV.int IntKind.i64
 ((getM (κ := .str) (σ := .int .i64) o (List.map toB (Px.part b (some r.fst) (some r.snd)))).getD (Sh.int IntKind.i64).dflt),
 SV.bool (getM (κ := .str) (σ := .int .i64) o (List.map toB (Px.part b (some r.fst) (some r.snd)))).isSome]),
 ((31 : Nat),
 SV.int IntKind.i64
 ((getM (κ := .str) (σ := .int .i64) o (List.map toB (Px.part b (some r.fst) (some r.snd)))).getD (Sh.int IntKind.i64).dflt)),
 ((32 : Nat), SV.bool (getM (κ := .str) (σ := .int .i64) o (List.map toB (Px.part b (some r.fst) (some r.snd)))).isSome),
 ((33 : Nat), SV.bool (getM (κ := .str) (σ := .int .i64) o (List.map toB (Px.part b (some r.fst) (some r.snd)))).isSome),
 ((34 : Nat), SV.bool !(getM (κ := .str) (σ := .int .i64) o (List.map toB (Px.part b (some r.fst) (some r.snd)))).isSome)],
 blk :=
 [((9 : Nat), LB.var [SV.int IntKind.i64 r.fst, SV.int IntKind.i64 r.snd]),
 ((1099511627776 : Nat), LB.var [SV.sl (Sh.int IntKind.u8) b]),
 ((1099511627777 : Nat), LB.var [SV.mp (1099511627778 : Nat)]),
 ((1099511627778 : Nat), LB.mp Sh.str (Sh.int IntKind.i64) o)] })) := by kernel_rfl
theorem vc_fiK (o : List (List UInt8 × Int)) (j : Nat) (q : Bool) (Q : AExit → Nat × Bool → PS → Prop) (R : List Item → Nat × Bool → PS → Prop) : syE tt G0 D5 Try.f30.ntmps Y0 Q R .fn 1000 (rfK Try.f30 0) (j, q) (⟨[(7, .ptr 7 0)], [(7, .var [.mp 1086016]), (1086016, .mp .str (.int .i64) o)]⟩) =
    (Q AExit.ret (j, q)
 {
 env :=
 [((6 : Nat), SV.mp (1086016 : Nat)), ((7 : Nat), SV.ptr (7 : Nat) (0 : Nat)),
 ((38 : Nat), SV.mp (1086016 : Nat))],
 blk := [((7 : Nat), LB.var [SV.mp (1086016 : Nat)]), ((1086016 : Nat), LB.mp Sh.str (Sh.int IntKind.i64) o)] }) := by kernel_rfl
end Go.Proofs.Ytgffokpiklnpmaa
namespace Go.Proofs.Ytgffokpiklnpmaa
open Go.Px Go.Ax
attribute [local irreducible] Go.Px.sy Go.Px.syE
theorem hd30 : hd Try.f30 0 = .code (.rangeFunc (.tmp 17) #[18, 19] (rfA Try.f30 0) (rfB Try.f30 0)) :: rfK Try.f30 0 := by kernel_rfl
theorem rnd30 : rnd Try.f30 0 = [.code (rfA Try.f30 0), .beginRound, .code (rfB Try.f30 0)] := by kernel_rfl
abbrev MpT : Type := List (List UInt8 × Int)
abbrev gM (o : MpT) (k : List UInt8) : Option Int := getM (κ := .str) (σ := .int .i64) o k
abbrev uM (o : MpT) (k : List UInt8) (v : Int) : MpT := updM (κ := .str) (σ := .int .i64) o k v
def keyR (b : List Int) (r : Int × Int) : List UInt8 := List.map toB (Px.part b (some r.1) (some r.2))
/-- The first indices of the blocks' texts. -/
def mpF (b : List Int) : Nat → List (Int × Int) → MpT → MpT
  | _, [], o => o
  | i, r :: rs, o => mpF b (i + 1) rs (if (gM o (keyR b r)).isSome then o else uM o (keyR b r) i)
theorem blksF_in {b : List Int} {l m : Nat} (h : 4 ≤ l ∧ l ≤ m) : ∀ (k p : Nat) (r : Int × Int), r ∈ blksF b l m k p → (p : Int) ≤ r.1 ∧ r.1 < r.2 ∧ r.2 ≤ b.length
  | 0, _, r, hr => by simp [blksF] at hr
  | k + 1, p, r, hr => by
    rw [blksF] at hr
    split at hr
    · rename_i hlt
      have hf := firstLen_bd (b := b.drop p) h (by rw [List.length_drop]; omega)
      rw [List.length_drop] at hf
      rcases List.mem_cons.1 hr with rfl | hr
      · simp only; omega
      · have := blksF_in h k _ r hr
        omega
    · simp at hr
theorem fi_rounds {b : List Int} {QL : AExit → Nat × Bool → DI KM → Prop} {g : Nat × Bool} : ∀ (rs : List (Int × Int)) (o : MpT) (i : Nat), (∀ r ∈ rs, 0 ≤ r.1 ∧ r.1 ≤ r.2 ∧ r.2 ≤ b.length) →
    QL .normal g ((b, ()), ((mpF b i rs o, ()), ())) →
    RLoop Try.prog G0 30 Try.f30.ntmps Y0 [3, 7] [18, 19] KM ySh (rfA Try.f30 0) (rfB Try.f30 0) QL (idx i rs) g ((b, ()), ((o, ()), ()))
  | [], o, i, _, h => h
  | r :: rs, o, i, hl, h => by
    obtain ⟨h1, h2, h3⟩ := hl r (by simp)
    show GoodE Try.prog G0 30 Try.f30.ntmps .ready Y0 _ [.code (rfA Try.f30 0), .beginRound, .code (rfB Try.f30 0)] g (entryR [3, 7] [18, 19] KM ySh ((b, ()), ((o, ()), ())) ((i : Int), (r, ())))
    rw [← rnd30]
    refine syE_go dx5 (vc_fiR b o i r g.1 g.2 _ _) ⟨h1, h2, h3, bc_of (fun hc => ?_) (fun hc => ?_)⟩
    · have hc : (gM o (keyR b r)).isSome = false := by
        have hc : (!(gM o (keyR b r)).isSome) = true := hc
        simpa using hc
      have k := fi_rounds (b := b) (QL := QL) (g := g) rs (uM o (keyR b r) i) (i + 1) (fun r hr => hl r (by simp [hr])) (by rw [mpF, if_neg (by rw [hc]; simp)] at h; exact h)
      exact ⟨[], ((b, ()), ((uM o (keyR b r) i, ()), ())), ⟨⟨rfl, rfl, rfl, trivial⟩, rfl, rfl⟩, k⟩
    · have hc : (gM o (keyR b r)).isSome = true := by
        have hc : (!(gM o (keyR b r)).isSome) = false := hc
        simpa using hc
      have k := fi_rounds (b := b) (QL := QL) (g := g) rs o (i + 1) (fun r hr => hl r (by simp [hr])) (by rw [mpF, if_pos hc] at h; exact h)
      exact ⟨[], ((b, ()), ((o, ()), ())), ⟨⟨rfl, rfl, rfl, trivial⟩, rfl, rfl⟩, k⟩
abbrev firstM (b : List Int) (l m : Int) : MpT := mpF b 0 (blks b l.toNat m.toNat) []
def ctFi : CtrI := ⟨K27, fun x => preB x.1 x.2.1 x.2.2.1, fun _ => [.mp 0], fun x => [(0, .mp .str (.int .i64) (firstM x.1 x.2.1 x.2.2.1))]⟩
theorem fi_end {b : List Int} {l m : Int} {o : MpT} {g : Nat × Bool} (ho : o = firstM b l m) :
    GoodE Try.prog G0 30 Try.f30.ntmps .fn Y0 (endK tt G0 Try.f30.results.toList (QI ctFi (b, l, m, ()))) (rfK Try.f30 0) g ⟨[(7, .ptr 7 0)], [(7, .var [.mp 1086016]), (1086016, .mp .str (.int .i64) o)]⟩ := by
  refine syE_go dx5 (vc_fiK o g.1 g.2 _ _) ?_
  subst ho
  show QI ctFi (b, l, m, ()) [.mp 1086016] _
  have p0 : piOf [(0, 1086016)] 0 = some 1086016 := by decide
  refine ⟨[(0, 1086016)], mtL_cons (by simp only [Mt]; exact ⟨_, rfl, p0⟩) mtL_nil, ⟨.inl ⟨1086016, _, p0, rfl, rfl⟩, trivial⟩, by decide, fun p hp => ?_⟩
  simp only [List.mem_cons, List.not_mem_nil, or_false] at hp
  subst hp; decide
def bkF30 (x : DI KM) : List (Nat × LB) := [(BIG, .var [.sl (.int .u8) x.1.1]), (BIG + 1, .var [.mp 0]), (0, .mp .str (.int .i64) x.2.1.1)]
theorem fi_run (b : List Int) (l m : Int) (hp : preB b l m) : sy tt G0 D5 Try.f30.ntmps Try.f30.results.toList (QI ctFi (b, l, m, ())) (Px.Good Try.prog tt G0 30 Try.f30.ntmps Try.f30.results.toList (QI ctFi (b, l, m, ()))) 1000 [.code (bodyOf Try.f30)] (entryI K27 (b, l, m, ())) := by
  have hp0 := hp
  obtain ⟨hlim, hp1, hp2⟩ := hp
  rw [vc_fi]
  refine ⟨trivial, ?_⟩
  show GoodE Try.prog G0 30 Try.f30.ntmps .fn Y0 (endK tt G0 Try.f30.results.toList (QI ctFi (b, l, m, ()))) (hd Try.f30 0) (0, false) _
  rw [hd30]
  refine GoodE.rangeF (gf := 31) (ct := ctIt) (Ko := KM) (xi := ((b, ()), (l, ()), (m, ()), ())) (x0 := ((b, ()), (([], ()), ()))) (ns1 := [some 1069632, some 1069633, some 1069634]) (ns2 := [some 3, some 7, some 13]) (tl := [(3, .ptr 3 0), (7, .ptr 7 0)]) (bkF := bkF30) (rF := [(0, BIG + 2)]) (d := 21) (m := 2)
    (by simp) ?_ it_held rfl rfl rfl ?_ hp0 ⟨rfl, rfl, trivial⟩ rfl ?_ (by decide) ⟨by decide, by decide, rfl⟩ rfl ?_ (by decide) ?_
  · exact fun args w => callFunc_enter (fn := Try.f31) rfl rfl rfl args w
  · exact fun c hc => by cases hc
  · exact fun c hc => by cases hc
  · exact fun x hx => ⟨⟨rfl, rfl, rfl, trivial⟩, by simp [bkF30, rho, lk, BIG], fun p hp hb => (by
      simp only [bkF30, List.mem_cons, List.not_mem_nil, or_false] at hp
      rcases hp with rfl | rfl | rfl
      · exact ⟨rfl, rfl⟩
      · exact ⟨rfl, rfl⟩
      · exact absurd hb (show ¬ BIG ≤ 0 by decide)), by kernel_rfl⟩
  · refine fi_rounds _ [] 0 (fun r hr => ?_) ?_
    · have := blksF_in (b := b) (l := l.toNat) (m := m.toNat) (by omega) _ _ r hr
      omega
    · exact (fi_end rfl).only ⟨by kernel_rfl, trivial⟩ ⟨by kernel_rfl, by kernel_rfl, trivial⟩
theorem fi_held : HeldI Try.prog G0 30 ctFi := HeldI.run dx5 (fn := Try.f30) rfl rfl ⟨by decide, by decide⟩ fun x hp => fi_run x.1 x.2.1 x.2.2.1 hp
abbrev D6 : CV := (30, .inr ctFi) :: D5
theorem dx6 : CxOK Try.prog tt G0 D6 := dx5.consI fi_held (fn := Try.f30) rfl rfl rfl
end Go.Proofs.Ytgffokpiklnpmaa
namespace Go.Proofs.Ytgffokpiklnpmaa
open Go.Px Go.Ax
abbrev KX : List AK := [.ptr [.dat (.sl (.int .u8))], .ptr [.map .str (.int .i64)], .ptr [.row 26 (.arr 2 (.int .i64))]]
set_option maxRecDepth 100000
theorem vc_ma (a b : List Int) (l m : Int) (Q : List SV → List (Nat × LB) → Prop) (R : List Item → PS → Prop) : sy tt G0 D6 Try.f16.ntmps Try.f16.results.toList Q R 1000 [.code (bodyOf Try.f16)] (entry [.sl (.int .u8), .sl (.int .u8), .int .i64, .int .i64] (a, b, l, m, ())) =
    (ctLim.pre (l, m, ()) ∧
 bc (!limR l m) (Q [SV.nils, SV.int IntKind.i64 (1 : Int)] [((5 : Nat), LB.var [SV.sl (Sh.int IntKind.u8) b])])
 (ctFi.pre (a, l, m, ()) ∧
 ctBof.pre (b, l, m, ()) ∧
 R (hd Try.f16 (0 : Nat))
 {
 env :=
 [((0 : Nat), SV.sl (Sh.int IntKind.u8) a), ((1 : Nat), SV.sl (Sh.int IntKind.u8) b),
 ((2 : Nat), SV.int IntKind.i64 l), ((3 : Nat), SV.int IntKind.i64 m),
 ((5 : Nat), SV.ptr (5 : Nat) (0 : Nat)), ((8 : Nat), SV.nils),
 ((9 : Nat), SV.int IntKind.i64 (0 : Int)), ((10 : Nat), SV.ptr (10 : Nat) (0 : Nat)),
 ((11 : Nat), SV.ptr (11 : Nat) (0 : Nat)), ((16 : Nat), SV.int IntKind.i64 l),
 ((17 : Nat), SV.int IntKind.i64 m), ((18 : Nat), SV.bool (limR l m)), ((19 : Nat), SV.bool !limR l m),
 ((20 : Nat), SV.sl (Sh.int IntKind.u8) a), ((21 : Nat), SV.int IntKind.i64 l),
 ((22 : Nat), SV.int IntKind.i64 m), ((23 : Nat), SV.mp (1094208 : Nat)),
 ((24 : Nat), SV.sl (Sh.int IntKind.u8) b), ((25 : Nat), SV.int IntKind.i64 l),
 ((26 : Nat), SV.int IntKind.i64 m),
 ((27 : Nat),
 SV.fn (31 : Nat) []
 [SV.ptr (1110592 : Nat) (0 : Nat), SV.ptr (1110593 : Nat) (0 : Nat),
 SV.ptr (1110594 : Nat) (0 : Nat)])],
 blk :=
 [((5 : Nat), LB.var [SV.sl (Sh.int IntKind.u8) b]), ((10 : Nat), LB.var [SV.mp (1094208 : Nat)]),
 ((11 : Nat), LB.var [SV.nils]), ((1094208 : Nat), LB.mp Sh.str (Sh.int IntKind.i64) (firstM a l m)),
 ((1110592 : Nat), LB.var [SV.sl (Sh.int IntKind.u8) b]),
 ((1110593 : Nat), LB.var [SV.int IntKind.i64 l]), ((1110594 : Nat), LB.var [SV.int IntKind.i64 m])] })) := by kernel_rfl
theorem vc_maR (b : List Int) (M : List (List UInt8 × Int)) (o : List (List Int)) (i : Int) (r : Int × Int) (j : Nat) (q : Bool) (Q : AExit → Nat × Bool → PS → Prop) (R : List Item → Nat × Bool → PS → Prop) : syE tt G0 D6 Try.f16.ntmps Y0 Q R .ready 1000 (rnd Try.f16 0) (j, q) (entryR [5, 10, 11] [28, 29] KX ySh ((b, ()), ((M, ()), ((o, ()), ()))) (i, r, ())) =
    ((0 : Int) ≤ r.fst ∧
 r.fst ≤ r.snd ∧
 r.snd ≤ (↑b.length : Int) ∧
 bc (getM (κ := .str) (σ := .int .i64) M (List.map toB (Px.part b (some r.fst) (some r.snd)))).isSome
 ((0 : Nat) + (1 : Nat) ≤
 ((List.replicate (1 : Nat) (Sh.arr (2 : Nat) (Sh.int IntKind.i64)).dflt).set (0 : Nat)
 ((List.set (Sh.arr (2 : Nat) (Sh.int IntKind.i64)).dflt (0 : Nat)
 ((getM (κ := .str) (σ := .int .i64) M (List.map toB (Px.part b (some r.fst) (some r.snd)))).getD
 (Sh.int IntKind.i64).dflt)).set
 (1 : Nat) i)).length ∧
 o.length = o.length ∧
 (0 : Nat) = (0 : Nat) ∧
 o.length +
 (winL
 ((fun self => self.6)
 (mkT (2 : Nat) (16 : Nat) true (TK.array (2 : Nat) (3 : TypeId))
 (Sh.arr (2 : Nat) (Sh.int IntKind.i64)) (some IntKind.i64)))
 (0 : Nat) (1 : Nat)
 ((List.replicate (1 : Nat) (Sh.arr (2 : Nat) (Sh.int IntKind.i64)).dflt).set (0 : Nat)
 ((List.set (Sh.arr (2 : Nat) (Sh.int IntKind.i64)).dflt (0 : Nat)
 ((getM (κ := .str) (σ := .int .i64) M (List.map toB (Px.part b (some r.fst) (some r.snd)))).getD
 (Sh.int IntKind.i64).dflt)).set
 (1 : Nat) i))).length <
 (2 : Nat) ^ (30 : Nat) ∧
 (16 : Nat) ≤ (2 : Nat) ^ (10 : Nat) ∧
 Q AExit.normal (j, q)
 {
 env :=
 [((12 : Nat), SV.int IntKind.i64 i), ((13 : Nat), SV.ptr (13 : Nat) (0 : Nat)),
 ((14 : Nat),
 SV.int IntKind.i64
 ((getM (κ := .str) (σ := .int .i64) M (List.map toB (Px.part b (some r.fst) (some r.snd)))).getD
 (Sh.int IntKind.i64).dflt)),
 ((15 : Nat), SV.bool (getM (κ := .str) (σ := .int .i64) M (List.map toB (Px.part b (some r.fst) (some r.snd)))).isSome),
 ((28 : Nat), SV.int IntKind.i64 i),
 ((29 : Nat), SV.agg [SV.int IntKind.i64 r.fst, SV.int IntKind.i64 r.snd]),
 ((5 : Nat), SV.ptr (1099511627776 : Nat) (0 : Nat)),
 ((10 : Nat), SV.ptr (1099511627777 : Nat) (0 : Nat)),
 ((11 : Nat), SV.ptr (1099511627779 : Nat) (0 : Nat)),
 ((30 : Nat),
 SV.tup
 [SV.int IntKind.i64
 ((getM (κ := .str) (σ := .int .i64) M (List.map toB (Px.part b (some r.fst) (some r.snd)))).getD
 (Sh.int IntKind.i64).dflt),
 SV.bool (getM (κ := .str) (σ := .int .i64) M (List.map toB (Px.part b (some r.fst) (some r.snd)))).isSome]),
 ((31 : Nat), SV.mp (1099511627778 : Nat)), ((32 : Nat), SV.sl (Sh.int IntKind.u8) b),
 ((33 : Nat), SV.ptr (13 : Nat) (0 : Nat)), ((34 : Nat), SV.int IntKind.i64 r.fst),
 ((35 : Nat), SV.ptr (13 : Nat) (1 : Nat)), ((36 : Nat), SV.int IntKind.i64 r.snd),
 ((37 : Nat), SV.sl (Sh.int IntKind.u8) (Px.part b (some r.fst) (some r.snd))),
 ((38 : Nat), SV.str (List.map toB (Px.part b (some r.fst) (some r.snd)))),
 ((39 : Nat),
 SV.tup
 [SV.int IntKind.i64
 ((getM (κ := .str) (σ := .int .i64) M (List.map toB (Px.part b (some r.fst) (some r.snd)))).getD
 (Sh.int IntKind.i64).dflt),
 SV.bool (getM (κ := .str) (σ := .int .i64) M (List.map toB (Px.part b (some r.fst) (some r.snd)))).isSome]),
 ((40 : Nat),
 SV.int IntKind.i64
 ((getM (κ := .str) (σ := .int .i64) M (List.map toB (Px.part b (some r.fst) (some r.snd)))).getD
 (Sh.int IntKind.i64).dflt)),
 ((41 : Nat), SV.bool (getM (κ := .str) (σ := .int .i64) M (List.map toB (Px.part b (some r.fst) (some r.snd)))).isSome),
 ((42 : Nat), SV.bool (getM (κ := .str) (σ := .int .i64) M (List.map toB (Px.part b (some r.fst) (some r.snd)))).isSome),
 ((43 : Nat), SV.dead),
 ((44 : Nat),
 SV.int IntKind.i64
 ((getM (κ := .str) (σ := .int .i64) M (List.map toB (Px.part b (some r.fst) (some r.snd)))).getD
 (Sh.int IntKind.i64).dflt)),
 ((45 : Nat), SV.int IntKind.i64 i),
 ((46 : Nat),
 SV.arr (2 : Nat) (Sh.int IntKind.i64)
 ((List.set (Sh.arr (2 : Nat) (Sh.int IntKind.i64)).dflt (0 : Nat)
 ((getM (κ := .str) (σ := .int .i64) M (List.map toB (Px.part b (some r.fst) (some r.snd)))).getD
 (Sh.int IntKind.i64).dflt)).set
 (1 : Nat) i)),
 ((47 : Nat),
 SV.win true (Sh.arr (2 : Nat) (Sh.int IntKind.i64)) (47 : Nat) (0 : Nat) (1 : Nat)),
 ((48 : Nat),
 SV.win true (Sh.arr (2 : Nat) (Sh.int IntKind.i64)) (48 : Nat) (0 : Nat)
 (o.length +
 (winL
 ((fun self => self.6)
 (mkT (2 : Nat) (16 : Nat) true (TK.array (2 : Nat) (3 : TypeId))
 (Sh.arr (2 : Nat) (Sh.int IntKind.i64)) (some IntKind.i64)))
 (0 : Nat) (1 : Nat)
 ((List.replicate (1 : Nat) (Sh.arr (2 : Nat) (Sh.int IntKind.i64)).dflt).set
 (0 : Nat)
 ((List.set (Sh.arr (2 : Nat) (Sh.int IntKind.i64)).dflt (0 : Nat)
 ((getM (κ := .str) (σ := .int .i64) M (List.map toB (Px.part b (some r.fst) (some r.snd)))).getD
 (Sh.int IntKind.i64).dflt)).set
 (1 : Nat) i))).length))],
 blk :=
 [((13 : Nat), LB.var [SV.int IntKind.i64 r.fst, SV.int IntKind.i64 r.snd]),
 ((47 : Nat),
 LB.row (26 : Nat) (Sh.arr (2 : Nat) (Sh.int IntKind.i64))
 ((List.replicate (1 : Nat) (Sh.arr (2 : Nat) (Sh.int IntKind.i64)).dflt).set (0 : Nat)
 ((List.set (Sh.arr (2 : Nat) (Sh.int IntKind.i64)).dflt (0 : Nat)
 ((getM (κ := .str) (σ := .int .i64) M (List.map toB (Px.part b (some r.fst) (some r.snd)))).getD
 (Sh.int IntKind.i64).dflt)).set
 (1 : Nat) i))),
 ((48 : Nat),
 LB.row (26 : Nat) (Sh.arr (2 : Nat) (Sh.int IntKind.i64))
 (o ++
 winL (Sh.arr (2 : Nat) (Sh.int IntKind.i64)) (0 : Nat) (1 : Nat)
 ((List.replicate (1 : Nat) (Sh.arr (2 : Nat) (Sh.int IntKind.i64)).dflt).set (0 : Nat)
 ((List.set (Sh.arr (2 : Nat) (Sh.int IntKind.i64)).dflt (0 : Nat)
 ((getM (κ := .str) (σ := .int .i64) M (List.map toB (Px.part b (some r.fst) (some r.snd)))).getD
 (Sh.int IntKind.i64).dflt)).set
 (1 : Nat) i)))),
 ((1099511627776 : Nat), LB.var [SV.sl (Sh.int IntKind.u8) b]),
 ((1099511627777 : Nat), LB.var [SV.mp (1099511627778 : Nat)]),
 ((1099511627778 : Nat), LB.mp Sh.str (Sh.int IntKind.i64) M),
 ((1099511627779 : Nat),
 LB.var
 [SV.win true (Sh.arr (2 : Nat) (Sh.int IntKind.i64)) (48 : Nat) (0 : Nat)
 (o.length +
 (winL
 ((fun self => self.6)
 (mkT (2 : Nat) (16 : Nat) true (TK.array (2 : Nat) (3 : TypeId))
 (Sh.arr (2 : Nat) (Sh.int IntKind.i64)) (some IntKind.i64)))
 (0 : Nat) (1 : Nat)
 ((List.replicate (1 : Nat) (Sh.arr (2 : Nat) (Sh.int IntKind.i64)).dflt).set
 (0 : Nat)
 ((List.set (Sh.arr (2 : Nat) (Sh.int IntKind.i64)).dflt (0 : Nat)
 ((getM (κ := .str) (σ := .int .i64) M (List.map toB (Px.part b (some r.fst) (some r.snd)))).getD
 (Sh.int IntKind.i64).dflt)).set
 (1 : Nat) i))).length)])] })
 (Q AExit.normal (j, q)
 {
 env :=
 [((12 : Nat), SV.int IntKind.i64 i), ((13 : Nat), SV.ptr (13 : Nat) (0 : Nat)),
 ((14 : Nat),
 SV.int IntKind.i64
 ((getM (κ := .str) (σ := .int .i64) M (List.map toB (Px.part b (some r.fst) (some r.snd)))).getD (Sh.int IntKind.i64).dflt)),
 ((15 : Nat), SV.bool (getM (κ := .str) (σ := .int .i64) M (List.map toB (Px.part b (some r.fst) (some r.snd)))).isSome),
 ((28 : Nat), SV.int IntKind.i64 i),
 ((29 : Nat), SV.agg [SV.int IntKind.i64 r.fst, SV.int IntKind.i64 r.snd]),
 ((5 : Nat), SV.ptr (1099511627776 : Nat) (0 : Nat)),
 ((10 : Nat), SV.ptr (1099511627777 : Nat) (0 : Nat)),
 ((11 : Nat), SV.ptr (1099511627779 : Nat) (0 : Nat)),
 ((30 : Nat),
 SV.tup
 [SV.int IntKind.i64
 ((getM (κ := .str) (σ := .int .i64) M (List.map toB (Px.part b (some r.fst) (some r.snd)))).getD (Sh.int IntKind.i64).dflt),
 SV.bool (getM (κ := .str) (σ := .int .i64) M (List.map toB (Px.part b (some r.fst) (some r.snd)))).isSome]),
 ((31 : Nat), SV.mp (1099511627778 : Nat)), ((32 : Nat), SV.sl (Sh.int IntKind.u8) b),
 ((33 : Nat), SV.ptr (13 : Nat) (0 : Nat)), ((34 : Nat), SV.int IntKind.i64 r.fst),
 ((35 : Nat), SV.ptr (13 : Nat) (1 : Nat)), ((36 : Nat), SV.int IntKind.i64 r.snd),
 ((37 : Nat), SV.sl (Sh.int IntKind.u8) (Px.part b (some r.fst) (some r.snd))),
 ((38 : Nat), SV.str (List.map toB (Px.part b (some r.fst) (some r.snd)))),
 ((39 : Nat),
 SV.tup
 [SV.int IntKind.i64
 ((getM (κ := .str) (σ := .int .i64) M (List.map toB (Px.part b (some r.fst) (some r.snd)))).getD (Sh.int IntKind.i64).dflt),
 SV.bool (getM (κ := .str) (σ := .int .i64) M (List.map toB (Px.part b (some r.fst) (some r.snd)))).isSome]),
 ((40 : Nat),
 SV.int IntKind.i64
 ((getM (κ := .str) (σ := .int .i64) M (List.map toB (Px.part b (some r.fst) (some r.snd)))).getD (Sh.int IntKind.i64).dflt)),
 ((41 : Nat), SV.bool (getM (κ := .str) (σ := .int .i64) M (List.map toB (Px.part b (some r.fst) (some r.snd)))).isSome),
 ((42 : Nat), SV.bool (getM (κ := .str) (σ := .int .i64) M (List.map toB (Px.part b (some r.fst) (some r.snd)))).isSome)],
 blk :=
 [((13 : Nat), LB.var [SV.int IntKind.i64 r.fst, SV.int IntKind.i64 r.snd]),
 ((1099511627776 : Nat), LB.var [SV.sl (Sh.int IntKind.u8) b]),
 ((1099511627777 : Nat), LB.var [SV.mp (1099511627778 : Nat)]),
 ((1099511627778 : Nat), LB.mp Sh.str (Sh.int IntKind.i64) M),
 ((1099511627779 : Nat),
 LB.var
 [SV.win true (Sh.arr (2 : Nat) (Sh.int IntKind.i64)) (1099511627780 : Nat) (0 : Nat) o.length]),
 ((1099511627780 : Nat), LB.row (26 : Nat) (Sh.arr (2 : Nat) (Sh.int IntKind.i64)) o)] })) := by kernel_rfl
theorem vc_maK (o : List (List Int)) (j : Nat) (q : Bool) (Q : AExit → Nat × Bool → PS → Prop) (R : List Item → Nat × Bool → PS → Prop) : syE tt G0 D6 Try.f16.ntmps Y0 Q R .fn 1000 (rfK Try.f16 0) (j, q) (⟨[(11, .ptr 11 0)], [(11, .var [.win true (.arr 2 (.int .i64)) 1086016 0 o.length]), (1086016, .row 26 (.arr 2 (.int .i64)) o)]⟩) =
    (Q AExit.ret (j, q)
 {
 env :=
 [((8 : Nat), SV.win true (Sh.arr (2 : Nat) (Sh.int IntKind.i64)) (1086016 : Nat) (0 : Nat) o.length),
 ((9 : Nat), SV.int IntKind.i64 (0 : Int)), ((11 : Nat), SV.ptr (11 : Nat) (0 : Nat)),
 ((49 : Nat), SV.win true (Sh.arr (2 : Nat) (Sh.int IntKind.i64)) (1086016 : Nat) (0 : Nat) o.length)],
 blk :=
 [((11 : Nat), LB.var [SV.win true (Sh.arr (2 : Nat) (Sh.int IntKind.i64)) (1086016 : Nat) (0 : Nat) o.length]),
 ((1086016 : Nat), LB.row (26 : Nat) (Sh.arr (2 : Nat) (Sh.int IntKind.i64)) o)] }) := by kernel_rfl
end Go.Proofs.Ytgffokpiklnpmaa
namespace Go.Proofs.Ytgffokpiklnpmaa
open Go.Px Go.Ax
attribute [local irreducible] Go.Px.sy Go.Px.syE
theorem hd16 : hd Try.f16 0 = .code (.rangeFunc (.tmp 27) #[28, 29] (rfA Try.f16 0) (rfB Try.f16 0)) :: rfK Try.f16 0 := by kernel_rfl
theorem rnd16 : rnd Try.f16 0 = [.code (rfA Try.f16 0), .beginRound, .code (rfB Try.f16 0)] := by kernel_rfl
/-- The pairs of the ranges whose texts the map has. -/
def matF (b : List Int) (M : MpT) : Nat → List (Int × Int) → List (List Int)
  | _, [] => []
  | i, r :: rs => match gM M (keyR b r) with
    | some v => [v, (i : Int)] :: matF b M (i + 1) rs
    | none => matF b M (i + 1) rs
theorem matF_len (b : List Int) (M : MpT) : ∀ i rs, (matF b M i rs).length ≤ rs.length
  | _, [] => Nat.le_refl _
  | i, r :: rs => by
    have := matF_len b M (i + 1) rs
    rw [matF]; split <;> simp only [List.length_cons] <;> omega
theorem ma_rounds {b : List Int} {M : MpT} {QL : AExit → Nat × Bool → DI KX → Prop} {g : Nat × Bool} : ∀ (rs : List (Int × Int)) (o : List (List Int)) (i : Nat), (∀ r ∈ rs, 0 ≤ r.1 ∧ r.1 ≤ r.2 ∧ r.2 ≤ b.length) → o.length + rs.length < 2 ^ 30 →
    QL .normal g ((b, ()), ((M, ()), ((o ++ matF b M i rs, ()), ()))) →
    RLoop Try.prog G0 16 Try.f16.ntmps Y0 [5, 10, 11] [28, 29] KX ySh (rfA Try.f16 0) (rfB Try.f16 0) QL (idx i rs) g ((b, ()), ((M, ()), ((o, ()), ())))
  | [], o, i, _, _, h => by
    rw [matF, List.append_nil] at h
    exact h
  | r :: rs, o, i, hl, hn, h => by
    obtain ⟨h1, h2, h3⟩ := hl r (by simp)
    rw [List.length_cons] at hn
    show GoodE Try.prog G0 16 Try.f16.ntmps .ready Y0 _ [.code (rfA Try.f16 0), .beginRound, .code (rfB Try.f16 0)] g (entryR [5, 10, 11] [28, 29] KX ySh ((b, ()), ((M, ()), ((o, ()), ()))) ((i : Int), (r, ())))
    rw [← rnd16]
    refine syE_go dx6 (vc_maR b M o i r g.1 g.2 _ _) ⟨h1, h2, h3, bc_of (fun hc => ⟨Nat.le_refl _, rfl, rfl, ?_, by decide, ?_⟩) (fun hc => ?_)⟩
    · show o.length + 1 < 2 ^ 30
      omega
    · have hc : (gM M (keyR b r)).isSome = true := hc
      obtain ⟨v, hv⟩ := Option.isSome_iff_exists.1 hc
      have hv2 : (getM (κ := .str) (σ := .int .i64) M (List.map toB (Px.part b (some r.1) (some r.2)))) = some v := hv
      rw [matF, hv] at h
      have k := ma_rounds (b := b) (M := M) (QL := QL) (g := g) rs (o ++ [[v, (i : Int)]]) (i + 1) (fun r hr => hl r (by simp [hr])) (by rw [List.length_append, List.length_singleton]; omega) (by rw [List.append_assoc]; exact h)
      refine ⟨[(BIG + 4, 48)], ((b, ()), ((M, ()), ((o ++ [[v, (i : Int)]], ()), ()))), ⟨⟨rfl, rfl, rfl, ?_, ?_, trivial⟩, rfl, rfl⟩, k⟩
      · have e : SV.win true paS 48 0 (o ++ [[v, (i : Int)]]).length = SV.win true paS 48 0 (o.length + 1) := by rw [List.length_append, List.length_singleton]
        show some (LB.var [SV.win true paS 48 0 (o.length + 1)]) = some (LB.var [SV.win true paS 48 0 (o ++ [[v, (i : Int)]]).length])
        rw [e]
      · rw [hv2]; rfl
    · have hc : (gM M (keyR b r)).isSome = false := hc
      have hn2 : gM M (keyR b r) = none := by simpa using hc
      rw [matF, hn2] at h
      have k := ma_rounds (b := b) (M := M) (QL := QL) (g := g) rs o (i + 1) (fun r hr => hl r (by simp [hr])) (by omega) h
      exact ⟨[], ((b, ()), ((M, ()), ((o, ()), ()))), ⟨⟨rfl, rfl, rfl, rfl, rfl, trivial⟩, rfl, rfl⟩, k⟩
/-- The pairs of a match. -/
def matO (a b : List Int) (l m : Int) : List (List Int) := if limR l m then matF b (firstM a l m) 0 (blks b l.toNat m.toNat) else []
def ctMa : Ctr := ⟨[slB, slB, iI, iI], fun x => preT x.1 ∧ preT x.2.1, fun x => [.win true paS 0 0 (List.length (matO x.1 x.2.1 x.2.2.1 x.2.2.2.1)), .int .i64 (errO x.2.2.1 x.2.2.2.1)], fun x => [.row 26 paS (matO x.1 x.2.1 x.2.2.1 x.2.2.2.1)]⟩
theorem ma_end {a b : List Int} {l m : Int} {o : List (List Int)} {g : Nat × Bool} (ho : o = matO a b l m) (he : errO l m = 0) :
    GoodE Try.prog G0 16 Try.f16.ntmps .fn Y0 (endK tt G0 Try.f16.results.toList (QC ctMa (a, b, l, m, ()))) (rfK Try.f16 0) g ⟨[(11, .ptr 11 0)], [(11, .var [.win true paS 1086016 0 o.length]), (1086016, .row 26 paS o)]⟩ := by
  subst ho
  refine syE_go dx6 (vc_maK _ g.1 g.2 _ _) ?_
  refine QC.row1 (n := 0) ?_ rfl rfl rfl rfl
  show [SV.win true paS 0 0 (matO a b l m).length, SV.int .i64 (errO l m)] = _
  rw [he]
def bkF16 (x : DI KX) : List (Nat × LB) := [(BIG, .var [.sl (.int .u8) x.1.1]), (BIG + 1, .var [.mp 1]), (1, .mp .str (.int .i64) x.2.1.1), (BIG + 3, .var [.win true paS 0 0 x.2.2.1.1.length]), (0, .row 26 paS x.2.2.1.1)]
theorem ma_run (a b : List Int) (l m : Int) (hpa : preT a) (hpb : preT b) : sy tt G0 D6 Try.f16.ntmps Try.f16.results.toList (QC ctMa (a, b, l, m, ())) (Px.Good Try.prog tt G0 16 Try.f16.ntmps Try.f16.results.toList (QC ctMa (a, b, l, m, ()))) 1000 [.code (bodyOf Try.f16)] (entry [slB, slB, iI, iI] (a, b, l, m, ())) := by
  obtain ⟨hp1, hp2⟩ := hpb
  rw [vc_ma]
  refine ⟨trivial, bc_of (fun h => ?_) (fun h => ?_)⟩
  · have h : limR l m = false := by simpa using h
    have e1 : matO a b l m = [] := by rw [matO, h]; rfl
    have e2 : errO l m = 1 := by rw [errO, h]; rfl
    refine QC.nil1 (e := paS) (et := 26) ?_ ?_ (by decide)
    · show [SV.win true paS 0 0 (matO a b l m).length, SV.int .i64 (errO l m)] = _
      rw [e1, e2]; rfl
    · show [LB.row 26 paS (matO a b l m)] = _
      rw [e1]
  · have h : limR l m = true := by simpa using h
    have e1 : matO a b l m = matF b (firstM a l m) 0 (blks b l.toNat m.toNat) := by rw [matO, h]; rfl
    have e2 : errO l m = 0 := by rw [errO, h]; rfl
    have hlim : 4 ≤ l ∧ l ≤ m ∧ m ≤ 4096 := of_decide_eq_true h
    have hlen : (blks b l.toNat m.toNat).length ≤ b.length := blksF_len b _ _ (by omega) _ _
    refine ⟨(show preB a l m from ⟨hlim, hpa.1, hpa.2⟩), trivial, ?_⟩
    show GoodE Try.prog G0 16 Try.f16.ntmps .fn Y0 (endK tt G0 Try.f16.results.toList (QC ctMa (a, b, l, m, ()))) (hd Try.f16 0) (0, false) _
    rw [hd16]
    refine GoodE.rangeF (gf := 31) (ct := ctIt) (Ko := KX) (xi := ((b, ()), (l, ()), (m, ()), ())) (x0 := ((b, ()), ((firstM a l m, ()), (([], ()), ())))) (ns1 := [some 1110592, some 1110593, some 1110594]) (ns2 := [some 5, some 10, some 1094208, some 11, none]) (tl := [(5, .ptr 5 0), (10, .ptr 10 0), (11, .ptr 11 0)]) (bkF := bkF16) (rF := [(0, BIG + 4), (1, BIG + 2)]) (d := 21) (m := 4)
      (by simp) ?_ it_held rfl rfl rfl ?_ ⟨hlim, hp1, hp2⟩ ⟨rfl, rfl, rfl, trivial⟩ rfl ?_ (by decide) ⟨by decide, by decide, rfl⟩ rfl ?_ (by decide) ?_
    · exact fun args w => callFunc_enter (fn := Try.f31) rfl rfl rfl args w
    · exact fun c hc => by cases hc
    · exact fun c hc => by cases hc
    · exact fun x hx => ⟨⟨rfl, rfl, rfl, rfl, rfl, trivial⟩, by simp [bkF16, rho, lk, BIG], fun p hp hb => (by
        simp only [bkF16, List.mem_cons, List.not_mem_nil, or_false] at hp
        rcases hp with rfl | rfl | rfl | rfl | rfl
        · exact ⟨rfl, rfl⟩
        · exact ⟨rfl, rfl⟩
        · exact absurd hb (show ¬ BIG ≤ 1 by decide)
        · exact ⟨rfl, rfl⟩
        · exact absurd hb (show ¬ BIG ≤ 0 by decide)), by kernel_rfl⟩
    · refine ma_rounds _ [] 0 (fun r hr => ?_) ?_ ?_
      · have := blksF_in (b := b) (l := l.toNat) (m := m.toNat) (by omega) _ _ r hr
        omega
      · show 0 + (blks b l.toNat m.toNat).length < 2 ^ 30
        omega
      · exact (ma_end (o := matF b (firstM a l m) 0 (blks b l.toNat m.toNat)) e1.symm e2).only ⟨by kernel_rfl, trivial⟩ ⟨by kernel_rfl, by kernel_rfl, trivial⟩
theorem ma_held : Held Try.prog G0 16 ctMa := Held.run dx6 (fn := Try.f16) rfl rfl ⟨by decide, by decide⟩ fun x hp => ma_run x.1 x.2.1 x.2.2.1 x.2.2.2.1 hp.1 hp.2
abbrev D7 : CV := (16, .inl ctMa) :: D6
theorem dx7 : CxOK Try.prog tt G0 D7 := dx6.cons ma_held (fn := Try.f16) rfl rfl rfl
end Go.Proofs.Ytgffokpiklnpmaa
namespace Go.Proofs.Ytgffokpiklnpmaa
open Go.Px Go.Ax
attribute [local irreducible] Go.Px.sy Go.Px.syE
/-- Whether two lists are equal, from a place on. -/
def eqFrom {α : Type} [DecidableEq α] (a b : List α) (i : Nat) : Bool := decide (a.drop i = b.drop i)
theorem eqFrom_step {α : Type} [DecidableEq α] {a b : List α} {i : Nat} (h1 : i < a.length) (h2 : i < b.length) : eqFrom a b i = (decide (a[i] = b[i]) && eqFrom a b (i + 1)) := by
  unfold eqFrom
  rw [dropc h1, dropc h2]
  by_cases h : a[i] = b[i]
  · rw [decide_eq_true h, Bool.true_and, decide_eq_decide, h]
    exact ⟨fun q => (List.cons.inj q).2, fun q => by rw [q]⟩
  · rw [decide_eq_false h, Bool.false_and]
    exact decide_eq_false fun q => h (List.cons.inj q).1
theorem eqFrom_end {α : Type} [DecidableEq α] {a b : List α} {i : Nat} (h1 : a.length ≤ i) (h2 : b.length ≤ i) : eqFrom a b i = true := by
  unfold eqFrom
  rw [List.drop_eq_nil_of_le h1, List.drop_eq_nil_of_le h2]; simp
theorem ne_false {p : Prop} [Decidable p] (h : decide p = false) : ¬ p := of_decide_eq_false h
def eqI (a b : List Int) : Bool := decide (a = b)
def eqR (a b : List (Int × Int)) : Bool := decide (a = b)
def eqP (a b : List (List Int)) : Bool := decide (a = b)
def preLn (n : Nat) : Prop := n < 2 ^ 62
def ctInts : Ctr := ⟨[slI, slI], fun x => preLn (List.length x.1), fun x => [.bool (eqI x.1 x.2.1)], fun _ => []⟩
def ctRngs : Ctr := ⟨[.sl rgS, .sl rgS], fun x => preLn (List.length x.1), fun x => [.bool (eqR x.1 x.2.1)], fun _ => []⟩
def ctPrs : Ctr := ⟨[.sl paS, .sl paS], fun x => preLn (List.length x.1), fun x => [.bool (eqP x.1 x.2.1)], fun _ => []⟩
def ctSame : Ctr := ⟨[slB, slB], fun x => preLn (List.length x.1), fun x => [.bool (eqI x.1 x.2.1)], fun _ => []⟩
theorem ints_loop {a b : List Int} (hl : a.length < 2 ^ 62) (hb : b.length = a.length) : ∀ (k i : Nat), a.length - i ≤ k → i ≤ a.length →
    GD 18 Try.f18 (fun rs _ => rs = [.bool (eqFrom a b i)]) (hd Try.f18 0) ⟨[(0, .sl (.int .i64) a), (1, .sl (.int .i64) b), (5, .int .i64 (i : Nat))], []⟩ := by
  intro k
  induction k with
  | zero =>
    intro i hk hi
    refine sy_goK cx0 (vc_intsL _ _ _ _ _) ?_
    rw [decide_eq_false (by omega), bc_f, eqFrom_end (by omega) (by omega)]
  | succ k ih =>
    intro i hk hi
    refine sy_goK cx0 (vc_intsL _ _ _ _ _) ?_
    by_cases h : i < a.length
    · have h2 : i < b.length := by omega
      have e1 : gt ((.int .i64) : Sh) a (i : Int).toNat = a[i] := gtE h
      have e2 : gt ((.int .i64) : Sh) b (i : Int).toNat = b[i] := gtE h2
      rw [decide_eq_true (show (i : Int) < (a.length : Int) by omega), bc_t, IntWalk.i64_in ((i : Int) + 1) (by omega), e1, e2]
      refine ⟨by omega, by omega, by omega, by omega, bc_of (fun q => ?_) (fun q => ?_)⟩
      · have q := of_decide_eq_true q
        rw [eqFrom_step h h2, decide_eq_false q]; rfl
      · have q : a[i] = b[i] := Classical.not_not.1 (of_decide_eq_false q)
        rw [eqFrom_step h h2, decide_eq_true q, Bool.true_and]
        exact ih (i + 1) (by omega) (by omega)
    · rw [decide_eq_false (by omega), bc_f, eqFrom_end (by omega) (by omega)]
theorem ints_run (a b : List Int) (hp : preLn a.length) : sy tt G0 [] Try.f18.ntmps Try.f18.results.toList (QC ctInts (a, b, ())) (Px.Good Try.prog tt G0 18 Try.f18.ntmps Try.f18.results.toList (QC ctInts (a, b, ()))) 1000 [.code (bodyOf Try.f18)] (entry [slI, slI] (a, b, ())) := by
  rw [vc_ints]
  refine bc_of (fun h => QC.flat ?_ rfl rfl) (fun h => ?_)
  · have h : (a.length : Int) ≠ b.length := of_decide_eq_true h
    show [SV.bool (eqI a b)] = _
    rw [eqI, decide_eq_false (fun e => h (by rw [e]))]
  · have h : (a.length : Int) = b.length := Classical.not_not.1 (of_decide_eq_false h)
    exact ((ints_loop hp (by omega) _ 0 (Nat.le_refl _) (Nat.zero_le _)).post fun rs blk hq => QC.flat (by rw [hq]; rfl) rfl (by rw [hq]; rfl)).only ⟨rfl, rfl, rfl, trivial⟩ trivial
theorem ints_held : Held Try.prog G0 18 ctInts := Held.run cx0 (fn := Try.f18) rfl rfl ⟨by decide, by decide⟩ fun x hp => ints_run x.1 x.2.1 hp
theorem same_loop {a b : List Int} (hl : a.length < 2 ^ 62) (hb : b.length = a.length) : ∀ (k i : Nat), a.length - i ≤ k → i ≤ a.length →
    GD 23 Try.f23 (fun rs _ => rs = [.bool (eqFrom a b i)]) (hd Try.f23 0) ⟨[(0, .sl (.int .u8) a), (1, .sl (.int .u8) b), (5, .int .i64 (i : Nat))], []⟩ := by
  intro k
  induction k with
  | zero =>
    intro i hk hi
    refine sy_goK cx0 (vc_sameL _ _ _ _ _) ?_
    rw [decide_eq_false (by omega), bc_f, eqFrom_end (by omega) (by omega)]
  | succ k ih =>
    intro i hk hi
    refine sy_goK cx0 (vc_sameL _ _ _ _ _) ?_
    by_cases h : i < a.length
    · have h2 : i < b.length := by omega
      have e1 : gt ((.int .u8) : Sh) a (i : Int).toNat = a[i] := gtE h
      have e2 : gt ((.int .u8) : Sh) b (i : Int).toNat = b[i] := gtE h2
      rw [decide_eq_true (show (i : Int) < (a.length : Int) by omega), bc_t, IntWalk.i64_in ((i : Int) + 1) (by omega), e1, e2]
      refine ⟨by omega, by omega, by omega, by omega, bc_of (fun q => ?_) (fun q => ?_)⟩
      · have q := of_decide_eq_true q
        rw [eqFrom_step h h2, decide_eq_false q]; rfl
      · have q : a[i] = b[i] := Classical.not_not.1 (of_decide_eq_false q)
        rw [eqFrom_step h h2, decide_eq_true q, Bool.true_and]
        exact ih (i + 1) (by omega) (by omega)
    · rw [decide_eq_false (by omega), bc_f, eqFrom_end (by omega) (by omega)]
theorem same_run (a b : List Int) (hp : preLn a.length) : sy tt G0 [] Try.f23.ntmps Try.f23.results.toList (QC ctSame (a, b, ())) (Px.Good Try.prog tt G0 23 Try.f23.ntmps Try.f23.results.toList (QC ctSame (a, b, ()))) 1000 [.code (bodyOf Try.f23)] (entry [slB, slB] (a, b, ())) := by
  rw [vc_same]
  refine bc_of (fun h => QC.flat ?_ rfl rfl) (fun h => ?_)
  · have h : (a.length : Int) ≠ b.length := of_decide_eq_true h
    show [SV.bool (eqI a b)] = _
    rw [eqI, decide_eq_false (fun e => h (by rw [e]))]
  · have h : (a.length : Int) = b.length := Classical.not_not.1 (of_decide_eq_false h)
    exact ((same_loop hp (by omega) _ 0 (Nat.le_refl _) (Nat.zero_le _)).post fun rs blk hq => QC.flat (by rw [hq]; rfl) rfl (by rw [hq]; rfl)).only ⟨rfl, rfl, rfl, trivial⟩ trivial
theorem same_held : Held Try.prog G0 23 ctSame := Held.run cx0 (fn := Try.f23) rfl rfl ⟨by decide, by decide⟩ fun x hp => same_run x.1 x.2.1 hp
theorem rngs_loop {a b : List (Int × Int)} (hl : a.length < 2 ^ 62) (hb : b.length = a.length) : ∀ (k i : Nat), a.length - i ≤ k → i ≤ a.length →
    GD 19 Try.f19 (fun rs _ => rs = [.bool (eqFrom a b i)]) (hd Try.f19 0) ⟨[(0, .sl rgS a), (1, .sl rgS b), (5, .int .i64 (i : Nat))], []⟩ := by
  intro k
  induction k with
  | zero =>
    intro i hk hi
    refine sy_goK cx0 (vc_rngsL _ _ _ _ _) ?_
    rw [decide_eq_false (by omega), bc_f, eqFrom_end (by omega) (by omega)]
  | succ k ih =>
    intro i hk hi
    refine sy_goK cx0 (vc_rngsL _ _ _ _ _) ?_
    by_cases h : i < a.length
    · have h2 : i < b.length := by omega
      have e1 : gt (rgS : Sh) a (i : Int).toNat = a[i] := gtE h
      have e2 : gt (rgS : Sh) b (i : Int).toNat = b[i] := gtE h2
      rw [decide_eq_true (show (i : Int) < (a.length : Int) by omega), bc_t, IntWalk.i64_in ((i : Int) + 1) (by omega), e1, e2]
      refine ⟨by omega, by omega, by omega, by omega, bc_of (fun q => ?_) (fun q => ?_)⟩
      · have q : ¬ a[i] = b[i] := by
          exact fun e => by rw [e] at q; simp at q
        rw [eqFrom_step h h2, decide_eq_false q]; rfl
      · have q : a[i] = b[i] := by
          have q : decide ([(a[i] : Int × Int).1, (a[i] : Int × Int).2] = [(b[i] : Int × Int).1, (b[i] : Int × Int).2]) = true := by simpa using q
          have q := of_decide_eq_true q
          injection q with q1 q2
          injection q2 with q2
          exact Prod.ext q1 q2
        rw [eqFrom_step h h2, decide_eq_true q, Bool.true_and]
        exact ih (i + 1) (by omega) (by omega)
    · rw [decide_eq_false (by omega), bc_f, eqFrom_end (by omega) (by omega)]
theorem rngs_run (a b : List (Int × Int)) (hp : preLn a.length) : sy tt G0 [] Try.f19.ntmps Try.f19.results.toList (QC ctRngs (a, b, ())) (Px.Good Try.prog tt G0 19 Try.f19.ntmps Try.f19.results.toList (QC ctRngs (a, b, ()))) 1000 [.code (bodyOf Try.f19)] (entry [.sl rgS, .sl rgS] (a, b, ())) := by
  rw [vc_rngs]
  refine bc_of (fun h => QC.flat ?_ rfl rfl) (fun h => ?_)
  · have h : (a.length : Int) ≠ b.length := of_decide_eq_true h
    show [SV.bool (eqR a b)] = _
    rw [eqR, decide_eq_false (fun e => h (by rw [e]))]
  · have h : (a.length : Int) = b.length := Classical.not_not.1 (of_decide_eq_false h)
    exact ((rngs_loop hp (by omega) _ 0 (Nat.le_refl _) (Nat.zero_le _)).post fun rs blk hq => QC.flat (by rw [hq]; rfl) rfl (by rw [hq]; rfl)).only ⟨rfl, rfl, rfl, trivial⟩ trivial
theorem rngs_held : Held Try.prog G0 19 ctRngs := Held.run cx0 (fn := Try.f19) rfl rfl ⟨by decide, by decide⟩ fun x hp => rngs_run x.1 x.2.1 hp
theorem prs_loop {a b : List (List Int)} (hl : a.length < 2 ^ 62) (hb : b.length = a.length) : ∀ (k i : Nat), a.length - i ≤ k → i ≤ a.length →
    GD 20 Try.f20 (fun rs _ => rs = [.bool (eqFrom a b i)]) (hd Try.f20 0) ⟨[(0, .sl paS a), (1, .sl paS b), (5, .int .i64 (i : Nat))], []⟩ := by
  intro k
  induction k with
  | zero =>
    intro i hk hi
    refine sy_goK cx0 (vc_prsL _ _ _ _ _) ?_
    rw [decide_eq_false (by omega), bc_f, eqFrom_end (by omega) (by omega)]
  | succ k ih =>
    intro i hk hi
    refine sy_goK cx0 (vc_prsL _ _ _ _ _) ?_
    by_cases h : i < a.length
    · have h2 : i < b.length := by omega
      have e1 : gt (paS : Sh) a (i : Int).toNat = a[i] := gtE h
      have e2 : gt (paS : Sh) b (i : Int).toNat = b[i] := gtE h2
      rw [decide_eq_true (show (i : Int) < (a.length : Int) by omega), bc_t, IntWalk.i64_in ((i : Int) + 1) (by omega), e1, e2]
      refine ⟨by omega, by omega, by omega, by omega, bc_of (fun q => ?_) (fun q => ?_)⟩
      · have q : ¬ a[i] = b[i] := by
          exact fun e => by rw [decide_eq_true e] at q; cases q
        rw [eqFrom_step h h2, decide_eq_false q]; rfl
      · have q : a[i] = b[i] := by
          exact Classical.not_not.1 fun e => by rw [decide_eq_false e] at q; cases q
        rw [eqFrom_step h h2, decide_eq_true q, Bool.true_and]
        exact ih (i + 1) (by omega) (by omega)
    · rw [decide_eq_false (by omega), bc_f, eqFrom_end (by omega) (by omega)]
theorem prs_run (a b : List (List Int)) (hp : preLn a.length) : sy tt G0 [] Try.f20.ntmps Try.f20.results.toList (QC ctPrs (a, b, ())) (Px.Good Try.prog tt G0 20 Try.f20.ntmps Try.f20.results.toList (QC ctPrs (a, b, ()))) 1000 [.code (bodyOf Try.f20)] (entry [.sl paS, .sl paS] (a, b, ())) := by
  rw [vc_prs]
  refine bc_of (fun h => QC.flat ?_ rfl rfl) (fun h => ?_)
  · have h : (a.length : Int) ≠ b.length := of_decide_eq_true h
    show [SV.bool (eqP a b)] = _
    rw [eqP, decide_eq_false (fun e => h (by rw [e]))]
  · have h : (a.length : Int) = b.length := Classical.not_not.1 (of_decide_eq_false h)
    exact ((prs_loop hp (by omega) _ 0 (Nat.le_refl _) (Nat.zero_le _)).post fun rs blk hq => QC.flat (by rw [hq]; rfl) rfl (by rw [hq]; rfl)).only ⟨rfl, rfl, rfl, trivial⟩ trivial
theorem prs_held : Held Try.prog G0 20 ctPrs := Held.run cx0 (fn := Try.f20) rfl rfl ⟨by decide, by decide⟩ fun x hp => prs_run x.1 x.2.1 hp
abbrev D8 : CV := (18, .inl ctInts) :: (19, .inl ctRngs) :: (20, .inl ctPrs) :: (23, .inl ctSame) :: D7
theorem dx8 : CxOK Try.prog tt G0 D8 := (((dx7.cons same_held (fn := Try.f23) rfl rfl rfl).cons prs_held (fn := Try.f20) rfl rfl rfl).cons rngs_held (fn := Try.f19) rfl rfl rfl).cons ints_held (fn := Try.f18) rfl rfl rfl
end Go.Proofs.Ytgffokpiklnpmaa
