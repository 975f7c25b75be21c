/-
  A part of the proof: what pieces of the program give; conditions: those of each theorem.
-/
import Derived.Test.YthcjddhlindopaaHD
import Derived.Test.YthcjddhlindopaaProg
import Derived.KernelRfl
set_option linter.unusedVariables false
namespace Go.Proofs.Ythcjddhlindopaa
open Go.Px Go.Ax
def tyL : List (Nat × (Nat × Nat × Bool × TK × Sh × Option IntKind)) := [
  (1, (1, 8, false, .other, .unit, none)),
  (2, (1, 8, false, (.int .i64), (.int .i64), none)),
  (3, (1, 8, false, (.int .i64), (.int .i64), none)),
  (4, (1, 1, false, .bool, .bool, none)),
  (5, (1, 1, false, (.int .u8), (.int .u8), none)),
  (6, (1, 1, false, (.int .u8), (.int .u8), none)),
  (7, (4, 24, true, (.struct [(0, 2), (1, 3), (2, 4), (3, 6)]), (.pair (.int .i64) (.pair (.int .i64) (.pair .bool (.int .u8)))), none)),
  (8, (4, 24, true, (.struct [(0, 2), (1, 3), (2, 4), (3, 6)]), (.pair (.int .i64) (.pair (.int .i64) (.pair .bool (.int .u8)))), none)),
  (9, (1, 16, false, .str, .str, none)),
  (10, (1, 16, false, .str, .str, none)),
  (11, (1, 16, false, .str, .str, none)),
  (12, (1, 8, false, (.int .u64), (.int .u64), none)),
  (13, (2, 24, true, (.struct [(0, 9), (1, 12)]), (.pair .str (.int .u64)), none)),
  (14, (2, 24, true, (.struct [(0, 9), (1, 12)]), (.pair .str (.int .u64)), none)),
  (21, (1, 4, false, (.int .i32), (.int .i32), none)),
  (22, (1, 24, false, (.slice 66), (.sl (.pair (.int .u8) (.pair (.int .u8) (.pair (.int .u8) .bool)))), none)),
  (23, (1, 24, false, (.slice 57), (.sl (.pair (.int .i64) (.int .i64))), none)),
  (24, (1, 8, false, .other, .unit, none)),
  (25, (1, 24, false, (.slice 48), (.sl (.pair .str (.pair (.int .i64) (.pair (.int .i64) .bool)))), none)),
  (26, (1, 8, false, .other, .unit, none)),
  (27, (1, 24, false, (.slice 5), (.sl (.int .u8)), none)),
  (28, (1, 8, false, .other, .unit, none)),
  (29, (1, 8, false, .other, .unit, none)),
  (30, (1, 8, false, .other, .unit, none)),
  (31, (2, 2, true, (.array 2 5), (.arr 2 (.int .u8)), (some .u8))),
  (32, (1, 24, false, (.slice 31), (.sl (.arr 2 (.int .u8))), none)),
  (33, (1, 8, false, (.int .i64), (.int .i64), none)),
  (35, (1, 8, false, .other, .unit, none)),
  (37, (1, 8, false, .other, .unit, none)),
  (38, (1, 8, false, .other, .unit, none)),
  (39, (1, 8, false, .other, .unit, none)),
  (40, (1, 8, false, .other, .unit, none)),
  (41, (1, 8, false, .other, .unit, none)),
  (42, (1, 8, false, .other, .unit, none)),
  (43, (1, 8, false, .other, .unit, none)),
  (44, (1, 8, false, .other, .unit, none)),
  (45, (1, 2, false, (.int .i16), (.int .i16), none)),
  (46, (3, 6, true, (.array 3 45), (.arr 3 (.int .i16)), (some .i16))),
  (47, (4, 40, true, (.struct [(0, 9), (1, 3), (2, 3), (3, 4)]), (.pair .str (.pair (.int .i64) (.pair (.int .i64) .bool))), none)),
  (48, (4, 40, true, (.struct [(0, 9), (1, 3), (2, 3), (3, 4)]), (.pair .str (.pair (.int .i64) (.pair (.int .i64) .bool))), none)),
  (49, (1, 2, false, (.int .u16), (.int .u16), none)),
  (50, (1, 8, false, .other, .unit, none)),
  (51, (1, 8, false, .other, .unit, none)),
  (52, (2, 48, true, (.array 2 22), (.arr 2 (.sl (.pair (.int .u8) (.pair (.int .u8) (.pair (.int .u8) .bool))))), none)),
  (53, (1, 8, false, .other, .unit, none)),
  (54, (1, 8, false, .other, .unit, none)),
  (55, (1, 8, false, .other, .unit, none)),
  (56, (2, 16, true, (.struct [(0, 3), (1, 3)]), (.pair (.int .i64) (.int .i64)), (some .i64))),
  (57, (2, 16, true, (.struct [(0, 3), (1, 3)]), (.pair (.int .i64) (.int .i64)), (some .i64))),
  (58, (1, 8, false, .other, .unit, none)),
  (59, (1, 8, false, .other, .unit, none)),
  (60, (1, 8, false, .other, .unit, none)),
  (61, (1, 8, false, .other, .unit, none)),
  (62, (1, 8, false, .other, .unit, none)),
  (63, (1, 8, false, .other, .unit, none)),
  (64, (1, 24, false, (.slice 9), (.sl .str), none)),
  (65, (4, 4, true, (.struct [(0, 5), (1, 5), (2, 5), (3, 4)]), (.pair (.int .u8) (.pair (.int .u8) (.pair (.int .u8) .bool))), none)),
  (66, (4, 4, true, (.struct [(0, 5), (1, 5), (2, 5), (3, 4)]), (.pair (.int .u8) (.pair (.int .u8) (.pair (.int .u8) .bool))), none)),
  (67, (1, 8, false, .other, .unit, none)),
  (69, (1, 8, false, .other, .unit, none)),
  (70, (1, 8, false, .other, .unit, none)),
  (71, (1, 8, false, .other, .unit, none)),
  (72, (1, 8, false, .other, .unit, none)),
  (74, (1, 8, false, .other, .unit, none)),
  (75, (1, 8, false, (.int .u64), (.int .u64), none)),
  (76, (1, 8, false, .other, .unit, none)),
  (77, (1, 8, false, .other, .unit, none)),
  (78, (1, 8, false, .other, .unit, none)),
  (79, (1, 8, false, .other, .unit, none)),
  (80, (1, 8, false, .other, .unit, none)),
  (81, (1, 8, false, .other, .unit, none)),
  (83, (1, 8, false, .other, .unit, none)),
  (84, (1, 8, false, .other, .unit, none)),
  (85, (1, 8, false, .other, .unit, none)),
  (86, (1, 8, false, .other, .unit, none)),
  (87, (1, 8, false, .other, .unit, none)),
  (88, (1, 8, false, .other, .unit, none)),
  (94, (1, 8, false, .other, .unit, none)),
  (95, (1, 4, false, (.int .u32), (.int .u32), none)),
  (96, (1, 1, false, (.int .u8), (.int .u8), none)),
  (97, (1, 1, false, (.int .u8), (.int .u8), none)),
  (98, (1, 8, false, .other, .unit, none)),
  (100, (1, 4, false, (.int .i32), (.int .i32), none)),
  (101, (1, 4, false, (.int .i32), (.int .i32), none))]
abbrev tt : TT := ttOf tyL
set_option maxRecDepth 100000 in
theorem tyOK : ttB Try.prog tyL = true := by decide +kernel
theorem ty : TTOK Try.prog tt := ttB_ok tyOK
theorem mixed : Try.prog.follows .mixedOrders = true := by decide +kernel
def G0 : GV := ⟨[], .nil⟩
theorem cx0 : CxOK Try.prog tt G0 [] := CxOK.nil ty mixed
end Go.Proofs.Ythcjddhlindopaa
namespace Go.Proofs.Ythcjddhlindopaa
open Go.Px Go.Ax
abbrev iI : Sh := .int .i64
abbrev seS : Sh := .pair .str (.pair (.int .i64) (.pair (.int .i64) .bool))
abbrev rwS : Sh := .pair (.int .u8) (.pair (.int .u8) (.pair (.int .u8) .bool))
set_option maxRecDepth 100000
theorem vc_find (l : List (seS.D)) (at_ : Int) (Q : List SV → List (Nat × LB) → Prop) (R : List Item → PS → Prop) : sy tt G0 [] Try.f23.ntmps Try.f23.results.toList Q R 1000 [.code (bodyOf Try.f23)] (entry [.sl seS, iI] (l, at_, ())) =
    (R (hd Try.f23 (0 : Nat))
 {
 env :=
 [((0 : Nat), SV.sl (Sh.str.pair ((Sh.int IntKind.i64).pair ((Sh.int IntKind.i64).pair Sh.bool))) l),
 ((1 : Nat), SV.int IntKind.i64 at_), ((4 : Nat), SV.int IntKind.i64 (0 : Int)),
 ((7 : Nat), SV.sl (Sh.str.pair ((Sh.int IntKind.i64).pair ((Sh.int IntKind.i64).pair Sh.bool))) l),
 ((8 : Nat), SV.int IntKind.i64 (↑l.length : Int)), ((9 : Nat), SV.int IntKind.i64 (0 : Int))],
 blk := [] }) := by kernel_rfl
theorem vc_findL (l : List (seS.D)) (at_ i : Int) (Q : List SV → List (Nat × LB) → Prop) (R : List Item → PS → Prop) : sy tt G0 [] Try.f23.ntmps Try.f23.results.toList Q (fun it S => R it (keepS [1, 7, 8, 9] [] S)) 1000 (hd Try.f23 0) ⟨[(1, .int .i64 at_), (7, .sl seS l), (8, .int .i64 l.length), (9, .int .i64 i)], []⟩ =
    (bc (decide (i < (↑l.length : Int)))
 ((0 : Int) ≤ i ∧
 i < (↑l.length : Int) ∧
 bc
 (decide
 ((gt (Sh.str.pair ((Sh.int IntKind.i64).pair ((Sh.int IntKind.i64).pair Sh.bool))) l i.toNat).snd.fst ≤ at_))
 (bc
 (bif true then
 decide
 (at_ <
 (gt (Sh.str.pair ((Sh.int IntKind.i64).pair ((Sh.int IntKind.i64).pair Sh.bool))) l
 i.toNat).snd.snd.fst)
 else false)
 (Q [SV.int IntKind.i64 i]
 [((6 : Nat),
 LB.var
 [SV.str
 (gt (Sh.str.pair ((Sh.int IntKind.i64).pair ((Sh.int IntKind.i64).pair Sh.bool))) l i.toNat).fst,
 SV.int IntKind.i64
 (gt (Sh.str.pair ((Sh.int IntKind.i64).pair ((Sh.int IntKind.i64).pair Sh.bool))) l
 i.toNat).snd.fst,
 SV.int IntKind.i64
 (gt (Sh.str.pair ((Sh.int IntKind.i64).pair ((Sh.int IntKind.i64).pair Sh.bool))) l
 i.toNat).snd.snd.fst,
 SV.bool
 (gt (Sh.str.pair ((Sh.int IntKind.i64).pair ((Sh.int IntKind.i64).pair Sh.bool))) l
 i.toNat).snd.snd.snd])])
 (R (hd Try.f23 (0 : Nat))
 {
 env :=
 [((1 : Nat), SV.int IntKind.i64 at_),
 ((7 : Nat), SV.sl (Sh.str.pair ((Sh.int IntKind.i64).pair ((Sh.int IntKind.i64).pair Sh.bool))) l),
 ((8 : Nat), SV.int IntKind.i64 (↑l.length : Int)),
 ((9 : Nat), SV.int IntKind.i64 (IntKind.i64.wrap (i + (1 : Int))))],
 blk := [] }))
 (false = false ∧
 R (hd Try.f23 (0 : Nat))
 {
 env :=
 [((1 : Nat), SV.int IntKind.i64 at_),
 ((7 : Nat), SV.sl (Sh.str.pair ((Sh.int IntKind.i64).pair ((Sh.int IntKind.i64).pair Sh.bool))) l),
 ((8 : Nat), SV.int IntKind.i64 (↑l.length : Int)),
 ((9 : Nat), SV.int IntKind.i64 (IntKind.i64.wrap (i + (1 : Int))))],
 blk := [] }))
 (Q [SV.int IntKind.i64 (-1 : Int)] [])) := by kernel_rfl
theorem vc_mk (l : List (rwS.D)) (n : Int) (Q : List SV → List (Nat × LB) → Prop) (R : List Item → PS → Prop) : sy tt G0 [] Try.f11.ntmps Try.f11.results.toList Q R 1000 [.code (bodyOf Try.f11)] (entry [.sl rwS, iI] (l, n, ())) =
    (R (hd Try.f11 (0 : Nat))
 {
 env :=
 [((0 : Nat), SV.sl ((Sh.int IntKind.u8).pair ((Sh.int IntKind.u8).pair ((Sh.int IntKind.u8).pair Sh.bool))) l),
 ((1 : Nat), SV.int IntKind.i64 n), ((4 : Nat), SV.nils),
 ((5 : Nat), SV.win true Sh.str (10 : Nat) (0 : Nat) (8 : Nat)),
 ((6 : Nat),
 SV.win true (Sh.str.pair ((Sh.int IntKind.i64).pair ((Sh.int IntKind.i64).pair Sh.bool))) (11 : Nat) (0 : Nat)
 (0 : Nat)),
 ((7 : Nat), SV.int IntKind.i64 (0 : Int)), ((8 : Nat), SV.int IntKind.i64 (0 : Int)),
 ((10 : Nat), SV.win true Sh.str (10 : Nat) (0 : Nat) (8 : Nat)),
 ((11 : Nat),
 SV.win true (Sh.str.pair ((Sh.int IntKind.i64).pair ((Sh.int IntKind.i64).pair Sh.bool))) (11 : Nat) (0 : Nat)
 (0 : Nat))],
 blk :=
 [((10 : Nat),
 LB.row (9 : Nat) Sh.str
 (((((((((List.replicate (8 : Nat) Sh.str.dflt).set (0 : Nat)
 (ByteArray.mk #[(98 : UInt8), (111 : UInt8), (111 : UInt8),
 (116 : UInt8)]).data.toList).set
 (1 : Nat)
 (ByteArray.mk #[(97 : UInt8), (112 : UInt8), (112 : UInt8)]).data.toList).set
 (2 : Nat)
 (ByteArray.mk #[(68 : UInt8), (97 : UInt8), (116 : UInt8), (97 : UInt8)]).data.toList).set
 (3 : Nat) (ByteArray.mk #[(120 : UInt8), (49 : UInt8)]).data.toList).set
 (4 : Nat)
 (ByteArray.mk #[(116 : UInt8), (97 : UInt8), (105 : UInt8), (108 : UInt8)]).data.toList).set
 (5 : Nat) (ByteArray.mk #[(99 : UInt8), (102 : UInt8), (103 : UInt8)]).data.toList).set
 (6 : Nat) (ByteArray.mk #[(65 : UInt8)]).data.toList).set
 (7 : Nat)
 (ByteArray.mk #[(116 : UInt8), (119 : UInt8), (101 : UInt8), (108 : UInt8), (118 : UInt8), (101 : UInt8),
 (108 : UInt8), (101 : UInt8), (116 : UInt8), (116 : UInt8), (101 : UInt8),
 (114 : UInt8)]).data.toList)),
 ((11 : Nat),
 LB.row (48 : Nat) (Sh.str.pair ((Sh.int IntKind.i64).pair ((Sh.int IntKind.i64).pair Sh.bool)))
 (List.replicate (0 : Nat)
 (Sh.str.pair ((Sh.int IntKind.i64).pair ((Sh.int IntKind.i64).pair Sh.bool))).dflt))] }) := by kernel_rfl
theorem vc_mkL (l : List (rwS.D)) (n at_ i : Int) (nm : List (List UInt8)) (o : List seS.D) (Q : List SV → List (Nat × LB) → Prop) (R : List Item → PS → Prop) : sy tt G0 [] Try.f11.ntmps Try.f11.results.toList Q (fun it S => R it (keepS [0, 1, 5, 6, 7, 8] [10, 11, 90] S)) 1000 (hd Try.f11 0) ⟨[(0, .sl rwS l), (1, .int .i64 n), (5, .win true .str 10 0 nm.length), (6, .win true seS 11 0 o.length), (7, .int .i64 at_), (8, .int .i64 i)], [(10, .row 9 .str nm), (11, .row 48 seS o)]⟩ =
    (bc (decide (i < (↑l.length : Int)))
 (bc (bif true then decide (i < (8 : Int)) else false)
 ((0 : Int) ≤ i ∧
 i < (↑nm.length : Int) ∧
 (0 : Nat) + i.toNat < nm.length ∧
 (0 : Int) ≤ i ∧
 i < (↑l.length : Int) ∧
 (8 : Int) ≠ (0 : Int) ∧
 (0 : Int) ≤ i ∧
 i < (↑l.length : Int) ∧
 bc
 (gt ((Sh.int IntKind.u8).pair ((Sh.int IntKind.u8).pair ((Sh.int IntKind.u8).pair Sh.bool))) l
 i.toNat).snd.snd.snd
 ((4 : Int) ≠ (0 : Int) ∧
 (0 : Int) ≤ i ∧
 i < (↑l.length : Int) ∧
 (8 : Int) ≠ (0 : Int) ∧
 bc
 (decide
 (n <
 IntKind.i64.wrap
 (IntKind.i64.wrap
 (IntKind.i64.wrap
 (IntKind.i64.wrap
 ((IntKind.i64.wrap
 (IntKind.i64.wrap
 (at_ +
 IntKind.i64.wrap
 (Int.tmod
 (gt
 ((Sh.int IntKind.u8).pair
 ((Sh.int IntKind.u8).pair
 ((Sh.int IntKind.u8).pair Sh.bool)))
 l i.toNat).fst
 (8 : Int))) +
 (3 : Int))).tdiv
 (4 : Int)) *
 (4 : Int)) +
 (4 : Int)) +
 IntKind.i64.wrap
 ((4 : Int) *
 IntKind.i64.wrap
 (Int.tmod
 (gt
 ((Sh.int IntKind.u8).pair
 ((Sh.int IntKind.u8).pair ((Sh.int IntKind.u8).pair Sh.bool)))
 l i.toNat).snd.fst
 (8 : Int))))))
 (Q
 [SV.win true
 (Sh.str.pair ((Sh.int IntKind.i64).pair ((Sh.int IntKind.i64).pair Sh.bool)))
 (11 : Nat) (0 : Nat) o.length]
 [((9 : Nat),
 LB.var
 [SV.str (gt Sh.str nm ((0 : Nat) + i.toNat)),
 SV.int IntKind.i64
 (IntKind.i64.wrap
 (IntKind.i64.wrap
 ((IntKind.i64.wrap
 (IntKind.i64.wrap
 (at_ +
 IntKind.i64.wrap
 (Int.tmod
 (gt
 ((Sh.int IntKind.u8).pair
 ((Sh.int IntKind.u8).pair
 ((Sh.int IntKind.u8).pair Sh.bool)))
 l i.toNat).fst
 (8 : Int))) +
 (3 : Int))).tdiv
 (4 : Int)) *
 (4 : Int))),
 SV.int IntKind.i64
 (IntKind.i64.wrap
 (IntKind.i64.wrap
 (IntKind.i64.wrap
 (IntKind.i64.wrap
 ((IntKind.i64.wrap
 (IntKind.i64.wrap
 (at_ +
 IntKind.i64.wrap
 (Int.tmod
 (gt
 ((Sh.int IntKind.u8).pair
 ((Sh.int IntKind.u8).pair
 ((Sh.int IntKind.u8).pair Sh.bool)))
 l i.toNat).fst
 (8 : Int))) +
 (3 : Int))).tdiv
 (4 : Int)) *
 (4 : Int)) +
 (4 : Int)) +
 IntKind.i64.wrap
 ((4 : Int) *
 IntKind.i64.wrap
 (Int.tmod
 (gt
 ((Sh.int IntKind.u8).pair
 ((Sh.int IntKind.u8).pair
 ((Sh.int IntKind.u8).pair Sh.bool)))
 l i.toNat).snd.fst
 (8 : Int))))),
 SV.bool
 (gt
 ((Sh.int IntKind.u8).pair
 ((Sh.int IntKind.u8).pair ((Sh.int IntKind.u8).pair Sh.bool)))
 l i.toNat).snd.snd.snd]),
 ((10 : Nat), LB.row (9 : Nat) Sh.str nm),
 ((11 : Nat),
 LB.row (48 : Nat)
 (Sh.str.pair ((Sh.int IntKind.i64).pair ((Sh.int IntKind.i64).pair Sh.bool)))
 o)])
 ((0 : Nat) + (1 : Nat) ≤
 ((List.replicate (1 : Nat)
 (Sh.str.pair
 ((Sh.int IntKind.i64).pair
 ((Sh.int IntKind.i64).pair Sh.bool))).dflt).set
 (0 : Nat)
 (gt Sh.str nm ((0 : Nat) + i.toNat),
 IntKind.i64.wrap
 (IntKind.i64.wrap
 ((IntKind.i64.wrap
 (IntKind.i64.wrap
 (at_ +
 IntKind.i64.wrap
 (Int.tmod
 (gt
 ((Sh.int IntKind.u8).pair
 ((Sh.int IntKind.u8).pair
 ((Sh.int IntKind.u8).pair Sh.bool)))
 l i.toNat).fst
 (8 : Int))) +
 (3 : Int))).tdiv
 (4 : Int)) *
 (4 : Int)),
 IntKind.i64.wrap
 (IntKind.i64.wrap
 (IntKind.i64.wrap
 (IntKind.i64.wrap
 ((IntKind.i64.wrap
 (IntKind.i64.wrap
 (at_ +
 IntKind.i64.wrap
 (Int.tmod
 (gt
 ((Sh.int IntKind.u8).pair
 ((Sh.int IntKind.u8).pair
 ((Sh.int IntKind.u8).pair Sh.bool)))
 l i.toNat).fst
 (8 : Int))) +
 (3 : Int))).tdiv
 (4 : Int)) *
 (4 : Int)) +
 (4 : Int)) +
 IntKind.i64.wrap
 ((4 : Int) *
 IntKind.i64.wrap
 (Int.tmod
 (gt
 ((Sh.int IntKind.u8).pair
 ((Sh.int IntKind.u8).pair
 ((Sh.int IntKind.u8).pair Sh.bool)))
 l i.toNat).snd.fst
 (8 : Int)))),
 (gt
 ((Sh.int IntKind.u8).pair
 ((Sh.int IntKind.u8).pair ((Sh.int IntKind.u8).pair Sh.bool)))
 l i.toNat).snd.snd.snd)).length ∧
 o.length = o.length ∧
 (0 : Nat) = (0 : Nat) ∧
 o.length +
 (winL
 seS
 (0 : Nat) (1 : Nat)
 ((List.replicate (1 : Nat)
 (Sh.str.pair
 ((Sh.int IntKind.i64).pair
 ((Sh.int IntKind.i64).pair Sh.bool))).dflt).set
 (0 : Nat)
 (gt Sh.str nm ((0 : Nat) + i.toNat),
 IntKind.i64.wrap
 (IntKind.i64.wrap
 ((IntKind.i64.wrap
 (IntKind.i64.wrap
 (at_ +
 IntKind.i64.wrap
 (Int.tmod
 (gt
 ((Sh.int IntKind.u8).pair
 ((Sh.int IntKind.u8).pair
 ((Sh.int IntKind.u8).pair Sh.bool)))
 l i.toNat).fst
 (8 : Int))) +
 (3 : Int))).tdiv
 (4 : Int)) *
 (4 : Int)),
 IntKind.i64.wrap
 (IntKind.i64.wrap
 (IntKind.i64.wrap
 (IntKind.i64.wrap
 ((IntKind.i64.wrap
 (IntKind.i64.wrap
 (at_ +
 IntKind.i64.wrap
 (Int.tmod
 (gt
 ((Sh.int IntKind.u8).pair
 ((Sh.int IntKind.u8).pair
 ((Sh.int IntKind.u8).pair
 Sh.bool)))
 l i.toNat).fst
 (8 : Int))) +
 (3 : Int))).tdiv
 (4 : Int)) *
 (4 : Int)) +
 (4 : Int)) +
 IntKind.i64.wrap
 ((4 : Int) *
 IntKind.i64.wrap
 (Int.tmod
 (gt
 ((Sh.int IntKind.u8).pair
 ((Sh.int IntKind.u8).pair
 ((Sh.int IntKind.u8).pair Sh.bool)))
 l i.toNat).snd.fst
 (8 : Int)))),
 (gt
 ((Sh.int IntKind.u8).pair
 ((Sh.int IntKind.u8).pair
 ((Sh.int IntKind.u8).pair Sh.bool)))
 l i.toNat).snd.snd.snd))).length <
 (2 : Nat) ^ (30 : Nat) ∧
 (40 : Nat) ≤ (2 : Nat) ^ (10 : Nat) ∧
 R (hd Try.f11 (0 : Nat))
 {
 env :=
 [((0 : Nat),
 SV.sl
 ((Sh.int IntKind.u8).pair
 ((Sh.int IntKind.u8).pair ((Sh.int IntKind.u8).pair Sh.bool)))
 l),
 ((1 : Nat), SV.int IntKind.i64 n),
 ((5 : Nat), SV.win true Sh.str (10 : Nat) (0 : Nat) nm.length),
 ((6 : Nat),
 SV.win true
 (Sh.str.pair
 ((Sh.int IntKind.i64).pair ((Sh.int IntKind.i64).pair Sh.bool)))
 (90 : Nat) (0 : Nat)
 (o.length +
 (winL
 seS
 (0 : Nat) (1 : Nat)
 ((List.replicate (1 : Nat)
 (Sh.str.pair
 ((Sh.int IntKind.i64).pair
 ((Sh.int IntKind.i64).pair Sh.bool))).dflt).set
 (0 : Nat)
 (gt Sh.str nm ((0 : Nat) + i.toNat),
 IntKind.i64.wrap
 (IntKind.i64.wrap
 ((IntKind.i64.wrap
 (IntKind.i64.wrap
 (at_ +
 IntKind.i64.wrap
 (Int.tmod
 (gt
 ((Sh.int IntKind.u8).pair
 ((Sh.int IntKind.u8).pair
 ((Sh.int IntKind.u8).pair
 Sh.bool)))
 l i.toNat).fst
 (8 : Int))) +
 (3 : Int))).tdiv
 (4 : Int)) *
 (4 : Int)),
 IntKind.i64.wrap
 (IntKind.i64.wrap
 (IntKind.i64.wrap
 (IntKind.i64.wrap
 ((IntKind.i64.wrap
 (IntKind.i64.wrap
 (at_ +
 IntKind.i64.wrap
 (Int.tmod
 (gt
 ((Sh.int
 IntKind.u8).pair
 ((Sh.int
 IntKind.u8).pair
 ((Sh.int
 IntKind.u8).pair
 Sh.bool)))
 l i.toNat).fst
 (8 : Int))) +
 (3 : Int))).tdiv
 (4 : Int)) *
 (4 : Int)) +
 (4 : Int)) +
 IntKind.i64.wrap
 ((4 : Int) *
 IntKind.i64.wrap
 (Int.tmod
 (gt
 ((Sh.int IntKind.u8).pair
 ((Sh.int IntKind.u8).pair
 ((Sh.int IntKind.u8).pair
 Sh.bool)))
 l i.toNat).snd.fst
 (8 : Int)))),
 (gt
 ((Sh.int IntKind.u8).pair
 ((Sh.int IntKind.u8).pair
 ((Sh.int IntKind.u8).pair Sh.bool)))
 l i.toNat).snd.snd.snd))).length)),
 ((7 : Nat),
 SV.int IntKind.i64
 (IntKind.i64.wrap
 (IntKind.i64.wrap
 (IntKind.i64.wrap
 (IntKind.i64.wrap
 ((IntKind.i64.wrap
 (IntKind.i64.wrap
 (at_ +
 IntKind.i64.wrap
 (Int.tmod
 (gt
 ((Sh.int IntKind.u8).pair
 ((Sh.int IntKind.u8).pair
 ((Sh.int IntKind.u8).pair
 Sh.bool)))
 l i.toNat).fst
 (8 : Int))) +
 (3 : Int))).tdiv
 (4 : Int)) *
 (4 : Int)) +
 (4 : Int)) +
 IntKind.i64.wrap
 ((4 : Int) *
 IntKind.i64.wrap
 (Int.tmod
 (gt
 ((Sh.int IntKind.u8).pair
 ((Sh.int IntKind.u8).pair
 ((Sh.int IntKind.u8).pair Sh.bool)))
 l i.toNat).snd.fst
 (8 : Int)))))),
 ((8 : Nat), SV.int IntKind.i64 (IntKind.i64.wrap (i + (1 : Int))))],
 blk :=
 [((10 : Nat), LB.row (9 : Nat) Sh.str nm),
 ((90 : Nat),
 LB.row (48 : Nat)
 (Sh.str.pair
 ((Sh.int IntKind.i64).pair ((Sh.int IntKind.i64).pair Sh.bool)))
 (o ++
 winL
 (Sh.str.pair
 ((Sh.int IntKind.i64).pair
 ((Sh.int IntKind.i64).pair Sh.bool)))
 (0 : Nat) (1 : Nat)
 ((List.replicate (1 : Nat)
 (Sh.str.pair
 ((Sh.int IntKind.i64).pair
 ((Sh.int IntKind.i64).pair Sh.bool))).dflt).set
 (0 : Nat)
 (gt Sh.str nm ((0 : Nat) + i.toNat),
 IntKind.i64.wrap
 (IntKind.i64.wrap
 ((IntKind.i64.wrap
 (IntKind.i64.wrap
 (at_ +
 IntKind.i64.wrap
 (Int.tmod
 (gt
 ((Sh.int IntKind.u8).pair
 ((Sh.int IntKind.u8).pair
 ((Sh.int IntKind.u8).pair
 Sh.bool)))
 l i.toNat).fst
 (8 : Int))) +
 (3 : Int))).tdiv
 (4 : Int)) *
 (4 : Int)),
 IntKind.i64.wrap
 (IntKind.i64.wrap
 (IntKind.i64.wrap
 (IntKind.i64.wrap
 ((IntKind.i64.wrap
 (IntKind.i64.wrap
 (at_ +
 IntKind.i64.wrap
 (Int.tmod
 (gt
 ((Sh.int
 IntKind.u8).pair
 ((Sh.int
 IntKind.u8).pair
 ((Sh.int
 IntKind.u8).pair
 Sh.bool)))
 l i.toNat).fst
 (8 : Int))) +
 (3 : Int))).tdiv
 (4 : Int)) *
 (4 : Int)) +
 (4 : Int)) +
 IntKind.i64.wrap
 ((4 : Int) *
 IntKind.i64.wrap
 (Int.tmod
 (gt
 ((Sh.int IntKind.u8).pair
 ((Sh.int IntKind.u8).pair
 ((Sh.int IntKind.u8).pair Sh.bool)))
 l i.toNat).snd.fst
 (8 : Int)))),
 (gt
 ((Sh.int IntKind.u8).pair
 ((Sh.int IntKind.u8).pair
 ((Sh.int IntKind.u8).pair Sh.bool)))
 l i.toNat).snd.snd.snd))))] }))
 ((0 : Int) ≤ i ∧
 i < (↑l.length : Int) ∧
 (8 : Int) ≠ (0 : Int) ∧
 (0 : Int) ≤ i ∧
 i < (↑l.length : Int) ∧
 (4 : Int) ≠ (0 : Int) ∧
 bc
 (decide
 (n <
 IntKind.i64.wrap
 (IntKind.i64.wrap
 (IntKind.i64.wrap
 (IntKind.i64.wrap
 (at_ +
 IntKind.i64.wrap
 (Int.tmod
 (gt
 ((Sh.int IntKind.u8).pair
 ((Sh.int IntKind.u8).pair
 ((Sh.int IntKind.u8).pair Sh.bool)))
 l i.toNat).fst
 (8 : Int))) +
 (1 : Int)) +
 IntKind.i64.wrap
 ((4 : Int) *
 IntKind.i64.wrap
 (Int.tmod
 (gt
 ((Sh.int IntKind.u8).pair
 ((Sh.int IntKind.u8).pair
 ((Sh.int IntKind.u8).pair Sh.bool)))
 l i.toNat).snd.fst
 (8 : Int)))) +
 IntKind.i64.wrap
 (Int.tmod
 (gt
 ((Sh.int IntKind.u8).pair
 ((Sh.int IntKind.u8).pair ((Sh.int IntKind.u8).pair Sh.bool)))
 l i.toNat).snd.snd.fst
 (4 : Int)))))
 (Q
 [SV.win true
 (Sh.str.pair ((Sh.int IntKind.i64).pair ((Sh.int IntKind.i64).pair Sh.bool)))
 (11 : Nat) (0 : Nat) o.length]
 [((9 : Nat),
 LB.var
 [SV.str (gt Sh.str nm ((0 : Nat) + i.toNat)),
 SV.int IntKind.i64
 (IntKind.i64.wrap
 (at_ +
 IntKind.i64.wrap
 (Int.tmod
 (gt
 ((Sh.int IntKind.u8).pair
 ((Sh.int IntKind.u8).pair
 ((Sh.int IntKind.u8).pair Sh.bool)))
 l i.toNat).fst
 (8 : Int)))),
 SV.int IntKind.i64
 (IntKind.i64.wrap
 (IntKind.i64.wrap
 (IntKind.i64.wrap
 (IntKind.i64.wrap
 (at_ +
 IntKind.i64.wrap
 (Int.tmod
 (gt
 ((Sh.int IntKind.u8).pair
 ((Sh.int IntKind.u8).pair
 ((Sh.int IntKind.u8).pair Sh.bool)))
 l i.toNat).fst
 (8 : Int))) +
 (1 : Int)) +
 IntKind.i64.wrap
 ((4 : Int) *
 IntKind.i64.wrap
 (Int.tmod
 (gt
 ((Sh.int IntKind.u8).pair
 ((Sh.int IntKind.u8).pair
 ((Sh.int IntKind.u8).pair Sh.bool)))
 l i.toNat).snd.fst
 (8 : Int)))) +
 IntKind.i64.wrap
 (Int.tmod
 (gt
 ((Sh.int IntKind.u8).pair
 ((Sh.int IntKind.u8).pair
 ((Sh.int IntKind.u8).pair Sh.bool)))
 l i.toNat).snd.snd.fst
 (4 : Int)))),
 SV.bool
 (gt
 ((Sh.int IntKind.u8).pair
 ((Sh.int IntKind.u8).pair ((Sh.int IntKind.u8).pair Sh.bool)))
 l i.toNat).snd.snd.snd]),
 ((10 : Nat), LB.row (9 : Nat) Sh.str nm),
 ((11 : Nat),
 LB.row (48 : Nat)
 (Sh.str.pair
 ((Sh.int IntKind.i64).pair ((Sh.int IntKind.i64).pair Sh.bool)))
 o)])
 ((0 : Nat) + (1 : Nat) ≤
 ((List.replicate (1 : Nat)
 (Sh.str.pair
 ((Sh.int IntKind.i64).pair
 ((Sh.int IntKind.i64).pair Sh.bool))).dflt).set
 (0 : Nat)
 (gt Sh.str nm ((0 : Nat) + i.toNat),
 IntKind.i64.wrap
 (at_ +
 IntKind.i64.wrap
 (Int.tmod
 (gt
 ((Sh.int IntKind.u8).pair
 ((Sh.int IntKind.u8).pair
 ((Sh.int IntKind.u8).pair Sh.bool)))
 l i.toNat).fst
 (8 : Int))),
 IntKind.i64.wrap
 (IntKind.i64.wrap
 (IntKind.i64.wrap
 (IntKind.i64.wrap
 (at_ +
 IntKind.i64.wrap
 (Int.tmod
 (gt
 ((Sh.int IntKind.u8).pair
 ((Sh.int IntKind.u8).pair
 ((Sh.int IntKind.u8).pair Sh.bool)))
 l i.toNat).fst
 (8 : Int))) +
 (1 : Int)) +
 IntKind.i64.wrap
 ((4 : Int) *
 IntKind.i64.wrap
 (Int.tmod
 (gt
 ((Sh.int IntKind.u8).pair
 ((Sh.int IntKind.u8).pair
 ((Sh.int IntKind.u8).pair Sh.bool)))
 l i.toNat).snd.fst
 (8 : Int)))) +
 IntKind.i64.wrap
 (Int.tmod
 (gt
 ((Sh.int IntKind.u8).pair
 ((Sh.int IntKind.u8).pair
 ((Sh.int IntKind.u8).pair Sh.bool)))
 l i.toNat).snd.snd.fst
 (4 : Int))),
 (gt
 ((Sh.int IntKind.u8).pair
 ((Sh.int IntKind.u8).pair ((Sh.int IntKind.u8).pair Sh.bool)))
 l i.toNat).snd.snd.snd)).length ∧
 o.length = o.length ∧
 (0 : Nat) = (0 : Nat) ∧
 o.length +
 (winL
 seS
 (0 : Nat) (1 : Nat)
 ((List.replicate (1 : Nat)
 (Sh.str.pair
 ((Sh.int IntKind.i64).pair
 ((Sh.int IntKind.i64).pair Sh.bool))).dflt).set
 (0 : Nat)
 (gt Sh.str nm ((0 : Nat) + i.toNat),
 IntKind.i64.wrap
 (at_ +
 IntKind.i64.wrap
 (Int.tmod
 (gt
 ((Sh.int IntKind.u8).pair
 ((Sh.int IntKind.u8).pair
 ((Sh.int IntKind.u8).pair Sh.bool)))
 l i.toNat).fst
 (8 : Int))),
 IntKind.i64.wrap
 (IntKind.i64.wrap
 (IntKind.i64.wrap
 (IntKind.i64.wrap
 (at_ +
 IntKind.i64.wrap
 (Int.tmod
 (gt
 ((Sh.int IntKind.u8).pair
 ((Sh.int IntKind.u8).pair
 ((Sh.int IntKind.u8).pair Sh.bool)))
 l i.toNat).fst
 (8 : Int))) +
 (1 : Int)) +
 IntKind.i64.wrap
 ((4 : Int) *
 IntKind.i64.wrap
 (Int.tmod
 (gt
 ((Sh.int IntKind.u8).pair
 ((Sh.int IntKind.u8).pair
 ((Sh.int IntKind.u8).pair Sh.bool)))
 l i.toNat).snd.fst
 (8 : Int)))) +
 IntKind.i64.wrap
 (Int.tmod
 (gt
 ((Sh.int IntKind.u8).pair
 ((Sh.int IntKind.u8).pair
 ((Sh.int IntKind.u8).pair Sh.bool)))
 l i.toNat).snd.snd.fst
 (4 : Int))),
 (gt
 ((Sh.int IntKind.u8).pair
 ((Sh.int IntKind.u8).pair
 ((Sh.int IntKind.u8).pair Sh.bool)))
 l i.toNat).snd.snd.snd))).length <
 (2 : Nat) ^ (30 : Nat) ∧
 (40 : Nat) ≤ (2 : Nat) ^ (10 : Nat) ∧
 R (hd Try.f11 (0 : Nat))
 {
 env :=
 [((0 : Nat),
 SV.sl
 ((Sh.int IntKind.u8).pair
 ((Sh.int IntKind.u8).pair
 ((Sh.int IntKind.u8).pair Sh.bool)))
 l),
 ((1 : Nat), SV.int IntKind.i64 n),
 ((5 : Nat), SV.win true Sh.str (10 : Nat) (0 : Nat) nm.length),
 ((6 : Nat),
 SV.win true
 (Sh.str.pair
 ((Sh.int IntKind.i64).pair
 ((Sh.int IntKind.i64).pair Sh.bool)))
 (90 : Nat) (0 : Nat)
 (o.length +
 (winL
 seS
 (0 : Nat) (1 : Nat)
 ((List.replicate (1 : Nat)
 (Sh.str.pair
 ((Sh.int IntKind.i64).pair
 ((Sh.int IntKind.i64).pair
 Sh.bool))).dflt).set
 (0 : Nat)
 (gt Sh.str nm ((0 : Nat) + i.toNat),
 IntKind.i64.wrap
 (at_ +
 IntKind.i64.wrap
 (Int.tmod
 (gt
 ((Sh.int IntKind.u8).pair
 ((Sh.int IntKind.u8).pair
 ((Sh.int IntKind.u8).pair Sh.bool)))
 l i.toNat).fst
 (8 : Int))),
 IntKind.i64.wrap
 (IntKind.i64.wrap
 (IntKind.i64.wrap
 (IntKind.i64.wrap
 (at_ +
 IntKind.i64.wrap
 (Int.tmod
 (gt
 ((Sh.int IntKind.u8).pair
 ((Sh.int IntKind.u8).pair
 ((Sh.int
 IntKind.u8).pair
 Sh.bool)))
 l i.toNat).fst
 (8 : Int))) +
 (1 : Int)) +
 IntKind.i64.wrap
 ((4 : Int) *
 IntKind.i64.wrap
 (Int.tmod
 (gt
 ((Sh.int IntKind.u8).pair
 ((Sh.int IntKind.u8).pair
 ((Sh.int IntKind.u8).pair
 Sh.bool)))
 l i.toNat).snd.fst
 (8 : Int)))) +
 IntKind.i64.wrap
 (Int.tmod
 (gt
 ((Sh.int IntKind.u8).pair
 ((Sh.int IntKind.u8).pair
 ((Sh.int IntKind.u8).pair
 Sh.bool)))
 l i.toNat).snd.snd.fst
 (4 : Int))),
 (gt
 ((Sh.int IntKind.u8).pair
 ((Sh.int IntKind.u8).pair
 ((Sh.int IntKind.u8).pair Sh.bool)))
 l i.toNat).snd.snd.snd))).length)),
 ((7 : Nat),
 SV.int IntKind.i64
 (IntKind.i64.wrap
 (IntKind.i64.wrap
 (IntKind.i64.wrap
 (IntKind.i64.wrap
 (at_ +
 IntKind.i64.wrap
 (Int.tmod
 (gt
 ((Sh.int IntKind.u8).pair
 ((Sh.int IntKind.u8).pair
 ((Sh.int IntKind.u8).pair
 Sh.bool)))
 l i.toNat).fst
 (8 : Int))) +
 (1 : Int)) +
 IntKind.i64.wrap
 ((4 : Int) *
 IntKind.i64.wrap
 (Int.tmod
 (gt
 ((Sh.int IntKind.u8).pair
 ((Sh.int IntKind.u8).pair
 ((Sh.int IntKind.u8).pair Sh.bool)))
 l i.toNat).snd.fst
 (8 : Int)))) +
 IntKind.i64.wrap
 (Int.tmod
 (gt
 ((Sh.int IntKind.u8).pair
 ((Sh.int IntKind.u8).pair
 ((Sh.int IntKind.u8).pair Sh.bool)))
 l i.toNat).snd.snd.fst
 (4 : Int))))),
 ((8 : Nat),
 SV.int IntKind.i64 (IntKind.i64.wrap (i + (1 : Int))))],
 blk :=
 [((10 : Nat), LB.row (9 : Nat) Sh.str nm),
 ((90 : Nat),
 LB.row (48 : Nat)
 (Sh.str.pair
 ((Sh.int IntKind.i64).pair
 ((Sh.int IntKind.i64).pair Sh.bool)))
 (o ++
 winL
 (Sh.str.pair
 ((Sh.int IntKind.i64).pair
 ((Sh.int IntKind.i64).pair Sh.bool)))
 (0 : Nat) (1 : Nat)
 ((List.replicate (1 : Nat)
 (Sh.str.pair
 ((Sh.int IntKind.i64).pair
 ((Sh.int IntKind.i64).pair
 Sh.bool))).dflt).set
 (0 : Nat)
 (gt Sh.str nm ((0 : Nat) + i.toNat),
 IntKind.i64.wrap
 (at_ +
 IntKind.i64.wrap
 (Int.tmod
 (gt
 ((Sh.int IntKind.u8).pair
 ((Sh.int IntKind.u8).pair
 ((Sh.int IntKind.u8).pair Sh.bool)))
 l i.toNat).fst
 (8 : Int))),
 IntKind.i64.wrap
 (IntKind.i64.wrap
 (IntKind.i64.wrap
 (IntKind.i64.wrap
 (at_ +
 IntKind.i64.wrap
 (Int.tmod
 (gt
 ((Sh.int IntKind.u8).pair
 ((Sh.int IntKind.u8).pair
 ((Sh.int IntKind.u8).pair
 Sh.bool)))
 l i.toNat).fst
 (8 : Int))) +
 (1 : Int)) +
 IntKind.i64.wrap
 ((4 : Int) *
 IntKind.i64.wrap
 (Int.tmod
 (gt
 ((Sh.int IntKind.u8).pair
 ((Sh.int IntKind.u8).pair
 ((Sh.int IntKind.u8).pair
 Sh.bool)))
 l i.toNat).snd.fst
 (8 : Int)))) +
 IntKind.i64.wrap
 (Int.tmod
 (gt
 ((Sh.int IntKind.u8).pair
 ((Sh.int IntKind.u8).pair
 ((Sh.int IntKind.u8).pair
 Sh.bool)))
 l i.toNat).snd.snd.fst
 (4 : Int))),
 (gt
 ((Sh.int IntKind.u8).pair
 ((Sh.int IntKind.u8).pair
 ((Sh.int IntKind.u8).pair Sh.bool)))
 l i.toNat).snd.snd.snd))))] })))
 (Q
 [SV.win true (Sh.str.pair ((Sh.int IntKind.i64).pair ((Sh.int IntKind.i64).pair Sh.bool))) (11 : Nat) (0 : Nat)
 o.length]
 [((10 : Nat), LB.row (9 : Nat) Sh.str nm),
 ((11 : Nat),
 LB.row (48 : Nat) (Sh.str.pair ((Sh.int IntKind.i64).pair ((Sh.int IntKind.i64).pair Sh.bool))) o)]))
 (false = false ∧
 Q
 [SV.win true (Sh.str.pair ((Sh.int IntKind.i64).pair ((Sh.int IntKind.i64).pair Sh.bool))) (11 : Nat) (0 : Nat)
 o.length]
 [((10 : Nat), LB.row (9 : Nat) Sh.str nm),
 ((11 : Nat),
 LB.row (48 : Nat) (Sh.str.pair ((Sh.int IntKind.i64).pair ((Sh.int IntKind.i64).pair Sh.bool))) o)])) := by kernel_rfl
end Go.Proofs.Ythcjddhlindopaa
namespace Go.Proofs.Ythcjddhlindopaa
open Go.Px Go.Ax
attribute [local irreducible] Go.Px.sy Go.Px.syE
abbrev GD (f : Nat) (fn : Func) (Q : List SV → List (Nat × LB) → Prop) (it : List Item) (S : PS) : Prop := Px.Good Try.prog tt G0 f fn.ntmps fn.results.toList Q it S
theorem gtE {σ : Sh} {l : List σ.D} {i : Nat} (h : i < l.length) : gt σ l i = l[i] := by
  show (l[i]?).getD _ = _
  rw [List.getElem?_eq_getElem h]; rfl
theorem dropc {α : Type} {l : List α} {i : Nat} (h : i < l.length) : l.drop i = l[i] :: l.drop (i + 1) := List.drop_eq_getElem_cons h
theorem qc_row {ct : Ctr} {x : DL ct.args} {rs : List SV} {blk : List (Nat × LB)} {e : Sh} {et : TypeId} {a k : Nat} {xs : List e.D} (h : ct.out x = [.win true e 0 0 xs.length]) (hr : ct.rows x = [.row et e xs]) (hs : rs = [.win true e a 0 k]) (hk : k = xs.length) (hb : lk blk a = some (.row et e xs)) : QC ct x rs blk := by
  subst hs; subst hk
  refine ⟨fun i => if i = 0 then some a else none, ?_, ?_, fun i j b h1 h2 => ?_, by rw [hr]; rfl⟩
  · rw [h]
    exact ⟨_, _, rfl, .inl ⟨true, a, rfl, rfl, fun h => h⟩, rfl⟩
  · rw [hr]
    exact ⟨.inl ⟨a, rfl, hb⟩, trivial⟩
  · simp only at h1 h2
    split at h1
    · split at h2
      · omega
      · cases h2
    · cases h1
abbrev Sec : Type := List UInt8 × Int × Int × Bool
abbrev Raw : Type := Int × Int × Int × Bool
/-- The section that has a place. -/
def findF (at_ : Int) : List Sec → Nat → Int
  | [], _ => -1
  | s :: l, i => if s.2.1 ≤ at_ ∧ at_ < s.2.2.1 then (i : Int) else findF at_ l (i + 1)
def preF (l : List Sec) : Prop := l.length < 1048576
def ctFind : Ctr := ⟨[.sl seS, iI], fun x => preF x.1, fun x => [.int .i64 (findF x.2.1 x.1 0)], fun _ => []⟩
theorem find_loop {l : List Sec} {at_ : Int} (hp : preF l) : ∀ (k i : Nat), l.length - i ≤ k → i ≤ l.length →
    GD 23 Try.f23 (fun rs _ => rs = [.int .i64 (findF at_ (l.drop i) i)]) (hd Try.f23 0) ⟨[(1, .int .i64 at_), (7, .sl seS l), (8, .int .i64 l.length), (9, .int .i64 (i : Nat))], []⟩ := by
  have hp : l.length < 1048576 := hp
  intro k
  induction k with
  | zero =>
    intro i h1 h2
    refine sy_goK cx0 (vc_findL l at_ i _ _) ?_
    rw [decide_eq_false (by omega), bc_f, List.drop_eq_nil_of_le (by omega)]
    rfl
  | succ k ih =>
    intro i h1 h2
    by_cases hi : i < l.length
    · refine sy_goK cx0 (vc_findL l at_ i _ _) ?_
      have e1 : gt seS l (i : Int).toNat = l[i] := gtE hi
      rw [decide_eq_true (show (i : Int) < (l.length : Int) by omega), bc_t, e1, IntWalk.i64_in ((i : Int) + 1) (by omega), dropc hi]
      have k2 := ih (i + 1) (by omega) (by omega)
      refine ⟨by omega, by omega, bc_of (fun ha => bc_of (fun hb => ?_) (fun hb => ?_)) (fun ha => ⟨rfl, ?_⟩)⟩
      · have ha := of_decide_eq_true ha
        have hb := of_decide_eq_true (show decide (at_ < l[i].2.2.1) = true from hb)
        rw [findF, if_pos ⟨ha, hb⟩]
      · have hb := of_decide_eq_false (show decide (at_ < l[i].2.2.1) = false from hb)
        rw [findF, if_neg fun q => hb q.2]
        exact k2
      · have ha := of_decide_eq_false ha
        rw [findF, if_neg fun q => ha q.1]
        exact k2
    · exact ih i (by omega) h2
theorem find_run (l : List Sec) (at_ : Int) (hp : preF l) : sy tt G0 [] Try.f23.ntmps Try.f23.results.toList (QC ctFind (l, at_, ())) (Px.Good Try.prog tt G0 23 Try.f23.ntmps Try.f23.results.toList (QC ctFind (l, at_, ()))) 1000 [.code (bodyOf Try.f23)] (entry [.sl seS, iI] (l, at_, ())) := by
  rw [vc_find]
  exact ((find_loop hp _ 0 (Nat.le_refl _) (Nat.zero_le _)).post fun rs blk hq => QC.flat (by rw [hq]; rfl) rfl (by rw [hq]; rfl)).only ⟨rfl, rfl, rfl, rfl, trivial⟩ trivial
theorem find_held : Held Try.prog G0 23 ctFind := Held.run cx0 (fn := Try.f23) rfl rfl ⟨by decide, by decide⟩ fun x hp => find_run x.1 x.2.1 hp
/-- Sections that are made. -/
def rawOK (r : Raw) : Prop := (0 ≤ r.1 ∧ r.1 < 256) ∧ (0 ≤ r.2.1 ∧ r.2.1 < 256) ∧ (0 ≤ r.2.2.1 ∧ r.2.2.1 < 256)
def secOf (nm : List UInt8) (at_ : Int) (r : Raw) : Sec := match r.2.2.2 with
  | true => (nm, (at_ + r.1 % 8 + 3) / 4 * 4, (at_ + r.1 % 8 + 3) / 4 * 4 + 4 + 4 * (r.2.1 % 8), true)
  | false => (nm, at_ + r.1 % 8, at_ + r.1 % 8 + 1 + 4 * (r.2.1 % 8) + r.2.2.1 % 4, false)
def mkF (n : Int) : List (List UInt8) → Int → List Raw → List Sec
  | nm :: nms, at_, r :: rs => if n < (secOf nm at_ r).2.2.1 then [] else secOf nm at_ r :: mkF n nms (secOf nm at_ r).2.2.1 rs
  | _, _, _ => []
def nmL : List (List UInt8) := [[98, 111, 111, 116], [97, 112, 112], [68, 97, 116, 97], [120, 49], [116, 97, 105, 108], [99, 102, 103], [65], [116, 119, 101, 108, 118, 101, 108, 101, 116, 116, 101, 114]]
def preMk (l : List Raw) (n : Int) : Prop := (∀ r ∈ l, rawOK r) ∧ 0 ≤ n ∧ n < 100000
def mk (l : List Raw) (n : Int) : List Sec := mkF n nmL 0 l
def ctMk : Ctr := ⟨[.sl rwS, iI], fun x => preMk x.1 x.2.1, fun x => [.win true seS 0 0 (List.length (mk x.1 x.2.1))], fun x => [.row 48 seS (mk x.1 x.2.1)]⟩
theorem mk_loop {l : List Raw} {n : Int} (hp : preMk l n) {nm : List (List UInt8)} (hnm : nm.length = 8) {x : List Sec} (hx : x = mk l n) : ∀ (k i : Nat) (at_ : Int) (o : List Sec), 8 - i ≤ k → i ≤ 8 → 0 ≤ at_ → at_ ≤ n → o.length = i → o ++ mkF n (nm.drop i) at_ (l.drop i) = x →
    GD 11 Try.f11 (QC ctMk (l, n, ())) (hd Try.f11 0) ⟨[(0, .sl rwS l), (1, .int .i64 n), (5, .win true .str 10 0 nm.length), (6, .win true seS 11 0 o.length), (7, .int .i64 at_), (8, .int .i64 (i : Nat))], [(10, .row 9 .str nm), (11, .row 48 seS o)]⟩ := by
  obtain ⟨hr, hn1, hn2⟩ := hp
  have fin : ∀ (o : List Sec) (blk : List (Nat × LB)), o = x → lk blk 11 = some (.row 48 seS o) → QC ctMk (l, n, ()) [.win true seS 11 0 o.length] blk := by
    intro o blk ho hb
    rw [hx] at ho
    subst ho
    exact qc_row rfl rfl rfl rfl hb
  intro k
  induction k with
  | zero =>
    intro i at_ o hk hi h1 h2 ho hx
    refine sy_goK cx0 (vc_mkL l n at_ i nm o _ _) ?_
    have hf : ∀ h : i < l.length, False → False := fun _ h => h
    rw [List.drop_eq_nil_of_le (show nm.length ≤ i by omega)] at hx
    simp only [mkF, List.append_nil] at hx
    refine bc_of (fun h => ?_) (fun h => ⟨rfl, fin o _ hx rfl⟩)
    rw [decide_eq_false (show ¬ ((i : Int) < 8) by omega), cond_true, bc_f]
    exact fin o _ hx rfl
  | succ k ih =>
    intro i at_ o hk hi h1 h2 ho hx
    by_cases h8 : i < 8
    · refine sy_goK cx0 (vc_mkL l n at_ i nm o _ _) ?_
      by_cases hl : i < l.length
      · have e1 : gt rwS l (i : Int).toNat = l[i] := gtE hl
        have e2 : gt .str nm (0 + (i : Int).toNat) = nm[i] := by rw [Nat.zero_add]; exact gtE (by omega)
        have hro := hr l[i] (List.getElem_mem hl)
        have k2 := fun a o => ih (i + 1) a o (by omega) (by omega)
        rw [dropc (show i < nm.length by omega), dropc hl] at hx
        rw [decide_eq_true (show (i : Int) < (l.length : Int) by omega), bc_t, decide_eq_true (show (i : Int) < 8 by omega), cond_true, bc_t, e1, e2]
        generalize l[i] = r at hx hro
        generalize nm[i] = nmi at hx
        obtain ⟨g, w, od, c⟩ := r
        obtain ⟨⟨g1, g2⟩, ⟨w1, w2⟩, ⟨d1, d2⟩⟩ := hro
        have g1 : 0 ≤ g := g1
        have g2 : g < 256 := g2
        have w1 : 0 ≤ w := w1
        have w2 : w < 256 := w2
        have d1 : 0 ≤ od := d1
        have d2 : od < 256 := d2
        have tg : g.tmod 8 = g % 8 := Int.tmod_eq_emod_of_nonneg g1
        have tw : w.tmod 8 = w % 8 := Int.tmod_eq_emod_of_nonneg w1
        have td : od.tmod 4 = od % 4 := Int.tmod_eq_emod_of_nonneg d1
        have q1 : IntKind.i64.wrap (g % 8) = g % 8 := IntWalk.i64_in _ (by omega)
        have q2 : IntKind.i64.wrap (at_ + g % 8) = at_ + g % 8 := IntWalk.i64_in _ (by omega)
        have q3 : IntKind.i64.wrap (w % 8) = w % 8 := IntWalk.i64_in _ (by omega)
        have q4 : IntKind.i64.wrap (4 * (w % 8)) = 4 * (w % 8) := IntWalk.i64_in _ (by omega)
        have q5 : IntKind.i64.wrap (od % 4) = od % 4 := IntWalk.i64_in _ (by omega)
        have q0 : IntKind.i64.wrap ((i : Int) + 1) = ((i + 1 : Nat) : Int) := by rw [IntWalk.i64_in _ (by omega)]; rfl
        cases c with
        | true =>
          have q6 : IntKind.i64.wrap (at_ + g % 8 + 3) = at_ + g % 8 + 3 := IntWalk.i64_in _ (by omega)
          have q7 : (at_ + g % 8 + 3).tdiv 4 = (at_ + g % 8 + 3) / 4 := Int.tdiv_eq_ediv_of_nonneg (by omega)
          have q7b : IntKind.i64.wrap ((at_ + g % 8 + 3) / 4) = (at_ + g % 8 + 3) / 4 := IntWalk.i64_in _ (by omega)
          have q8 : IntKind.i64.wrap ((at_ + g % 8 + 3) / 4 * 4) = (at_ + g % 8 + 3) / 4 * 4 := IntWalk.i64_in _ (by omega)
          have q9 : IntKind.i64.wrap ((at_ + g % 8 + 3) / 4 * 4 + 4) = (at_ + g % 8 + 3) / 4 * 4 + 4 := IntWalk.i64_in _ (by omega)
          have q10 : IntKind.i64.wrap ((at_ + g % 8 + 3) / 4 * 4 + 4 + 4 * (w % 8)) = (at_ + g % 8 + 3) / 4 * 4 + 4 + 4 * (w % 8) := IntWalk.i64_in _ (by omega)
          have hsec : secOf nmi at_ (g, w, od, true) = (nmi, (at_ + g % 8 + 3) / 4 * 4, (at_ + g % 8 + 3) / 4 * 4 + 4 + 4 * (w % 8), true) := rfl
          simp only [tg, tw, td, q1, q2, q3, q4, q5, q6, q7, q7b, q8, q9, q10, q0, bc_t]
          rw [mkF, hsec] at hx
          simp only at hx
          refine ⟨by omega, by omega, by omega, by omega, by omega, by decide, by omega, by omega, by decide, by omega, by omega, by decide, bc_of (fun h => ?_) (fun h => ?_)⟩
          · have h := of_decide_eq_true h
            rw [if_pos h, List.append_nil] at hx
            exact fin o _ hx rfl
          · have h := of_decide_eq_false h
            rw [if_neg h] at hx
            refine ⟨by simp, trivial, trivial, ?_, by decide, ?_⟩
            · show o.length + 1 < 2 ^ 30
              omega
            · refine Good.onlyR (k2 _ (o ++ [(nmi, (at_ + g % 8 + 3) / 4 * 4, (at_ + g % 8 + 3) / 4 * 4 + 4 + 4 * (w % 8), true)]) (by omega) (by omega) (by simp [ho]) (by rw [List.append_assoc]; exact hx)) [(11, 90)] rfl ⟨rfl, rfl, rfl, ?_, rfl, rfl, trivial⟩ ⟨rfl, rfl, trivial⟩
              show some (SV.win true seS 90 0 (o.length + 1)) = some (SV.win true seS 90 0 (o ++ [_]).length)
              rw [List.length_append, List.length_singleton]
        | false =>
          have q6 : IntKind.i64.wrap (at_ + g % 8 + 1) = at_ + g % 8 + 1 := IntWalk.i64_in _ (by omega)
          have q7 : IntKind.i64.wrap (at_ + g % 8 + 1 + 4 * (w % 8)) = at_ + g % 8 + 1 + 4 * (w % 8) := IntWalk.i64_in _ (by omega)
          have q8 : IntKind.i64.wrap (at_ + g % 8 + 1 + 4 * (w % 8) + od % 4) = at_ + g % 8 + 1 + 4 * (w % 8) + od % 4 := IntWalk.i64_in _ (by omega)
          have hsec : secOf nmi at_ (g, w, od, false) = (nmi, at_ + g % 8, at_ + g % 8 + 1 + 4 * (w % 8) + od % 4, false) := rfl
          simp only [tg, tw, td, q1, q2, q3, q4, q5, q6, q7, q8, q0, bc_f]
          rw [mkF, hsec] at hx
          simp only at hx
          refine ⟨by omega, by omega, by omega, by omega, by omega, by decide, by omega, by omega, by omega, by omega, by decide, by omega, by omega, by decide, bc_of (fun h => ?_) (fun h => ?_)⟩
          · have h := of_decide_eq_true h
            rw [if_pos h, List.append_nil] at hx
            exact fin o _ hx rfl
          · have h := of_decide_eq_false h
            rw [if_neg h] at hx
            refine ⟨by simp, trivial, trivial, ?_, by decide, ?_⟩
            · show o.length + 1 < 2 ^ 30
              omega
            · refine Good.onlyR (k2 _ (o ++ [(nmi, at_ + g % 8, at_ + g % 8 + 1 + 4 * (w % 8) + od % 4, false)]) (by omega) (by omega) (by simp [ho]) (by rw [List.append_assoc]; exact hx)) [(11, 90)] rfl ⟨rfl, rfl, rfl, ?_, rfl, rfl, trivial⟩ ⟨rfl, rfl, trivial⟩
              show some (SV.win true seS 90 0 (o.length + 1)) = some (SV.win true seS 90 0 (o ++ [_]).length)
              rw [List.length_append, List.length_singleton]
      · have e0 : mkF n (nm.drop i) at_ (l.drop i) = [] := by
          rw [List.drop_eq_nil_of_le (show l.length ≤ i by omega)]
          cases nm.drop i <;> rfl
        rw [e0, List.append_nil] at hx
        rw [decide_eq_false (by omega), bc_f]
        exact ⟨rfl, fin o _ hx rfl⟩
    · exact ih i at_ o (by omega) hi h1 h2 ho hx
theorem mk_run (l : List Raw) (n : Int) (hp : preMk l n) : sy tt G0 [] Try.f11.ntmps Try.f11.results.toList (QC ctMk (l, n, ())) (Px.Good Try.prog tt G0 11 Try.f11.ntmps Try.f11.results.toList (QC ctMk (l, n, ()))) 1000 [.code (bodyOf Try.f11)] (entry [.sl rwS, iI] (l, n, ())) := by
  rw [vc_mk]
  exact (mk_loop hp (nm := nmL) rfl rfl _ 0 0 [] (Nat.le_refl _) (Nat.zero_le _) (by omega) hp.2.1 rfl rfl).only ⟨rfl, rfl, rfl, rfl, rfl, rfl, trivial⟩ ⟨rfl, rfl, trivial⟩
theorem mk_held : Held Try.prog G0 11 ctMk := Held.run cx0 (fn := Try.f11) rfl rfl ⟨by decide, by decide⟩ fun x hp => mk_run x.1 x.2.1 hp
end Go.Proofs.Ythcjddhlindopaa
namespace Go.Proofs.Ythcjddhlindopaa
open Go.Px Go.Ax
noncomputable abbrev FF := fnsOf Try.prog 3 58
set_option maxRecDepth 100000 in
theorem fns_ok : Ax.fnsOK Try.prog 3 58 = true := by decide +kernel
theorem cxE : Cx Try.prog FF := Cx.of_ok fns_ok mixed
theorem hG : Glob G0.raw := ⟨fun g x h => by simp [G0, T.get] at h, fun g x h => by simp [G0, T.get] at h⟩
abbrev H0 : AHeap := ⟨nglob, G0.raw⟩
set_option maxRecDepth 100000 in
theorem sanity_runs : Ax.givesV (Ax.eval Try.prog FF 400 (.call 10 #[] H0)) (.bool true) = true := by decide +kernel
def ctSan : Ctr := ⟨[], fun _ => True, fun _ => [.bool true], fun _ => []⟩
theorem san_held : Held Try.prog G0 10 ctSan := by
  have h := sanity_runs
  unfold givesV at h
  split at h
  · rename_i r H2 he
    simp only [Bool.and_eq_true] at h
    have hr := eqV_eq _ _ h.1
    subst hr
    exact Held.bool0 hG (Valid.eval cxE 400 _ _ he)
  · cases h
abbrev D1 : CV := [(10, .inl ctSan), (11, .inl ctMk), (23, .inl ctFind)]
theorem dx1 : CxOK Try.prog tt G0 D1 := ((cx0.cons find_held (fn := Try.f23) rfl rfl rfl).cons mk_held (fn := Try.f11) rfl rfl rfl).cons san_held (fn := Try.f10) rfl rfl rfl
end Go.Proofs.Ythcjddhlindopaa
namespace Go.Proofs.Ythcjddhlindopaa
open Go.Px Go.Ax
set_option maxRecDepth 100000
theorem vc_l6 (l : List Raw) (Q : List SV → List (Nat × LB) → Prop) (R : List Item → PS → Prop) : sy tt G0 D1 Try.f6.ntmps Try.f6.results.toList Q R 1000 [.code (bodyOf Try.f6)] (entry [.sl rwS] (l, ())) =
    (ctSan.pre () ∧
 ctMk.pre (l, (300 : Int), ()) ∧
 R (hd Try.f6 (0 : Nat))
 {
 env :=
 [((0 : Nat),
 SV.sl ((Sh.int IntKind.u8).pair ((Sh.int IntKind.u8).pair ((Sh.int IntKind.u8).pair Sh.bool))) l),
 ((2 : Nat), SV.bool false), ((3 : Nat), SV.bool true),
 ((4 : Nat),
 SV.win true (Sh.str.pair ((Sh.int IntKind.i64).pair ((Sh.int IntKind.i64).pair Sh.bool))) (1040960 : Nat)
 (0 : Nat) (mk l (300 : Int)).length),
 ((5 : Nat), SV.int IntKind.i64 (-2 : Int)), ((8 : Nat), SV.bool true),
 ((9 : Nat),
 SV.sl ((Sh.int IntKind.u8).pair ((Sh.int IntKind.u8).pair ((Sh.int IntKind.u8).pair Sh.bool))) l),
 ((10 : Nat),
 SV.win true (Sh.str.pair ((Sh.int IntKind.i64).pair ((Sh.int IntKind.i64).pair Sh.bool))) (1040960 : Nat)
 (0 : Nat) (mk l (300 : Int)).length)],
 blk :=
 [((1040960 : Nat),
 LB.row (48 : Nat) (Sh.str.pair ((Sh.int IntKind.i64).pair ((Sh.int IntKind.i64).pair Sh.bool)))
 (mk l (300 : Int)))] }) := by kernel_rfl
theorem vc_l6A (s : List Sec) (a : Int) (Q : List SV → List (Nat × LB) → Prop) (R : List Item → PS → Prop) : sy tt G0 D1 Try.f6.ntmps Try.f6.results.toList Q (fun it S => R it (keepS [3, 4, 5, 6, 7] [1040960] S)) 1000 (hd Try.f6 0) ⟨[(3, .bool true), (4, .win true seS 1040960 0 s.length), (5, .int .i64 a)], [(1040960, .row 48 seS s)]⟩ =
    (bc (decide (a < (302 : Int)))
 ((0 : Nat) + s.length ≤ s.length ∧
 ctFind.pre (winL seS (0 : Nat) s.length s, a, ()) ∧
 bc (decide (findF a (winL seS (0 : Nat) s.length s) (0 : Nat) < (-1 : Int)))
 (true = true ∧
 Q [SV.bool false]
 [((1040960 : Nat),
 LB.row (48 : Nat) (Sh.str.pair ((Sh.int IntKind.i64).pair ((Sh.int IntKind.i64).pair Sh.bool))) s)])
 (bc (bif false then true else decide ((↑s.length : Int) ≤ findF a (winL seS (0 : Nat) s.length s) (0 : Nat)))
 (Q [SV.bool false]
 [((1040960 : Nat),
 LB.row (48 : Nat) (Sh.str.pair ((Sh.int IntKind.i64).pair ((Sh.int IntKind.i64).pair Sh.bool))) s)])
 (R (hd Try.f6 (1 : Nat))
 {
 env :=
 [((3 : Nat), SV.bool true),
 ((4 : Nat),
 SV.win true (Sh.str.pair ((Sh.int IntKind.i64).pair ((Sh.int IntKind.i64).pair Sh.bool)))
 (1040960 : Nat) (0 : Nat) s.length),
 ((5 : Nat), SV.int IntKind.i64 a),
 ((6 : Nat), SV.int IntKind.i64 (findF a (winL seS (0 : Nat) s.length s) (0 : Nat))),
 ((7 : Nat), SV.int IntKind.i64 (0 : Int))],
 blk :=
 [((1040960 : Nat),
 LB.row (48 : Nat) (Sh.str.pair ((Sh.int IntKind.i64).pair ((Sh.int IntKind.i64).pair Sh.bool)))
 s)] })))
 (Q [SV.bool true]
 [((1040960 : Nat),
 LB.row (48 : Nat) (Sh.str.pair ((Sh.int IntKind.i64).pair ((Sh.int IntKind.i64).pair Sh.bool))) s)])) := by kernel_rfl
theorem vc_l6B (s : List Sec) (a k i : Int) (Q : List SV → List (Nat × LB) → Prop) (R : List Item → PS → Prop) : sy tt G0 D1 Try.f6.ntmps Try.f6.results.toList Q (fun it S => R it (keepS [3, 4, 5, 6, 7] [1040960] S)) 1000 (hd Try.f6 1) ⟨[(3, .bool true), (4, .win true seS 1040960 0 s.length), (5, .int .i64 a), (6, .int .i64 k), (7, .int .i64 i)], [(1040960, .row 48 seS s)]⟩ =
    (bc (decide (i < (↑s.length : Int)))
 ((0 : Int) ≤ i ∧
 i < (↑s.length : Int) ∧
 (0 : Nat) + i.toNat < s.length ∧
 bc
 (decide
 ((gt (Sh.str.pair ((Sh.int IntKind.i64).pair ((Sh.int IntKind.i64).pair Sh.bool))) s
 ((0 : Nat) + i.toNat)).snd.fst ≤
 a))
 ((0 : Int) ≤ i ∧
 i < (↑s.length : Int) ∧
 (0 : Nat) + i.toNat < s.length ∧
 bc
 (!(bif true then
 decide
 (a <
 (gt (Sh.str.pair ((Sh.int IntKind.i64).pair ((Sh.int IntKind.i64).pair Sh.bool))) s
 ((0 : Nat) + i.toNat)).snd.snd.fst)
 else false) ==
 decide (i = k))
 (Q [SV.bool false]
 [((1040960 : Nat),
 LB.row (48 : Nat) (Sh.str.pair ((Sh.int IntKind.i64).pair ((Sh.int IntKind.i64).pair Sh.bool)))
 s)])
 (R (hd Try.f6 (1 : Nat))
 {
 env :=
 [((3 : Nat), SV.bool true),
 ((4 : Nat),
 SV.win true (Sh.str.pair ((Sh.int IntKind.i64).pair ((Sh.int IntKind.i64).pair Sh.bool)))
 (1040960 : Nat) (0 : Nat) s.length),
 ((5 : Nat), SV.int IntKind.i64 a), ((6 : Nat), SV.int IntKind.i64 k),
 ((7 : Nat), SV.int IntKind.i64 (IntKind.i64.wrap (i + (1 : Int))))],
 blk :=
 [((1040960 : Nat),
 LB.row (48 : Nat)
 (Sh.str.pair ((Sh.int IntKind.i64).pair ((Sh.int IntKind.i64).pair Sh.bool))) s)] }))
 (false = false ∧
 bc (!false == decide (i = k))
 (Q [SV.bool false]
 [((1040960 : Nat),
 LB.row (48 : Nat) (Sh.str.pair ((Sh.int IntKind.i64).pair ((Sh.int IntKind.i64).pair Sh.bool))) s)])
 (R (hd Try.f6 (1 : Nat))
 {
 env :=
 [((3 : Nat), SV.bool true),
 ((4 : Nat),
 SV.win true (Sh.str.pair ((Sh.int IntKind.i64).pair ((Sh.int IntKind.i64).pair Sh.bool)))
 (1040960 : Nat) (0 : Nat) s.length),
 ((5 : Nat), SV.int IntKind.i64 a), ((6 : Nat), SV.int IntKind.i64 k),
 ((7 : Nat), SV.int IntKind.i64 (IntKind.i64.wrap (i + (1 : Int))))],
 blk :=
 [((1040960 : Nat),
 LB.row (48 : Nat) (Sh.str.pair ((Sh.int IntKind.i64).pair ((Sh.int IntKind.i64).pair Sh.bool)))
 s)] })))
 (R (hd Try.f6 (0 : Nat))
 {
 env :=
 [((3 : Nat), SV.bool true),
 ((4 : Nat),
 SV.win true (Sh.str.pair ((Sh.int IntKind.i64).pair ((Sh.int IntKind.i64).pair Sh.bool))) (1040960 : Nat)
 (0 : Nat) s.length),
 ((5 : Nat), SV.int IntKind.i64 (IntKind.i64.wrap (a + (1 : Int)))), ((6 : Nat), SV.int IntKind.i64 k),
 ((7 : Nat), SV.int IntKind.i64 i)],
 blk :=
 [((1040960 : Nat),
 LB.row (48 : Nat) (Sh.str.pair ((Sh.int IntKind.i64).pair ((Sh.int IntKind.i64).pair Sh.bool))) s)] })) := by kernel_rfl
end Go.Proofs.Ythcjddhlindopaa
namespace Go.Proofs.Ythcjddhlindopaa
open Go.Px Go.Ax
attribute [local irreducible] Go.Px.sy Go.Px.syE
theorem winA {e : Sh} (l : List e.D) : winL e 0 l.length l = l := by
  show (List.drop 0 l).take l.length = l
  rw [List.drop_zero, List.take_of_length_le (Nat.le_refl _)]
/-- Sections in order, from a place on. -/
def asc : Int → List Sec → Prop
  | _, [] => True
  | lo, x :: l => lo ≤ x.2.1 ∧ x.2.1 < x.2.2.1 ∧ asc x.2.2.1 l
theorem asc_at : ∀ {l : List Sec} {lo : Int}, asc lo l → ∀ i (h : i < l.length), lo ≤ l[i].2.1
  | x :: l, lo, ha, 0, _ => ha.1
  | x :: l, lo, ha, i + 1, h => by
    have hi : i < l.length := by simpa using h
    have := asc_at ha.2.2 i hi
    have h2 := ha.1
    have h3 := ha.2.1
    show lo ≤ l[i].2.1
    omega
theorem find_bd (a : Int) : ∀ (l : List Sec) (j : Nat), findF a l j = -1 ∨ ((j : Int) ≤ findF a l j ∧ findF a l j < ((j + l.length : Nat) : Int))
  | [], _ => .inl rfl
  | x :: l, j => by
    rw [findF]
    split
    · right; rw [List.length_cons]; omega
    · have := find_bd a l (j + 1)
      rw [List.length_cons]; omega
theorem find_at {a : Int} : ∀ {l : List Sec} {lo : Int} (j : Nat), asc lo l → ∀ i (h : i < l.length), (l[i].2.1 ≤ a ∧ a < l[i].2.2.1) ↔ ((j + i : Nat) : Int) = findF a l j
  | x :: l, lo, j, ha, i, h => by
    rw [findF]
    by_cases hx : x.2.1 ≤ a ∧ a < x.2.2.1
    · rw [if_pos hx]
      cases i with
      | zero => exact ⟨fun _ => rfl, fun _ => hx⟩
      | succ i =>
        have hi : i < l.length := by simpa using h
        have := asc_at ha.2.2 i hi
        constructor
        · intro q
          exfalso
          have q1 : l[i].2.1 ≤ a := q.1
          omega
        · intro q; omega
    · rw [if_neg hx]
      have hb := find_bd a l (j + 1)
      cases i with
      | zero =>
        constructor
        · intro q; exact absurd q hx
        · intro q; omega
      | succ i =>
        have := find_at (a := a) (j + 1) ha.2.2 i (by simpa using h)
        rw [show j + 1 + i = j + (i + 1) by omega] at this
        exact this
theorem asc_mk (n : Int) : ∀ (nm : List (List UInt8)) (at_ : Int) (l : List Raw), (∀ r ∈ l, rawOK r) → asc at_ (mkF n nm at_ l)
  | [], _, _, _ => by rw [mkF]; trivial; intros; contradiction
  | _ :: _, _, [], _ => by rw [mkF]; trivial; intros; contradiction
  | nm :: nms, at_, r :: l, h => by
    rw [mkF]
    split
    · trivial
    · have hr := h r (by simp)
      refine ⟨?_, ?_, asc_mk n nms _ l fun r hr => h r (by simp [hr])⟩
      · obtain ⟨⟨h1, h2⟩, ⟨h3, h4⟩, h5, h6⟩ := hr
        unfold secOf
        split
        · show at_ ≤ (at_ + r.1 % 8 + 3) / 4 * 4
          omega
        · show at_ ≤ at_ + r.1 % 8
          omega
      · obtain ⟨⟨h1, h2⟩, ⟨h3, h4⟩, h5, h6⟩ := hr
        unfold secOf
        split
        · show (at_ + r.1 % 8 + 3) / 4 * 4 < (at_ + r.1 % 8 + 3) / 4 * 4 + 4 + 4 * (r.2.1 % 8)
          omega
        · show at_ + r.1 % 8 < at_ + r.1 % 8 + 1 + 4 * (r.2.1 % 8) + r.2.2.1 % 4
          omega
theorem mk_len (n : Int) : ∀ (nm : List (List UInt8)) (at_ : Int) (l : List Raw), (mkF n nm at_ l).length ≤ nm.length
  | [], _, _ => by rw [mkF]; exact Nat.le_refl _; intros; contradiction
  | _ :: _, _, [] => by rw [mkF]; exact Nat.zero_le _; intros; contradiction
  | nm :: nms, at_, r :: l => by
    rw [mkF]
    split
    · exact Nat.zero_le _
    · have := mk_len n nms (secOf nm at_ r).2.2.1 l
      rw [List.length_cons, List.length_cons]; omega
abbrev QT : List SV → List (Nat × LB) → Prop := fun rs _ => rs = [.bool true]
theorem l6_in {s : List Sec} (hs : asc 0 s) (hl : s.length ≤ 8) {a : Int} (ha : -2 ≤ a ∧ a < 302)
    (next : GD 6 Try.f6 QT (hd Try.f6 0) ⟨[(3, .bool true), (4, .win true seS 1040960 0 s.length), (5, .int .i64 (a + 1))], [(1040960, .row 48 seS s)]⟩) : ∀ (k i : Nat), s.length - i ≤ k → i ≤ s.length →
    GD 6 Try.f6 QT (hd Try.f6 1) ⟨[(3, .bool true), (4, .win true seS 1040960 0 s.length), (5, .int .i64 a), (6, .int .i64 (findF a s 0)), (7, .int .i64 (i : Nat))], [(1040960, .row 48 seS s)]⟩ := by
  have hend : ∀ i : Nat, ¬ i < s.length → GD 6 Try.f6 QT (hd Try.f6 1) ⟨[(3, .bool true), (4, .win true seS 1040960 0 s.length), (5, .int .i64 a), (6, .int .i64 (findF a s 0)), (7, .int .i64 (i : Nat))], [(1040960, .row 48 seS s)]⟩ := by
    intro i hi
    refine sy_goK dx1 (vc_l6B s a (findF a s 0) i _ _) ?_
    rw [decide_eq_false (by omega), bc_f, IntWalk.i64_in (a + 1) (by omega)]
    exact next.only ⟨rfl, rfl, rfl, trivial⟩ ⟨rfl, trivial⟩
  intro k
  induction k with
  | zero => intro i hk hi; exact hend i (by omega)
  | succ k ih =>
    intro i hk hi
    by_cases h : i < s.length
    · refine sy_goK dx1 (vc_l6B s a (findF a s 0) i _ _) ?_
      have e1 : gt seS s (0 + (i : Int).toNat) = s[i] := by rw [Nat.zero_add]; exact gtE h
      have hf := find_at (a := a) 0 hs i h
      rw [Nat.zero_add] at hf
      have k2 := ih (i + 1) (by omega) (by omega)
      rw [decide_eq_true (show (i : Int) < (s.length : Int) by omega), bc_t, e1, IntWalk.i64_in ((i : Int) + 1) (by omega), cond_true]
      refine ⟨by omega, by omega, by omega, bc_of (fun h1 => ⟨by omega, by omega, by omega, ?_⟩) (fun h1 => ⟨rfl, ?_⟩)⟩
      · have h1 : s[i].2.1 ≤ a := of_decide_eq_true h1
        have e2 : decide (a < s[i].2.2.1) = decide ((i : Int) = findF a s 0) := decide_eq_decide.2 ⟨fun q => hf.1 ⟨h1, q⟩, fun q => (hf.2 q).2⟩
        show bc (!decide (a < s[i].2.2.1) == decide ((i : Int) = findF a s 0)) _ _
        rw [e2, beq_self_eq_true, Bool.not_true, bc_f]
        exact k2
      · have h1 : ¬ s[i].2.1 ≤ a := of_decide_eq_false h1
        have e2 : decide ((i : Int) = findF a s 0) = false := decide_eq_false fun q => h1 (hf.2 q).1
        rw [e2, beq_self_eq_true, Bool.not_true, bc_f]
        exact k2
    · exact hend i h
theorem l6_out {s : List Sec} (hs : asc 0 s) (hl : s.length ≤ 8) : ∀ (k : Nat) (a : Int), 302 - a ≤ k → -2 ≤ a → a ≤ 302 →
    GD 6 Try.f6 QT (hd Try.f6 0) ⟨[(3, .bool true), (4, .win true seS 1040960 0 s.length), (5, .int .i64 a)], [(1040960, .row 48 seS s)]⟩ := by
  have hpre : ∀ a, ctFind.pre (s, a, ()) := fun a => (show s.length < 1048576 by omega)
  intro k
  induction k with
  | zero =>
    intro a hk h1 h2
    refine sy_goK dx1 (vc_l6A s a _ _) ?_
    rw [decide_eq_false (by omega), bc_f]
  | succ k ih =>
    intro a hk h1 h2
    by_cases h : a < 302
    · refine sy_goK dx1 (vc_l6A s a _ _) ?_
      have hb := find_bd a s 0
      have next := ih (a + 1) (by omega) (by omega) (by omega)
      rw [decide_eq_true h, bc_t, winA, decide_eq_false (show ¬ findF a s 0 < -1 by omega), bc_f, cond_false, decide_eq_false (show ¬ (s.length : Int) ≤ findF a s 0 by omega), bc_f]
      exact ⟨by omega, hpre a, l6_in hs hl ⟨h1, h⟩ next _ 0 (Nat.le_refl _) (Nat.zero_le _)⟩
    · exact ih a (by omega) h1 h2
def ctL6 : Ctr := ⟨[.sl rwS], fun x => ∀ r ∈ (x.1 : List Raw), rawOK r, fun _ => [.bool true], fun _ => []⟩
theorem l6_run (l : List Raw) (hp : ∀ r ∈ l, rawOK r) : sy tt G0 D1 Try.f6.ntmps Try.f6.results.toList (QC ctL6 (l, ())) (Px.Good Try.prog tt G0 6 Try.f6.ntmps Try.f6.results.toList (QC ctL6 (l, ()))) 1000 [.code (bodyOf Try.f6)] (entry [.sl rwS] (l, ())) := by
  rw [vc_l6]
  have hm : ctMk.pre (l, 300, ()) := ⟨hp, (show (0 : Int) ≤ 300 by decide), (show (300 : Int) < 100000 by decide)⟩
  have hl := mk_len 300 nmL 0 l
  exact ⟨trivial, hm, ((l6_out (asc_mk 300 nmL 0 l hp) hl 304 (-2) (by omega) (by omega) (by omega)).post fun rs blk hq => QC.flat (by rw [hq]; rfl) rfl (by rw [hq]; rfl)).only ⟨rfl, rfl, rfl, trivial⟩ ⟨rfl, trivial⟩⟩
theorem l6_held : Held Try.prog G0 6 ctL6 := Held.run dx1 (fn := Try.f6) rfl rfl ⟨by decide, by decide⟩ fun x hp => l6_run x.1 hp
theorem u8_of {n : Int} (h : (Lit.int .u8 n).wf = true) : 0 ≤ n ∧ n < 256 := by
  have := Go.bounds_u8 h
  exact ⟨this.1, by omega⟩
theorem raw_of {l : List Raw} (h : wfD (.sl rwS) l) : ∀ r ∈ l, rawOK r := fun r hr => by
  have := h.2 r hr
  exact ⟨u8_of this.1, u8_of this.2.1, u8_of this.2.2.1⟩
end Go.Proofs.Ythcjddhlindopaa
namespace Go.Proofs.Ythcjddhlindopaa
open Go.Px Go.Ax
set_option maxRecDepth 100000
theorem vc_let (c : Int) (Q : List SV → List (Nat × LB) → Prop) (R : List Item → PS → Prop) : sy tt G0 D1 Try.f56.ntmps Try.f56.results.toList Q R 1000 [.code (bodyOf Try.f56)] (entry [.int .i32] (c, ())) =
    (bc (decide ((97 : Int) ≤ c))
 (bc (bif true then decide (c ≤ (122 : Int)) else false) (true = true ∧ Q [SV.bool true] [])
 (bc (decide ((65 : Int) ≤ c))
 (Q [SV.bool (bif false then true else bif true then decide (c ≤ (90 : Int)) else false)] [])
 (false = false ∧ Q [SV.bool (bif false then true else false)] [])))
 (false = false ∧
 bc (decide ((65 : Int) ≤ c))
 (Q [SV.bool (bif false then true else bif true then decide (c ≤ (90 : Int)) else false)] [])
 (false = false ∧ Q [SV.bool (bif false then true else false)] []))) := by kernel_rfl
theorem vc_dig (c : Int) (Q : List SV → List (Nat × LB) → Prop) (R : List Item → PS → Prop) : sy tt G0 D1 Try.f57.ntmps Try.f57.results.toList Q R 1000 [.code (bodyOf Try.f57)] (entry [.int .i32] (c, ())) =
    (bc (decide ((48 : Int) ≤ c)) (Q [SV.bool (bif true then decide (c ≤ (57 : Int)) else false)] [])
 (false = false ∧ Q [SV.bool false] [])) := by kernel_rfl
theorem vc_sgn (c : Int) (Q : List SV → List (Nat × LB) → Prop) (R : List Item → PS → Prop) : sy tt G0 D1 Try.f58.ntmps Try.f58.results.toList Q R 1000 [.code (bodyOf Try.f58)] (entry [.int .u8] (c, ())) =
    (bc (decide ((97 : Int) ≤ c))
 (bc (bif true then decide (c ≤ (122 : Int)) else false) (true = true ∧ true = true ∧ Q [SV.bool true] [])
 (bc (decide ((65 : Int) ≤ c))
 (bc (bif false then true else bif true then decide (c ≤ (90 : Int)) else false)
 (true = true ∧ Q [SV.bool true] [])
 (bc (decide ((48 : Int) ≤ c))
 (Q [SV.bool (bif false then true else bif true then decide (c ≤ (57 : Int)) else false)] [])
 (false = false ∧ Q [SV.bool (bif false then true else false)] [])))
 (false = false ∧
 bc (decide ((48 : Int) ≤ c))
 (Q [SV.bool (bif false then true else bif true then decide (c ≤ (57 : Int)) else false)] [])
 (false = false ∧ Q [SV.bool (bif false then true else false)] []))))
 (false = false ∧
 bc (decide ((65 : Int) ≤ c))
 (bc (bif false then true else bif true then decide (c ≤ (90 : Int)) else false)
 (true = true ∧ Q [SV.bool true] [])
 (bc (decide ((48 : Int) ≤ c))
 (Q [SV.bool (bif false then true else bif true then decide (c ≤ (57 : Int)) else false)] [])
 (false = false ∧ Q [SV.bool (bif false then true else false)] [])))
 (false = false ∧
 bc (decide ((48 : Int) ≤ c))
 (Q [SV.bool (bif false then true else bif true then decide (c ≤ (57 : Int)) else false)] [])
 (false = false ∧ Q [SV.bool (bif false then true else false)] [])))) := by kernel_rfl
theorem vc_has (l : List Sec) (s : List UInt8) (Q : List SV → List (Nat × LB) → Prop) (R : List Item → PS → Prop) : sy tt G0 D1 Try.f49.ntmps Try.f49.results.toList Q R 1000 [.code (bodyOf Try.f49)] (entry [.sl seS, .str] (l, s, ())) =
    (R (hd Try.f49 (0 : Nat))
 {
 env :=
 [((0 : Nat), SV.sl (Sh.str.pair ((Sh.int IntKind.i64).pair ((Sh.int IntKind.i64).pair Sh.bool))) l),
 ((1 : Nat), SV.str s), ((4 : Nat), SV.bool false),
 ((7 : Nat), SV.sl (Sh.str.pair ((Sh.int IntKind.i64).pair ((Sh.int IntKind.i64).pair Sh.bool))) l),
 ((8 : Nat), SV.int IntKind.i64 (↑l.length : Int)), ((9 : Nat), SV.int IntKind.i64 (0 : Int))],
 blk := [] }) := by kernel_rfl
theorem vc_hasL (l : List Sec) (s : List UInt8) (i : Int) (Q : List SV → List (Nat × LB) → Prop) (R : List Item → PS → Prop) : sy tt G0 D1 Try.f49.ntmps Try.f49.results.toList Q (fun it S => R it (keepS [1, 7, 8, 9] [] S)) 1000 (hd Try.f49 0) ⟨[(1, .str s), (7, .sl seS l), (8, .int .i64 l.length), (9, .int .i64 i)], []⟩ =
    (bc (decide (i < (↑l.length : Int)))
 ((0 : Int) ≤ i ∧
 i < (↑l.length : Int) ∧
 bc (decide ((gt (Sh.str.pair ((Sh.int IntKind.i64).pair ((Sh.int IntKind.i64).pair Sh.bool))) l i.toNat).fst = s))
 (Q [SV.bool true]
 [((6 : Nat),
 LB.var
 [SV.str
 (gt (Sh.str.pair ((Sh.int IntKind.i64).pair ((Sh.int IntKind.i64).pair Sh.bool))) l i.toNat).fst,
 SV.int IntKind.i64
 (gt (Sh.str.pair ((Sh.int IntKind.i64).pair ((Sh.int IntKind.i64).pair Sh.bool))) l
 i.toNat).snd.fst,
 SV.int IntKind.i64
 (gt (Sh.str.pair ((Sh.int IntKind.i64).pair ((Sh.int IntKind.i64).pair Sh.bool))) l
 i.toNat).snd.snd.fst,
 SV.bool
 (gt (Sh.str.pair ((Sh.int IntKind.i64).pair ((Sh.int IntKind.i64).pair Sh.bool))) l
 i.toNat).snd.snd.snd])])
 (R (hd Try.f49 (0 : Nat))
 {
 env :=
 [((1 : Nat), SV.str s),
 ((7 : Nat), SV.sl (Sh.str.pair ((Sh.int IntKind.i64).pair ((Sh.int IntKind.i64).pair Sh.bool))) l),
 ((8 : Nat), SV.int IntKind.i64 (↑l.length : Int)),
 ((9 : Nat), SV.int IntKind.i64 (IntKind.i64.wrap (i + (1 : Int))))],
 blk := [] }))
 (Q [SV.bool false] [])) := by kernel_rfl
theorem vc_plc (x : Sec) (e n : Int) (Q : List SV → List (Nat × LB) → Prop) (R : List Item → PS → Prop) : sy tt G0 D1 Try.f50.ntmps Try.f50.results.toList Q R 1000 [.code (bodyOf Try.f50)] (entry [seS, iI, iI] (x, e, n, ())) =
    (bc (decide (x.snd.fst < e))
 (true = true ∧
 true = true ∧
 Q [SV.bool false]
 [((3 : Nat),
 LB.var
 [SV.str x.fst, SV.int IntKind.i64 x.snd.fst, SV.int IntKind.i64 x.snd.snd.fst, SV.bool x.snd.snd.snd])])
 (bc (bif false then true else decide (x.snd.snd.fst ≤ x.snd.fst))
 (true = true ∧
 Q [SV.bool false]
 [((3 : Nat),
 LB.var
 [SV.str x.fst, SV.int IntKind.i64 x.snd.fst, SV.int IntKind.i64 x.snd.snd.fst, SV.bool x.snd.snd.snd])])
 (bc (bif false then true else decide (n < x.snd.snd.fst))
 (Q [SV.bool false]
 [((3 : Nat),
 LB.var
 [SV.str x.fst, SV.int IntKind.i64 x.snd.fst, SV.int IntKind.i64 x.snd.snd.fst, SV.bool x.snd.snd.snd])])
 (bc (!x.snd.snd.snd)
 (true = true ∧
 Q [SV.bool true]
 [((3 : Nat),
 LB.var
 [SV.str x.fst, SV.int IntKind.i64 x.snd.fst, SV.int IntKind.i64 x.snd.snd.fst,
 SV.bool x.snd.snd.snd])])
 ((4 : Int) ≠ (0 : Int) ∧
 bc (decide (Int.tmod x.snd.fst (4 : Int) = (0 : Int)))
 ((4 : Int) ≠ (0 : Int) ∧
 Q
 [SV.bool
 (bif false then true
 else bif true then decide (Int.tmod x.snd.snd.fst (4 : Int) = (0 : Int)) else false)]
 [((3 : Nat),
 LB.var
 [SV.str x.fst, SV.int IntKind.i64 x.snd.fst, SV.int IntKind.i64 x.snd.snd.fst,
 SV.bool x.snd.snd.snd])])
 (false = false ∧
 Q [SV.bool (bif false then true else false)]
 [((3 : Nat),
 LB.var
 [SV.str x.fst, SV.int IntKind.i64 x.snd.fst, SV.int IntKind.i64 x.snd.snd.fst,
 SV.bool x.snd.snd.snd])])))))) := by kernel_rfl
end Go.Proofs.Ythcjddhlindopaa
namespace Go.Proofs.Ythcjddhlindopaa
open Go.Px Go.Ax
attribute [local irreducible] Go.Px.sy Go.Px.syE
def letB (c : Int) : Bool := decide (97 ≤ c ∧ c ≤ 122 ∨ 65 ≤ c ∧ c ≤ 90)
def digB (c : Int) : Bool := decide (48 ≤ c ∧ c ≤ 57)
def sgnB (c : Int) : Bool := letB c || digB c
theorem beq_of {a b : Bool} (h : a = true ↔ b = true) : [SV.bool a] = [SV.bool b] := by
  cases a <;> cases b <;> simp at h ⊢
def ctLet : Ctr := ⟨[.int .i32], fun _ => True, fun x => [.bool (letB x.1)], fun _ => []⟩
def ctDig : Ctr := ⟨[.int .i32], fun _ => True, fun x => [.bool (digB x.1)], fun _ => []⟩
def ctSgn : Ctr := ⟨[.int .u8], fun _ => True, fun x => [.bool (sgnB x.1)], fun _ => []⟩
theorem let_run (c : Int) (R : List Item → PS → Prop) : sy tt G0 D1 Try.f56.ntmps Try.f56.results.toList (QC ctLet (c, ())) R 1000 [.code (bodyOf Try.f56)] (entry [.int .i32] (c, ())) := by
  rw [vc_let]
  simp only [bc_iff, cond_true, cond_false, decide_eq_true_eq, decide_eq_false_iff_not]
  repeat' first
    | exact trivial
    | exact rfl
    | (refine And.intro ?_ ?_)
    | (intro _)
    | (refine QC.flat (beq_of ?_) rfl rfl; simp [letB]; omega)
theorem dig_run (c : Int) (R : List Item → PS → Prop) : sy tt G0 D1 Try.f57.ntmps Try.f57.results.toList (QC ctDig (c, ())) R 1000 [.code (bodyOf Try.f57)] (entry [.int .i32] (c, ())) := by
  rw [vc_dig]
  simp only [bc_iff, cond_true, cond_false, decide_eq_true_eq, decide_eq_false_iff_not]
  repeat' first
    | exact trivial
    | exact rfl
    | (refine And.intro ?_ ?_)
    | (intro _)
    | (refine QC.flat (beq_of ?_) rfl rfl; simp [digB]; omega)
theorem sgn_run (c : Int) (R : List Item → PS → Prop) : sy tt G0 D1 Try.f58.ntmps Try.f58.results.toList (QC ctSgn (c, ())) R 1000 [.code (bodyOf Try.f58)] (entry [.int .u8] (c, ())) := by
  rw [vc_sgn]
  simp only [bc_iff, cond_true, cond_false, decide_eq_true_eq, decide_eq_false_iff_not]
  repeat' first
    | exact trivial
    | exact rfl
    | (refine And.intro ?_ ?_)
    | (intro _)
    | (refine QC.flat (beq_of ?_) rfl rfl; simp [sgnB, letB, digB]; omega)
theorem let_held : Held Try.prog G0 56 ctLet := Held.run dx1 (fn := Try.f56) rfl rfl ⟨by decide, by decide⟩ fun x _ => let_run x.1 _
theorem dig_held : Held Try.prog G0 57 ctDig := Held.run dx1 (fn := Try.f57) rfl rfl ⟨by decide, by decide⟩ fun x _ => dig_run x.1 _
theorem sgn_held : Held Try.prog G0 58 ctSgn := Held.run dx1 (fn := Try.f58) rfl rfl ⟨by decide, by decide⟩ fun x _ => sgn_run x.1 _
def plcB (e n : Int) (s : Sec) : Bool := decide (e ≤ s.2.1 ∧ s.2.1 < s.2.2.1 ∧ s.2.2.1 ≤ n ∧ (s.2.2.2 = true → s.2.1.tmod 4 = 0 ∧ s.2.2.1.tmod 4 = 0))
def ctPlc : Ctr := ⟨[seS, iI, iI], fun _ => True, fun x => [.bool (plcB x.2.1 x.2.2.1 x.1)], fun _ => []⟩
theorem plc_run (x : Sec) (e n : Int) (R : List Item → PS → Prop) : sy tt G0 D1 Try.f50.ntmps Try.f50.results.toList (QC ctPlc (x, e, n, ())) R 1000 [.code (bodyOf Try.f50)] (entry [seS, iI, iI] (x, e, n, ())) := by
  rw [vc_plc]
  obtain ⟨nm, f, t, c⟩ := x
  simp only [bc_iff, cond_true, cond_false, decide_eq_true_eq, decide_eq_false_iff_not]
  cases c <;>
  repeat' first
    | exact trivial
    | exact rfl
    | decide
    | (refine And.intro ?_ ?_)
    | (intro _)
    | (refine QC.flat (beq_of ?_) rfl rfl; simp [plcB]; omega)
    | (exfalso; simp at *; done)
theorem plc_held : Held Try.prog G0 50 ctPlc := Held.run dx1 (fn := Try.f50) rfl rfl ⟨by decide, by decide⟩ fun x _ => plc_run x.1 x.2.1 x.2.2.1 _
def hasN (l : List Sec) (s : List UInt8) : Bool := l.any fun x => decide (x.1 = s)
def preLs (n : Nat) : Prop := n < 2 ^ 62
def ctHas : Ctr := ⟨[.sl seS, .str], fun x => preLs (List.length x.1), fun x => [.bool (hasN x.1 x.2.1)], fun _ => []⟩
theorem has_loop {l : List Sec} {s : List UInt8} (hp : l.length < 2 ^ 62) : ∀ (k i : Nat), l.length - i ≤ k → i ≤ l.length →
    GD 49 Try.f49 (fun rs _ => rs = [.bool (hasN (l.drop i) s)]) (hd Try.f49 0) ⟨[(1, .str s), (7, .sl seS l), (8, .int .i64 l.length), (9, .int .i64 (i : Nat))], []⟩ := by
  intro k
  induction k with
  | zero =>
    intro i h1 h2
    refine sy_goK dx1 (vc_hasL l s i _ _) ?_
    rw [decide_eq_false (by omega), bc_f, List.drop_eq_nil_of_le (by omega)]
    rfl
  | succ k ih =>
    intro i h1 h2
    by_cases hi : i < l.length
    · refine sy_goK dx1 (vc_hasL l s i _ _) ?_
      have e1 : gt seS l (i : Int).toNat = l[i] := gtE hi
      rw [decide_eq_true (show (i : Int) < (l.length : Int) by omega), bc_t, e1, IntWalk.i64_in ((i : Int) + 1) (by omega), dropc hi]
      have k2 := ih (i + 1) (by omega) (by omega)
      have hh : hasN (l[i] :: l.drop (i + 1)) s = (decide (l[i].1 = s) || hasN (l.drop (i + 1)) s) := rfl
      rw [hh]
      refine ⟨by omega, by omega, bc_of (fun ha => ?_) (fun ha => ?_)⟩
      · have ha : decide (l[i].1 = s) = true := ha
        rw [ha]; rfl
      · have ha : decide (l[i].1 = s) = false := ha
        rw [ha, Bool.false_or]
        exact k2
    · exact ih i (by omega) h2
theorem has_run (l : List Sec) (s : List UInt8) (hp : preLs l.length) : sy tt G0 D1 Try.f49.ntmps Try.f49.results.toList (QC ctHas (l, s, ())) (Px.Good Try.prog tt G0 49 Try.f49.ntmps Try.f49.results.toList (QC ctHas (l, s, ()))) 1000 [.code (bodyOf Try.f49)] (entry [.sl seS, .str] (l, s, ())) := by
  rw [vc_has]
  exact ((has_loop hp _ 0 (Nat.le_refl _) (Nat.zero_le _)).post fun rs blk hq => QC.flat (by rw [hq]; rfl) rfl (by rw [hq]; rfl)).only ⟨rfl, rfl, rfl, rfl, trivial⟩ trivial
theorem has_held : Held Try.prog G0 49 ctHas := Held.run dx1 (fn := Try.f49) rfl rfl ⟨by decide, by decide⟩ fun x hp => has_run x.1 x.2.1 hp
abbrev D2 : CV := (49, .inl ctHas) :: (50, .inl ctPlc) :: (56, .inl ctLet) :: (57, .inl ctDig) :: (58, .inl ctSgn) :: D1
theorem dx2 : CxOK Try.prog tt G0 D2 := ((((dx1.cons sgn_held (fn := Try.f58) rfl rfl rfl).cons dig_held (fn := Try.f57) rfl rfl rfl).cons let_held (fn := Try.f56) rfl rfl rfl).cons plc_held (fn := Try.f50) rfl rfl rfl).cons has_held (fn := Try.f49) rfl rfl rfl
end Go.Proofs.Ythcjddhlindopaa
namespace Go.Proofs.Ythcjddhlindopaa
open Go.Px Go.Ax
set_option maxRecDepth 100000
theorem vc_nam (s : List UInt8) (Q : List SV → List (Nat × LB) → Prop) (R : List Item → PS → Prop) : sy tt G0 D2 Try.f48.ntmps Try.f48.results.toList Q R 1000 [.code (bodyOf Try.f48)] (entry [.str] (s, ())) =
    (bc (decide ((↑s.length : Int) < (1 : Int))) (true = true ∧ Q [SV.bool false] [])
 (bc (bif false then true else decide ((12 : Int) < (↑s.length : Int))) (Q [SV.bool false] [])
 (R (hd Try.f48 (0 : Nat))
 {
 env :=
 [((0 : Nat), SV.str s), ((2 : Nat), SV.bool false), ((5 : Nat), SV.str s),
 ((6 : Nat), SV.int IntKind.i64 (↑s.length : Int)),
 ((7 : Nat), SV.bool (decide ((↑s.length : Int) < (1 : Int)))), ((8 : Nat), SV.bool false),
 ((9 : Nat), SV.str s), ((10 : Nat), SV.int IntKind.i64 (↑s.length : Int)),
 ((11 : Nat), SV.bool (decide ((12 : Int) < (↑s.length : Int)))),
 ((12 : Nat), SV.bool (bif false then true else decide ((12 : Int) < (↑s.length : Int)))),
 ((13 : Nat), SV.str s), ((14 : Nat), SV.ptr (14 : Nat) (0 : Nat))], blk := [((14 : Nat), LB.iter s (0 : Nat))] }))) := by kernel_rfl
theorem vc_namL (s : List UInt8) (p : Nat) (Q : List SV → List (Nat × LB) → Prop) (R : List Item → PS → Prop) : sy tt G0 D2 Try.f48.ntmps Try.f48.results.toList Q (fun it S => R it (keepS [14] [14] S)) 1000 (hd Try.f48 0) ⟨[(14, .ptr 14 0)], [(14, .iter s p)]⟩ =
    (bc (decide (p < s.length))
 (ctLet.pre ((↑(runeAt s p).fst : Int), ()) ∧
 bc (!letB (↑(runeAt s p).fst : Int))
 (ctDig.pre ((↑(runeAt s p).fst : Int), ()) ∧
 bc (bif true then !digB (↑(runeAt s p).fst : Int) else false)
 (Q [SV.bool false] [((14 : Nat), LB.iter s (nxtPos s p true))])
 (R (hd Try.f48 (0 : Nat))
 { env := [((14 : Nat), SV.ptr (14 : Nat) (0 : Nat))], blk := [((14 : Nat), LB.iter s (nxtPos s p true))] }))
 (false = false ∧
 R (hd Try.f48 (0 : Nat))
 { env := [((14 : Nat), SV.ptr (14 : Nat) (0 : Nat))], blk := [((14 : Nat), LB.iter s (nxtPos s p true))] }))
 (Q [SV.bool true] [((14 : Nat), LB.iter s (nxtPos s p false))])) := by kernel_rfl
theorem vc_rnm (s : List UInt8) (Q : List SV → List (Nat × LB) → Prop) (R : List Item → PS → Prop) : sy tt G0 D2 Try.f51.ntmps Try.f51.results.toList Q R 1000 [.code (bodyOf Try.f51)] (entry [.str] (s, ())) =
    (R (hd Try.f51 (0 : Nat))
 { env := [((0 : Nat), SV.str s), ((2 : Nat), SV.bool false), ((3 : Nat), SV.int IntKind.i64 (0 : Int))], blk := [] }) := by kernel_rfl
theorem vc_rnmL (s : List UInt8) (i : Int) (Q : List SV → List (Nat × LB) → Prop) (R : List Item → PS → Prop) : sy tt G0 D2 Try.f51.ntmps Try.f51.results.toList Q (fun it S => R it (keepS [0, 3] [] S)) 1000 (hd Try.f51 0) ⟨[(0, .str s), (3, .int .i64 i)], []⟩ =
    (bc (decide (i < (↑s.length : Int)))
 ((0 : Int) ≤ i ∧
 i < (↑s.length : Int) ∧
 ctSgn.pre ((↑(s[i.toNat]?.getD (0 : UInt8)).toNat : Int), ()) ∧
 bc (!sgnB (↑(s[i.toNat]?.getD (0 : UInt8)).toNat : Int)) (Q [SV.bool false] [])
 (R (hd Try.f51 (0 : Nat))
 { env := [((0 : Nat), SV.str s), ((3 : Nat), SV.int IntKind.i64 (IntKind.i64.wrap (i + (1 : Int))))], blk := [] }))
 (bc (decide ((1 : Int) ≤ (↑s.length : Int)))
 (Q [SV.bool (bif true then decide ((↑s.length : Int) ≤ (12 : Int)) else false)] [])
 (false = false ∧ Q [SV.bool false] []))) := by kernel_rfl
end Go.Proofs.Ythcjddhlindopaa
namespace Go.Proofs.Ythcjddhlindopaa
open Go.Px Go.Ax
attribute [local irreducible] Go.Px.sy Go.Px.syE
/-- Signs of a name. -/
def allS (s : List UInt8) : Bool := s.all fun c => sgnB (c.toNat : Int)
def nameB (s : List UInt8) : Bool := decide (1 ≤ s.length) && decide (s.length ≤ 12) && allS s
theorem allS_step {s : List UInt8} {i : Nat} (h : i < s.length) : allS (s.drop i) = (sgnB (s[i].toNat : Int) && allS (s.drop (i + 1))) := by
  rw [dropc h]; rfl
theorem sgn_hi {c : Int} (h : 128 ≤ c) : letB c = false ∧ digB c = false := by
  constructor
  · exact decide_eq_false (by omega)
  · exact decide_eq_false (by omega)
theorem nam_loop (s : List UInt8) : ∀ (k i : Nat), s.length - i ≤ k →
    GD 48 Try.f48 (fun rs _ => rs = [.bool (allS (s.drop i))]) (hd Try.f48 0) ⟨[(14, .ptr 14 0)], [(14, .iter s i)]⟩ := by
  have hend : ∀ i : Nat, ¬ i < s.length → GD 48 Try.f48 (fun rs _ => rs = [.bool (allS (s.drop i))]) (hd Try.f48 0) ⟨[(14, .ptr 14 0)], [(14, .iter s i)]⟩ := by
    intro i hi
    refine sy_goK dx2 (vc_namL s i _ _) ?_
    rw [decide_eq_false hi, bc_f, List.drop_eq_nil_of_le (by omega)]
    rfl
  intro k
  induction k with
  | zero => intro i h1; exact hend i (by omega)
  | succ k ih =>
    intro i h1
    by_cases hi : i < s.length
    · refine sy_goK dx2 (vc_namL s i _ _) ?_
      rw [decide_eq_true hi, bc_t, allS_step hi, cond_true]
      by_cases hb : s[i].toNat < 128
      · have k2 := ih (i + 1) (by omega)
        rw [nxtPos, runeAt_lo hi hb, sgnB]
        refine ⟨trivial, bc_of (fun h => ⟨trivial, bc_of (fun h2 => ?_) (fun h2 => ?_)⟩) (fun h => ⟨rfl, ?_⟩)⟩
        · simp only [Bool.not_eq_true'] at h h2
          simp only [h, h2, Bool.or_self, Bool.false_and]
        · simp only [Bool.not_eq_false'] at h2
          rw [h2, Bool.or_true, Bool.true_and]
          exact k2
        · simp only [Bool.not_eq_false'] at h
          rw [h, Bool.true_or, Bool.true_and]
          exact k2
      · obtain ⟨r1, r2, _⟩ := runeAt_hi hi (by omega)
        obtain ⟨s1, s2⟩ := sgn_hi (c := ((runeAt s i).1 : Int)) (by omega)
        obtain ⟨s3, s4⟩ := sgn_hi (c := (s[i].toNat : Int)) (by omega)
        rw [s1, s2, sgnB, s3, s4]
        exact ⟨trivial, trivial, rfl⟩
    · exact hend i hi
def ctNam : Ctr := ⟨[.str], fun _ => True, fun x => [.bool (nameB x.1)], fun _ => []⟩
theorem nam_run (s : List UInt8) : sy tt G0 D2 Try.f48.ntmps Try.f48.results.toList (QC ctNam (s, ())) (Px.Good Try.prog tt G0 48 Try.f48.ntmps Try.f48.results.toList (QC ctNam (s, ()))) 1000 [.code (bodyOf Try.f48)] (entry [.str] (s, ())) := by
  rw [vc_nam]
  refine bc_of (fun h => ⟨rfl, ?_⟩) (fun h => ?_)
  · have h := of_decide_eq_true h
    refine QC.flat (beq_of ?_) rfl rfl
    simp [nameB]; omega
  · have h := of_decide_eq_false h
    rw [cond_false]
    refine bc_of (fun h2 => ?_) (fun h2 => ?_)
    · have h2 := of_decide_eq_true h2
      refine QC.flat (beq_of ?_) rfl rfl
      simp [nameB]; omega
    · have h2 := of_decide_eq_false h2
      have e : nameB s = allS (s.drop 0) := by
        unfold nameB
        rw [decide_eq_true (by omega), decide_eq_true (by omega)]; rfl
      refine ((nam_loop s _ 0 (Nat.le_refl _)).post fun rs blk hq => QC.flat (by rw [hq, ← e]; rfl) rfl (by rw [hq]; rfl)).only ⟨rfl, trivial⟩ ⟨rfl, trivial⟩
theorem nam_held : Held Try.prog G0 48 ctNam := Held.run dx2 (fn := Try.f48) rfl rfl ⟨by decide, by decide⟩ fun x _ => nam_run x.1
def ctRnm : Ctr := ⟨[.str], fun x => preLs (List.length x.1), fun x => [.bool (nameB x.1)], fun _ => []⟩
theorem rnm_loop {s : List UInt8} (hs : s.length < 2 ^ 62) : ∀ (k i : Nat), s.length - i ≤ k → i ≤ s.length →
    GD 51 Try.f51 (fun rs _ => rs = [.bool (allS (s.drop i) && (decide (1 ≤ s.length) && decide (s.length ≤ 12)))]) (hd Try.f51 0) ⟨[(0, .str s), (3, .int .i64 (i : Nat))], []⟩ := by
  have hend : ∀ i : Nat, ¬ i < s.length → GD 51 Try.f51 (fun rs _ => rs = [.bool (allS (s.drop i) && (decide (1 ≤ s.length) && decide (s.length ≤ 12)))]) (hd Try.f51 0) ⟨[(0, .str s), (3, .int .i64 (i : Nat))], []⟩ := by
    intro i hi
    refine sy_goK dx2 (vc_rnmL s i _ _) ?_
    rw [decide_eq_false (by omega), bc_f, List.drop_eq_nil_of_le (by omega), cond_true]
    refine bc_of (fun h => ?_) (fun h => ⟨rfl, ?_⟩)
    · have h := of_decide_eq_true h
      exact beq_of (by simp [allS]; omega)
    · have h := of_decide_eq_false h
      exact beq_of (by simp [allS]; omega)
  intro k
  induction k with
  | zero => intro i h1 _; exact hend i (by omega)
  | succ k ih =>
    intro i h1 h2
    by_cases hi : i < s.length
    · refine sy_goK dx2 (vc_rnmL s i _ _) ?_
      have e1 : s[(i : Int).toNat]?.getD 0 = s[i] := by rw [Int.toNat_natCast, List.getElem?_eq_getElem hi]; rfl
      rw [decide_eq_true (show (i : Int) < (s.length : Int) by omega), bc_t, e1, allS_step hi, IntWalk.i64_in ((i : Int) + 1) (by omega)]
      have k2 := ih (i + 1) (by omega) (by omega)
      refine ⟨by omega, by omega, trivial, bc_of (fun h => ?_) (fun h => ?_)⟩
      · simp only [Bool.not_eq_true'] at h
        rw [h, Bool.false_and, Bool.false_and]
      · simp only [Bool.not_eq_false'] at h
        rw [h, Bool.true_and]
        exact k2
    · exact hend i hi
theorem rnm_run (s : List UInt8) (hs : preLs s.length) : sy tt G0 D2 Try.f51.ntmps Try.f51.results.toList (QC ctRnm (s, ())) (Px.Good Try.prog tt G0 51 Try.f51.ntmps Try.f51.results.toList (QC ctRnm (s, ()))) 1000 [.code (bodyOf Try.f51)] (entry [.str] (s, ())) := by
  rw [vc_rnm]
  refine ((rnm_loop hs _ 0 (Nat.le_refl _) (Nat.zero_le _)).post fun rs blk hq => QC.flat (by rw [hq]; exact beq_of (by simp only [nameB, List.drop_zero, Bool.and_eq_true]; exact ⟨fun h => ⟨h.2, h.1⟩, fun h => ⟨h.2, h.1⟩⟩)) rfl (by rw [hq]; rfl)).only ⟨rfl, rfl, trivial⟩ trivial
theorem rnm_held : Held Try.prog G0 51 ctRnm := Held.run dx2 (fn := Try.f51) rfl rfl ⟨by decide, by decide⟩ fun x hp => rnm_run x.1 hp
abbrev D3 : CV := (48, .inl ctNam) :: (51, .inl ctRnm) :: D2
theorem dx3 : CxOK Try.prog tt G0 D3 := (dx2.cons rnm_held (fn := Try.f51) rfl rfl rfl).cons nam_held (fn := Try.f48) rfl rfl rfl
end Go.Proofs.Ythcjddhlindopaa
namespace Go.Proofs.Ythcjddhlindopaa
open Go.Px Go.Ax
set_option maxRecDepth 100000
theorem vc_val (l : List Sec) (n : Int) (Q : List SV → List (Nat × LB) → Prop) (R : List Item → PS → Prop) : sy tt G0 D3 Try.f30.ntmps Try.f30.results.toList Q R 1000 [.code (bodyOf Try.f30)] (entry [.sl seS, iI] (l, n, ())) =
    (bc (decide ((8 : Int) < (↑l.length : Int))) (Q [SV.bool false] [])
 (R (hd Try.f30 (0 : Nat))
 {
 env :=
 [((0 : Nat), SV.sl (Sh.str.pair ((Sh.int IntKind.i64).pair ((Sh.int IntKind.i64).pair Sh.bool))) l),
 ((1 : Nat), SV.int IntKind.i64 n), ((4 : Nat), SV.bool false), ((5 : Nat), SV.int IntKind.i64 (0 : Int)),
 ((8 : Nat), SV.sl (Sh.str.pair ((Sh.int IntKind.i64).pair ((Sh.int IntKind.i64).pair Sh.bool))) l),
 ((9 : Nat), SV.int IntKind.i64 (↑l.length : Int)),
 ((10 : Nat), SV.bool (decide ((8 : Int) < (↑l.length : Int)))),
 ((11 : Nat), SV.sl (Sh.str.pair ((Sh.int IntKind.i64).pair ((Sh.int IntKind.i64).pair Sh.bool))) l),
 ((12 : Nat), SV.int IntKind.i64 (↑l.length : Int)), ((13 : Nat), SV.int IntKind.i64 (0 : Int))], blk := [] })) := by kernel_rfl
theorem vc_valL (l : List Sec) (n e i : Int) (Q : List SV → List (Nat × LB) → Prop) (R : List Item → PS → Prop) : sy tt G0 D3 Try.f30.ntmps Try.f30.results.toList Q (fun it S => R it (keepS [0, 1, 5, 11, 12, 13] [] S)) 1000 (hd Try.f30 0) ⟨[(0, .sl seS l), (1, .int .i64 n), (5, .int .i64 e), (11, .sl seS l), (12, .int .i64 l.length), (13, .int .i64 i)], []⟩ =
    (bc (decide (i < (↑l.length : Int)))
 ((0 : Int) ≤ i ∧
 i < (↑l.length : Int) ∧
 ctNam.pre ((gt (Sh.str.pair ((Sh.int IntKind.i64).pair ((Sh.int IntKind.i64).pair Sh.bool))) l i.toNat).fst, ()) ∧
 bc (!nameB (gt (Sh.str.pair ((Sh.int IntKind.i64).pair ((Sh.int IntKind.i64).pair Sh.bool))) l i.toNat).fst)
 (true = true ∧
 true = true ∧
 Q [SV.bool false]
 [((7 : Nat),
 LB.var
 [SV.str
 (gt (Sh.str.pair ((Sh.int IntKind.i64).pair ((Sh.int IntKind.i64).pair Sh.bool))) l
 i.toNat).fst,
 SV.int IntKind.i64
 (gt (Sh.str.pair ((Sh.int IntKind.i64).pair ((Sh.int IntKind.i64).pair Sh.bool))) l
 i.toNat).snd.fst,
 SV.int IntKind.i64
 (gt (Sh.str.pair ((Sh.int IntKind.i64).pair ((Sh.int IntKind.i64).pair Sh.bool))) l
 i.toNat).snd.snd.fst,
 SV.bool
 (gt (Sh.str.pair ((Sh.int IntKind.i64).pair ((Sh.int IntKind.i64).pair Sh.bool))) l
 i.toNat).snd.snd.snd])])
 ((0 : Int) ≤ i ∧
 i ≤ (↑l.length : Int) ∧
 ctHas.pre
 (List.take i.toNat l,
 (gt (Sh.str.pair ((Sh.int IntKind.i64).pair ((Sh.int IntKind.i64).pair Sh.bool))) l i.toNat).fst,
 ()) ∧
 bc
 (bif false then true
 else
 hasN (List.take i.toNat l)
 (gt (Sh.str.pair ((Sh.int IntKind.i64).pair ((Sh.int IntKind.i64).pair Sh.bool))) l i.toNat).fst)
 (true = true ∧
 Q [SV.bool false]
 [((7 : Nat),
 LB.var
 [SV.str
 (gt (Sh.str.pair ((Sh.int IntKind.i64).pair ((Sh.int IntKind.i64).pair Sh.bool))) l
 i.toNat).fst,
 SV.int IntKind.i64
 (gt (Sh.str.pair ((Sh.int IntKind.i64).pair ((Sh.int IntKind.i64).pair Sh.bool))) l
 i.toNat).snd.fst,
 SV.int IntKind.i64
 (gt (Sh.str.pair ((Sh.int IntKind.i64).pair ((Sh.int IntKind.i64).pair Sh.bool))) l
 i.toNat).snd.snd.fst,
 SV.bool
 (gt (Sh.str.pair ((Sh.int IntKind.i64).pair ((Sh.int IntKind.i64).pair Sh.bool))) l
 i.toNat).snd.snd.snd])])
 (ctPlc.pre
 (((gt (Sh.str.pair ((Sh.int IntKind.i64).pair ((Sh.int IntKind.i64).pair Sh.bool))) l
 i.toNat).fst,
 (gt (Sh.str.pair ((Sh.int IntKind.i64).pair ((Sh.int IntKind.i64).pair Sh.bool))) l
 i.toNat).snd.fst,
 (gt (Sh.str.pair ((Sh.int IntKind.i64).pair ((Sh.int IntKind.i64).pair Sh.bool))) l
 i.toNat).snd.snd.fst,
 (gt (Sh.str.pair ((Sh.int IntKind.i64).pair ((Sh.int IntKind.i64).pair Sh.bool))) l
 i.toNat).snd.snd.snd),
 e, n, ()) ∧
 bc
 (bif false then true
 else
 !plcB e n
 ((gt (Sh.str.pair ((Sh.int IntKind.i64).pair ((Sh.int IntKind.i64).pair Sh.bool))) l
 i.toNat).fst,
 (gt (Sh.str.pair ((Sh.int IntKind.i64).pair ((Sh.int IntKind.i64).pair Sh.bool))) l
 i.toNat).snd.fst,
 (gt (Sh.str.pair ((Sh.int IntKind.i64).pair ((Sh.int IntKind.i64).pair Sh.bool))) l
 i.toNat).snd.snd.fst,
 (gt (Sh.str.pair ((Sh.int IntKind.i64).pair ((Sh.int IntKind.i64).pair Sh.bool))) l
 i.toNat).snd.snd.snd))
 (Q [SV.bool false]
 [((7 : Nat),
 LB.var
 [SV.str
 (gt (Sh.str.pair ((Sh.int IntKind.i64).pair ((Sh.int IntKind.i64).pair Sh.bool))) l
 i.toNat).fst,
 SV.int IntKind.i64
 (gt (Sh.str.pair ((Sh.int IntKind.i64).pair ((Sh.int IntKind.i64).pair Sh.bool))) l
 i.toNat).snd.fst,
 SV.int IntKind.i64
 (gt (Sh.str.pair ((Sh.int IntKind.i64).pair ((Sh.int IntKind.i64).pair Sh.bool))) l
 i.toNat).snd.snd.fst,
 SV.bool
 (gt (Sh.str.pair ((Sh.int IntKind.i64).pair ((Sh.int IntKind.i64).pair Sh.bool))) l
 i.toNat).snd.snd.snd])])
 (R (hd Try.f30 (0 : Nat))
 {
 env :=
 [((0 : Nat),
 SV.sl (Sh.str.pair ((Sh.int IntKind.i64).pair ((Sh.int IntKind.i64).pair Sh.bool))) l),
 ((1 : Nat), SV.int IntKind.i64 n),
 ((5 : Nat),
 SV.int IntKind.i64
 (gt (Sh.str.pair ((Sh.int IntKind.i64).pair ((Sh.int IntKind.i64).pair Sh.bool))) l
 i.toNat).snd.snd.fst),
 ((11 : Nat),
 SV.sl (Sh.str.pair ((Sh.int IntKind.i64).pair ((Sh.int IntKind.i64).pair Sh.bool))) l),
 ((12 : Nat), SV.int IntKind.i64 (↑l.length : Int)),
 ((13 : Nat), SV.int IntKind.i64 (IntKind.i64.wrap (i + (1 : Int))))], blk := [] }))))
 (Q [SV.bool true] [])) := by kernel_rfl
theorem vc_rvl (l : List Sec) (n : Int) (Q : List SV → List (Nat × LB) → Prop) (R : List Item → PS → Prop) : sy tt G0 D3 Try.f31.ntmps Try.f31.results.toList Q R 1000 [.code (bodyOf Try.f31)] (entry [.sl seS, iI] (l, n, ())) =
    (bc (decide ((8 : Int) < (↑l.length : Int))) (Q [SV.bool false] [])
 (R (hd Try.f31 (0 : Nat))
 {
 env :=
 [((0 : Nat), SV.sl (Sh.str.pair ((Sh.int IntKind.i64).pair ((Sh.int IntKind.i64).pair Sh.bool))) l),
 ((1 : Nat), SV.int IntKind.i64 n), ((4 : Nat), SV.bool false), ((5 : Nat), SV.int IntKind.i64 (0 : Int)),
 ((6 : Nat), SV.int IntKind.i64 (0 : Int)),
 ((9 : Nat), SV.sl (Sh.str.pair ((Sh.int IntKind.i64).pair ((Sh.int IntKind.i64).pair Sh.bool))) l),
 ((10 : Nat), SV.int IntKind.i64 (↑l.length : Int)),
 ((11 : Nat), SV.bool (decide ((8 : Int) < (↑l.length : Int))))], blk := [] })) := by kernel_rfl
theorem vc_rvlA (l : List Sec) (n e i : Int) (Q : List SV → List (Nat × LB) → Prop) (R : List Item → PS → Prop) : sy tt G0 D3 Try.f31.ntmps Try.f31.results.toList Q (fun it S => R it (keepS [0, 1, 5, 6, 7, 8] [7] S)) 1000 (hd Try.f31 0) ⟨[(0, .sl seS l), (1, .int .i64 n), (5, .int .i64 e), (6, .int .i64 i)], []⟩ =
    (bc (decide (i < (↑l.length : Int)))
 ((0 : Int) ≤ i ∧
 i < (↑l.length : Int) ∧
 ctRnm.pre ((gt (Sh.str.pair ((Sh.int IntKind.i64).pair ((Sh.int IntKind.i64).pair Sh.bool))) l i.toNat).fst, ()) ∧
 bc (!nameB (gt (Sh.str.pair ((Sh.int IntKind.i64).pair ((Sh.int IntKind.i64).pair Sh.bool))) l i.toNat).fst)
 (true = true ∧
 true = true ∧
 true = true ∧
 true = true ∧
 Q [SV.bool false]
 [((7 : Nat),
 LB.var
 [SV.str
 (gt (Sh.str.pair ((Sh.int IntKind.i64).pair ((Sh.int IntKind.i64).pair Sh.bool))) l
 i.toNat).fst,
 SV.int IntKind.i64
 (gt (Sh.str.pair ((Sh.int IntKind.i64).pair ((Sh.int IntKind.i64).pair Sh.bool))) l
 i.toNat).snd.fst,
 SV.int IntKind.i64
 (gt (Sh.str.pair ((Sh.int IntKind.i64).pair ((Sh.int IntKind.i64).pair Sh.bool))) l
 i.toNat).snd.snd.fst,
 SV.bool
 (gt (Sh.str.pair ((Sh.int IntKind.i64).pair ((Sh.int IntKind.i64).pair Sh.bool))) l
 i.toNat).snd.snd.snd])])
 (bc
 (bif false then true
 else
 decide
 ((gt (Sh.str.pair ((Sh.int IntKind.i64).pair ((Sh.int IntKind.i64).pair Sh.bool))) l i.toNat).snd.fst <
 e))
 (true = true ∧
 true = true ∧
 true = true ∧
 Q [SV.bool false]
 [((7 : Nat),
 LB.var
 [SV.str
 (gt (Sh.str.pair ((Sh.int IntKind.i64).pair ((Sh.int IntKind.i64).pair Sh.bool))) l
 i.toNat).fst,
 SV.int IntKind.i64
 (gt (Sh.str.pair ((Sh.int IntKind.i64).pair ((Sh.int IntKind.i64).pair Sh.bool))) l
 i.toNat).snd.fst,
 SV.int IntKind.i64
 (gt (Sh.str.pair ((Sh.int IntKind.i64).pair ((Sh.int IntKind.i64).pair Sh.bool))) l
 i.toNat).snd.snd.fst,
 SV.bool
 (gt (Sh.str.pair ((Sh.int IntKind.i64).pair ((Sh.int IntKind.i64).pair Sh.bool))) l
 i.toNat).snd.snd.snd])])
 (bc
 (bif false then true
 else
 decide
 ((gt (Sh.str.pair ((Sh.int IntKind.i64).pair ((Sh.int IntKind.i64).pair Sh.bool))) l
 i.toNat).snd.snd.fst ≤
 (gt (Sh.str.pair ((Sh.int IntKind.i64).pair ((Sh.int IntKind.i64).pair Sh.bool))) l
 i.toNat).snd.fst))
 (true = true ∧
 true = true ∧
 Q [SV.bool false]
 [((7 : Nat),
 LB.var
 [SV.str
 (gt (Sh.str.pair ((Sh.int IntKind.i64).pair ((Sh.int IntKind.i64).pair Sh.bool))) l
 i.toNat).fst,
 SV.int IntKind.i64
 (gt (Sh.str.pair ((Sh.int IntKind.i64).pair ((Sh.int IntKind.i64).pair Sh.bool))) l
 i.toNat).snd.fst,
 SV.int IntKind.i64
 (gt (Sh.str.pair ((Sh.int IntKind.i64).pair ((Sh.int IntKind.i64).pair Sh.bool))) l
 i.toNat).snd.snd.fst,
 SV.bool
 (gt (Sh.str.pair ((Sh.int IntKind.i64).pair ((Sh.int IntKind.i64).pair Sh.bool))) l
 i.toNat).snd.snd.snd])])
 (bc
 (bif false then true
 else
 decide
 (n <
 (gt (Sh.str.pair ((Sh.int IntKind.i64).pair ((Sh.int IntKind.i64).pair Sh.bool))) l
 i.toNat).snd.snd.fst))
 (true = true ∧
 Q [SV.bool false]
 [((7 : Nat),
 LB.var
 [SV.str
 (gt (Sh.str.pair ((Sh.int IntKind.i64).pair ((Sh.int IntKind.i64).pair Sh.bool))) l
 i.toNat).fst,
 SV.int IntKind.i64
 (gt (Sh.str.pair ((Sh.int IntKind.i64).pair ((Sh.int IntKind.i64).pair Sh.bool))) l
 i.toNat).snd.fst,
 SV.int IntKind.i64
 (gt (Sh.str.pair ((Sh.int IntKind.i64).pair ((Sh.int IntKind.i64).pair Sh.bool))) l
 i.toNat).snd.snd.fst,
 SV.bool
 (gt (Sh.str.pair ((Sh.int IntKind.i64).pair ((Sh.int IntKind.i64).pair Sh.bool))) l
 i.toNat).snd.snd.snd])])
 (bc
 (gt (Sh.str.pair ((Sh.int IntKind.i64).pair ((Sh.int IntKind.i64).pair Sh.bool))) l
 i.toNat).snd.snd.snd
 ((4 : Int) ≠ (0 : Int) ∧
 bc
 (decide
 (Int.tmod
 (gt (Sh.str.pair ((Sh.int IntKind.i64).pair ((Sh.int IntKind.i64).pair Sh.bool))) l
 i.toNat).snd.fst
 (4 : Int) ≠
 (0 : Int)))
 (true = true ∧
 Q [SV.bool false]
 [((7 : Nat),
 LB.var
 [SV.str
 (gt (Sh.str.pair ((Sh.int IntKind.i64).pair ((Sh.int IntKind.i64).pair Sh.bool))) l
 i.toNat).fst,
 SV.int IntKind.i64
 (gt (Sh.str.pair ((Sh.int IntKind.i64).pair ((Sh.int IntKind.i64).pair Sh.bool))) l
 i.toNat).snd.fst,
 SV.int IntKind.i64
 (gt (Sh.str.pair ((Sh.int IntKind.i64).pair ((Sh.int IntKind.i64).pair Sh.bool))) l
 i.toNat).snd.snd.fst,
 SV.bool
 (gt (Sh.str.pair ((Sh.int IntKind.i64).pair ((Sh.int IntKind.i64).pair Sh.bool))) l
 i.toNat).snd.snd.snd])])
 ((4 : Int) ≠ (0 : Int) ∧
 bc
 (bif false then true
 else
 bif true then
 bif false then true
 else
 decide
 (Int.tmod
 (gt (Sh.str.pair ((Sh.int IntKind.i64).pair ((Sh.int IntKind.i64).pair Sh.bool)))
 l i.toNat).snd.snd.fst
 (4 : Int) ≠
 (0 : Int))
 else false)
 (Q [SV.bool false]
 [((7 : Nat),
 LB.var
 [SV.str
 (gt (Sh.str.pair ((Sh.int IntKind.i64).pair ((Sh.int IntKind.i64).pair Sh.bool)))
 l i.toNat).fst,
 SV.int IntKind.i64
 (gt (Sh.str.pair ((Sh.int IntKind.i64).pair ((Sh.int IntKind.i64).pair Sh.bool)))
 l i.toNat).snd.fst,
 SV.int IntKind.i64
 (gt (Sh.str.pair ((Sh.int IntKind.i64).pair ((Sh.int IntKind.i64).pair Sh.bool)))
 l i.toNat).snd.snd.fst,
 SV.bool
 (gt (Sh.str.pair ((Sh.int IntKind.i64).pair ((Sh.int IntKind.i64).pair Sh.bool)))
 l i.toNat).snd.snd.snd])])
 (R (hd Try.f31 (1 : Nat))
 {
 env :=
 [((0 : Nat),
 SV.sl (Sh.str.pair ((Sh.int IntKind.i64).pair ((Sh.int IntKind.i64).pair Sh.bool)))
 l),
 ((1 : Nat), SV.int IntKind.i64 n), ((5 : Nat), SV.int IntKind.i64 e),
 ((6 : Nat), SV.int IntKind.i64 i), ((7 : Nat), SV.ptr (7 : Nat) (0 : Nat)),
 ((8 : Nat), SV.int IntKind.i64 (0 : Int))], blk :=
 [((7 : Nat),
 LB.var
 [SV.str
 (gt
 (Sh.str.pair
 ((Sh.int IntKind.i64).pair ((Sh.int IntKind.i64).pair Sh.bool)))
 l i.toNat).fst,
 SV.int IntKind.i64
 (gt
 (Sh.str.pair
 ((Sh.int IntKind.i64).pair ((Sh.int IntKind.i64).pair Sh.bool)))
 l i.toNat).snd.fst,
 SV.int IntKind.i64
 (gt
 (Sh.str.pair
 ((Sh.int IntKind.i64).pair ((Sh.int IntKind.i64).pair Sh.bool)))
 l i.toNat).snd.snd.fst,
 SV.bool
 (gt
 (Sh.str.pair
 ((Sh.int IntKind.i64).pair ((Sh.int IntKind.i64).pair Sh.bool)))
 l i.toNat).snd.snd.snd])] })))
 (false = false ∧
 R (hd Try.f31 (1 : Nat))
 {
 env :=
 [((0 : Nat),
 SV.sl (Sh.str.pair ((Sh.int IntKind.i64).pair ((Sh.int IntKind.i64).pair Sh.bool))) l),
 ((1 : Nat), SV.int IntKind.i64 n), ((5 : Nat), SV.int IntKind.i64 e),
 ((6 : Nat), SV.int IntKind.i64 i), ((7 : Nat), SV.ptr (7 : Nat) (0 : Nat)),
 ((8 : Nat), SV.int IntKind.i64 (0 : Int))], blk :=
 [((7 : Nat),
 LB.var
 [SV.str
 (gt (Sh.str.pair ((Sh.int IntKind.i64).pair ((Sh.int IntKind.i64).pair Sh.bool))) l
 i.toNat).fst,
 SV.int IntKind.i64
 (gt (Sh.str.pair ((Sh.int IntKind.i64).pair ((Sh.int IntKind.i64).pair Sh.bool))) l
 i.toNat).snd.fst,
 SV.int IntKind.i64
 (gt (Sh.str.pair ((Sh.int IntKind.i64).pair ((Sh.int IntKind.i64).pair Sh.bool))) l
 i.toNat).snd.snd.fst,
 SV.bool
 (gt (Sh.str.pair ((Sh.int IntKind.i64).pair ((Sh.int IntKind.i64).pair Sh.bool))) l
 i.toNat).snd.snd.snd])] }))))))
 (Q [SV.bool true] [])) := by kernel_rfl
theorem vc_rvlB (l : List Sec) (n i k : Int) (x : Sec) (Q : List SV → List (Nat × LB) → Prop) (R : List Item → PS → Prop) : sy tt G0 D3 Try.f31.ntmps Try.f31.results.toList Q (fun it S => R it (keepS [0, 1, 5, 6, 7, 8] [7] S)) 1000 (hd Try.f31 1) ⟨[(0, .sl seS l), (1, .int .i64 n), (6, .int .i64 i), (7, .ptr 7 0), (8, .int .i64 k)], [(7, .var [.str x.1, .int .i64 x.2.1, .int .i64 x.2.2.1, .bool x.2.2.2])]⟩ =
    (bc (decide (k < i))
 ((0 : Int) ≤ k ∧
 k < (↑l.length : Int) ∧
 bc
 (decide
 ((gt (Sh.str.pair ((Sh.int IntKind.i64).pair ((Sh.int IntKind.i64).pair Sh.bool))) l k.toNat).fst = x.fst))
 (Q [SV.bool false]
 [((7 : Nat),
 LB.var
 [SV.str x.fst, SV.int IntKind.i64 x.snd.fst, SV.int IntKind.i64 x.snd.snd.fst, SV.bool x.snd.snd.snd])])
 (R (hd Try.f31 (1 : Nat))
 {
 env :=
 [((0 : Nat), SV.sl (Sh.str.pair ((Sh.int IntKind.i64).pair ((Sh.int IntKind.i64).pair Sh.bool))) l),
 ((1 : Nat), SV.int IntKind.i64 n), ((6 : Nat), SV.int IntKind.i64 i),
 ((7 : Nat), SV.ptr (7 : Nat) (0 : Nat)),
 ((8 : Nat), SV.int IntKind.i64 (IntKind.i64.wrap (k + (1 : Int))))], blk :=
 [((7 : Nat),
 LB.var
 [SV.str x.fst, SV.int IntKind.i64 x.snd.fst, SV.int IntKind.i64 x.snd.snd.fst,
 SV.bool x.snd.snd.snd])] }))
 (R (hd Try.f31 (0 : Nat))
 {
 env :=
 [((0 : Nat), SV.sl (Sh.str.pair ((Sh.int IntKind.i64).pair ((Sh.int IntKind.i64).pair Sh.bool))) l),
 ((1 : Nat), SV.int IntKind.i64 n), ((5 : Nat), SV.int IntKind.i64 x.snd.snd.fst),
 ((6 : Nat), SV.int IntKind.i64 (IntKind.i64.wrap (i + (1 : Int)))), ((7 : Nat), SV.ptr (7 : Nat) (0 : Nat)),
 ((8 : Nat), SV.int IntKind.i64 k)], blk :=
 [((7 : Nat),
 LB.var
 [SV.str x.fst, SV.int IntKind.i64 x.snd.fst, SV.int IntKind.i64 x.snd.snd.fst, SV.bool x.snd.snd.snd])] })) := by kernel_rfl
end Go.Proofs.Ythcjddhlindopaa
namespace Go.Proofs.Ythcjddhlindopaa
open Go.Px Go.Ax
attribute [local irreducible] Go.Px.sy Go.Px.syE
/-- Whether sections are valid, from those before them on. -/
def valF (n : Int) : List Sec → Int → List Sec → Bool
  | _, _, [] => true
  | d, e, s :: r => nameB s.1 && !hasN d s.1 && plcB e n s && valF n (d ++ [s]) s.2.2.1 r
def validB (l : List Sec) (n : Int) : Bool := decide (l.length ≤ 8) && valF n [] 0 l
theorem valF_step {n e : Int} {l : List Sec} {i : Nat} (h : i < l.length) : valF n (l.take i) e (l.drop i) = (nameB l[i].1 && !hasN (l.take i) l[i].1 && plcB e n l[i] && valF n (l.take (i + 1)) l[i].2.2.1 (l.drop (i + 1))) := by
  rw [dropc h, valF, List.take_succ_eq_append_getElem h]
def ctVal (p : Prop) : Ctr := ⟨[.sl seS, iI], fun x => p ∧ ∀ s ∈ (x.1 : List Sec), s.1.length < 2 ^ 62, fun x => [.bool (validB x.1 x.2.1)], fun _ => []⟩
theorem val_loop {l : List Sec} {n : Int} (h8 : l.length ≤ 8) : ∀ (k i : Nat) (e : Int), l.length - i ≤ k → i ≤ l.length →
    GD 30 Try.f30 (fun rs _ => rs = [.bool (valF n (l.take i) e (l.drop i))]) (hd Try.f30 0) ⟨[(0, .sl seS l), (1, .int .i64 n), (5, .int .i64 e), (11, .sl seS l), (12, .int .i64 l.length), (13, .int .i64 (i : Nat))], []⟩ := by
  have hend : ∀ (i : Nat) (e : Int), ¬ i < l.length → GD 30 Try.f30 (fun rs _ => rs = [.bool (valF n (l.take i) e (l.drop i))]) (hd Try.f30 0) ⟨[(0, .sl seS l), (1, .int .i64 n), (5, .int .i64 e), (11, .sl seS l), (12, .int .i64 l.length), (13, .int .i64 (i : Nat))], []⟩ := by
    intro i e hi
    refine sy_goK dx3 (vc_valL l n e i _ _) ?_
    rw [decide_eq_false (by omega), bc_f, List.drop_eq_nil_of_le (by omega)]
    rfl
  intro k
  induction k with
  | zero => intro i e h1 _; exact hend i e (by omega)
  | succ k ih =>
    intro i e h1 h2
    by_cases hi : i < l.length
    · refine sy_goK dx3 (vc_valL l n e i _ _) ?_
      have e1 : gt seS l (i : Int).toNat = l[i] := gtE hi
      have k2 := ih (i + 1) l[i].2.2.1 (by omega) (by omega)
      rw [decide_eq_true (show (i : Int) < (l.length : Int) by omega), bc_t, e1, valF_step hi, IntWalk.i64_in ((i : Int) + 1) (by omega), Int.toNat_natCast]
      have hps : preLs (l.take i).length := by unfold preLs; rw [List.length_take]; omega
      generalize l[i] = x at *
      have ex : (x.1, x.2.1, x.2.2.1, x.2.2.2) = x := rfl
      rw [ex]
      refine ⟨by omega, by omega, trivial, bc_of (fun h => ⟨rfl, rfl, ?_⟩) (fun h => ⟨by omega, by omega, hps, ?_⟩)⟩
      · simp only [Bool.not_eq_true'] at h
        rw [h]; rfl
      · simp only [Bool.not_eq_false'] at h
        rw [h, cond_false]
        refine bc_of (fun h3 => ⟨rfl, ?_⟩) (fun h3 => ⟨trivial, ?_⟩)
        · rw [h3]; rfl
        · rw [h3, cond_false]
          refine bc_of (fun h4 => ?_) (fun h4 => ?_)
          · simp only [Bool.not_eq_true'] at h4
            rw [h4]; rfl
          · simp only [Bool.not_eq_false'] at h4
            rw [h4]
            exact k2
    · exact hend i e hi
theorem val_run (l : List Sec) (n : Int) : sy tt G0 D3 Try.f30.ntmps Try.f30.results.toList (QC (ctVal True) (l, n, ())) (Px.Good Try.prog tt G0 30 Try.f30.ntmps Try.f30.results.toList (QC (ctVal True) (l, n, ()))) 1000 [.code (bodyOf Try.f30)] (entry [.sl seS, iI] (l, n, ())) := by
  rw [vc_val]
  refine bc_of (fun h => ?_) (fun h => ?_)
  · have h := of_decide_eq_true h
    exact QC.flat (beq_of (by simp [validB]; omega)) rfl rfl
  · have h := of_decide_eq_false h
    have e : validB l n = valF n (l.take 0) 0 (l.drop 0) := by
      unfold validB
      rw [decide_eq_true (by omega)]; rfl
    exact ((val_loop (by omega) _ 0 0 (Nat.le_refl _) (Nat.zero_le _)).post fun rs blk hq => QC.flat (by rw [hq, ← e]; rfl) rfl (by rw [hq]; rfl)).only ⟨rfl, rfl, rfl, rfl, rfl, rfl, trivial⟩ trivial
theorem val_held : Held Try.prog G0 30 (ctVal True) := Held.run dx3 (fn := Try.f30) rfl rfl ⟨by decide, by decide⟩ fun x _ => val_run x.1 x.2.1
abbrev xV (x : Sec) : List SV := [.str x.1, .int .i64 x.2.1, .int .i64 x.2.2.1, .bool x.2.2.2]
theorem rvl_in {l : List Sec} {n : Int} {i : Nat} {x : Sec} (h8 : l.length ≤ 8) (hi : i < l.length) {V : Bool}
    (next : GD 31 Try.f31 (fun rs _ => rs = [.bool V]) (hd Try.f31 0) ⟨[(0, .sl seS l), (1, .int .i64 n), (5, .int .i64 x.2.2.1), (6, .int .i64 ((i + 1 : Nat) : Int))], []⟩) : ∀ (k j : Nat), i - j ≤ k → j ≤ i →
    GD 31 Try.f31 (fun rs _ => rs = [.bool (!hasN ((l.take i).drop j) x.1 && V)]) (hd Try.f31 1) ⟨[(0, .sl seS l), (1, .int .i64 n), (6, .int .i64 (i : Nat)), (7, .ptr 7 0), (8, .int .i64 (j : Nat))], [(7, .var (xV x))]⟩ := by
  have hend : ∀ j : Nat, ¬ j < i → GD 31 Try.f31 (fun rs _ => rs = [.bool (!hasN ((l.take i).drop j) x.1 && V)]) (hd Try.f31 1) ⟨[(0, .sl seS l), (1, .int .i64 n), (6, .int .i64 (i : Nat)), (7, .ptr 7 0), (8, .int .i64 (j : Nat))], [(7, .var (xV x))]⟩ := by
    intro j hj
    refine sy_goK dx3 (vc_rvlB l n i j x _ _) ?_
    rw [decide_eq_false (by omega), bc_f, List.drop_eq_nil_of_le (by rw [List.length_take]; omega), IntWalk.i64_in ((i : Int) + 1) (by omega)]
    exact next.only ⟨rfl, rfl, rfl, rfl, trivial⟩ trivial
  intro k
  induction k with
  | zero => intro j h1 _; exact hend j (by omega)
  | succ k ih =>
    intro j h1 h2
    by_cases hj : j < i
    · refine sy_goK dx3 (vc_rvlB l n i j x _ _) ?_
      have e1 : gt seS l (j : Int).toNat = l[j] := gtE (by omega)
      have k2 := ih (j + 1) (by omega) (by omega)
      have hd : (l.take i).drop j = l[j] :: (l.take i).drop (j + 1) := by
        rw [dropc (show j < (l.take i).length by rw [List.length_take]; omega)]
        congr 1
        exact List.getElem_take ..
      have hh : hasN ((l.take i).drop j) x.1 = (decide (l[j].1 = x.1) || hasN ((l.take i).drop (j + 1)) x.1) := by rw [hd]; rfl
      rw [decide_eq_true (show (j : Int) < (i : Int) by omega), bc_t, e1, IntWalk.i64_in ((j : Int) + 1) (by omega), hh]
      refine ⟨by omega, by omega, bc_of (fun ha => ?_) (fun ha => ?_)⟩
      · have ha : decide (l[j].1 = x.1) = true := ha
        rw [ha]; rfl
      · have ha : decide (l[j].1 = x.1) = false := ha
        rw [ha, Bool.false_or]
        exact k2
    · exact hend j hj
theorem rvl_loop {l : List Sec} {n : Int} (h8 : l.length ≤ 8) (hs : ∀ s ∈ l, s.1.length < 2 ^ 62) : ∀ (k i : Nat) (e : Int), l.length - i ≤ k → i ≤ l.length →
    GD 31 Try.f31 (fun rs _ => rs = [.bool (valF n (l.take i) e (l.drop i))]) (hd Try.f31 0) ⟨[(0, .sl seS l), (1, .int .i64 n), (5, .int .i64 e), (6, .int .i64 (i : Nat))], []⟩ := by
  have hend : ∀ (i : Nat) (e : Int), ¬ i < l.length → GD 31 Try.f31 (fun rs _ => rs = [.bool (valF n (l.take i) e (l.drop i))]) (hd Try.f31 0) ⟨[(0, .sl seS l), (1, .int .i64 n), (5, .int .i64 e), (6, .int .i64 (i : Nat))], []⟩ := by
    intro i e hi
    refine sy_goK dx3 (vc_rvlA l n e i _ _) ?_
    rw [decide_eq_false (by omega), bc_f, List.drop_eq_nil_of_le (by omega)]
    rfl
  intro k
  induction k with
  | zero => intro i e h1 _; exact hend i e (by omega)
  | succ k ih =>
    intro i e h1 h2
    by_cases hi : i < l.length
    · refine sy_goK dx3 (vc_rvlA l n e i _ _) ?_
      have e1 : gt seS l (i : Int).toNat = l[i] := gtE hi
      have hsi := hs l[i] (List.getElem_mem hi)
      have k2 := rvl_in (x := l[i]) h8 hi (ih (i + 1) l[i].2.2.1 (by omega) (by omega)) i 0 (Nat.le_refl _) (Nat.zero_le _)
      rw [List.drop_zero] at k2
      rw [decide_eq_true (show (i : Int) < (l.length : Int) by omega), bc_t, e1, valF_step hi]
      generalize l[i] = x at *
      generalize valF n (l.take (i + 1)) x.2.2.1 (l.drop (i + 1)) = V at *
      generalize hasN (l.take i) x.1 = hN at *
      obtain ⟨nm, f, t, c⟩ := x
      have bad : ¬ (nameB nm = true ∧ plcB e n (nm, f, t, c) = true) → [SV.bool false] = [SV.bool (nameB nm && !hN && plcB e n (nm, f, t, c) && V)] := by
        intro h
        refine beq_of ⟨fun q => by simp at q, fun q => ?_⟩
        simp only [Bool.and_eq_true] at q
        exact absurd ⟨q.1.1.1, q.1.2⟩ h
      have pl : plcB e n (nm, f, t, c) = true ↔ (e ≤ f ∧ f < t ∧ t ≤ n ∧ (c = true → f.tmod 4 = 0 ∧ t.tmod 4 = 0)) := by rw [plcB, decide_eq_true_eq]
      have good : nameB nm = true → (e ≤ f ∧ f < t ∧ t ≤ n ∧ (c = true → f.tmod 4 = 0 ∧ t.tmod 4 = 0)) → GD 31 Try.f31 (fun rs _ => rs = [.bool (nameB nm && !hN && plcB e n (nm, f, t, c) && V)]) (hd Try.f31 1) ⟨[(0, .sl seS l), (1, .int .i64 n), (6, .int .i64 (i : Nat)), (7, .ptr 7 0), (8, .int .i64 0)], [(7, .var (xV (nm, f, t, c)))]⟩ := by
        intro h1 h2
        rw [h1, pl.2 h2, Bool.true_and, Bool.and_true]
        exact k2
      rw [pl] at bad
      have hpre : ctRnm.pre (nm, ()) := hsi
      clear k2 ih hend pl
      cases c <;>
      simp only [sh_lt, sh_le, sh_eq, bc_iff, cond_true, cond_false, decide_eq_true_eq, decide_eq_false_iff_not, Bool.not_eq_true', Bool.not_eq_false', Bool.false_eq_true, Bool.true_eq_false, false_implies, forall_const, true_and, and_true] <;>
      repeat' first
        | exact trivial
        | exact rfl
        | exact hpre
        | omega
        | decide
        | (refine (good (by assumption) ⟨Int.not_lt.1 (by assumption), Int.not_le.1 (by assumption), Int.not_lt.1 (by assumption), fun q => ?_⟩).only ⟨rfl, rfl, rfl, rfl, rfl, trivial⟩ ⟨rfl, trivial⟩; first | (cases q; done) | exact ⟨by assumption, by assumption⟩ | exact ⟨Classical.not_not.1 (by assumption), Classical.not_not.1 (by assumption)⟩)
        | (refine And.intro ?_ ?_)
        | (intro _)
        | (refine bad fun q => ?_; obtain ⟨q0, q1, q2, q3, q4⟩ := q; first | omega | (rename_i h; rw [h] at q0; cases q0) | (rename_i h; have h : (_ : Int) < _ := h; omega) | (rename_i h; have h : (_ : Int) ≤ _ := h; omega) | (have q5 := q4 rfl; omega) | (have q5 := q4 rfl; rename_i h; have h : ¬ (_ : Int) = _ := h; omega))
    · exact hend i e hi
theorem rvl_run (l : List Sec) (n : Int) (hs : ∀ s ∈ l, s.1.length < 2 ^ 62) : sy tt G0 D3 Try.f31.ntmps Try.f31.results.toList (QC (ctVal True) (l, n, ())) (Px.Good Try.prog tt G0 31 Try.f31.ntmps Try.f31.results.toList (QC (ctVal True) (l, n, ()))) 1000 [.code (bodyOf Try.f31)] (entry [.sl seS, iI] (l, n, ())) := by
  rw [vc_rvl]
  refine bc_of (fun h => ?_) (fun h => ?_)
  · have h := of_decide_eq_true h
    exact QC.flat (beq_of (by simp [validB]; omega)) rfl rfl
  · have h := of_decide_eq_false h
    have e : validB l n = valF n (l.take 0) 0 (l.drop 0) := by
      unfold validB
      rw [decide_eq_true (by omega)]; rfl
    exact ((rvl_loop (by omega) hs _ 0 0 (Nat.le_refl _) (Nat.zero_le _)).post fun rs blk hq => QC.flat (by rw [hq, ← e]; rfl) rfl (by rw [hq]; rfl)).only ⟨rfl, rfl, rfl, rfl, trivial⟩ trivial
theorem rvl_held : Held Try.prog G0 31 (ctVal True) := Held.run dx3 (fn := Try.f31) rfl rfl ⟨by decide, by decide⟩ fun x hp => rvl_run x.1 x.2.1 hp.2
abbrev D4 : CV := (30, .inl (ctVal True)) :: (31, .inl (ctVal True)) :: D3
theorem dx4 : CxOK Try.prog tt G0 D4 := (dx3.cons rvl_held (fn := Try.f31) rfl rfl rfl).cons val_held (fn := Try.f30) rfl rfl rfl
end Go.Proofs.Ythcjddhlindopaa
