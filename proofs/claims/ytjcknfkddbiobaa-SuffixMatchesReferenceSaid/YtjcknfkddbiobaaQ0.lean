/-
  A part of the proof: what pieces of the program give; conditions: those of each theorem.
-/
import Derived.Test.YtjcknfkddbiobaaHD
import Derived.Test.YtjcknfkddbiobaaProg
import Derived.KernelRfl
set_option linter.unusedVariables false
namespace Go.Proofs.Ytjcknfkddbiobaa
open Go.Px Go.Ax
def tyL : List (Nat × (Nat × Nat × Bool × TK × Sh × Option IntKind)) := [
  (1, (1, 8, false, .other, .unit, none)),
  (2, (1, 8, false, (.int .i64), (.int .i64), none)),
  (3, (1, 8, false, (.int .i64), (.int .i64), none)),
  (4, (1, 1, false, .bool, .bool, none)),
  (5, (1, 1, false, (.int .u8), (.int .u8), none)),
  (6, (1, 1, false, (.int .u8), (.int .u8), none)),
  (7, (4, 24, true, (.struct [(0, 2), (1, 3), (2, 4), (3, 6)]), (.pair (.int .i64) (.pair (.int .i64) (.pair .bool (.int .u8)))), none)),
  (8, (4, 24, true, (.struct [(0, 2), (1, 3), (2, 4), (3, 6)]), (.pair (.int .i64) (.pair (.int .i64) (.pair .bool (.int .u8)))), none)),
  (9, (1, 16, false, .str, .str, none)),
  (10, (1, 16, false, .str, .str, none)),
  (11, (1, 16, false, .str, .str, none)),
  (12, (1, 8, false, (.int .u64), (.int .u64), none)),
  (13, (2, 24, true, (.struct [(0, 9), (1, 12)]), (.pair .str (.int .u64)), none)),
  (14, (2, 24, true, (.struct [(0, 9), (1, 12)]), (.pair .str (.int .u64)), none)),
  (21, (1, 4, false, (.int .i32), (.int .i32), none)),
  (22, (1, 24, false, (.slice 5), (.sl (.int .u8)), none)),
  (23, (1, 8, false, .other, .unit, none)),
  (24, (1, 8, false, .other, .unit, none)),
  (25, (1, 24, false, (.slice 3), (.sl (.int .i64)), none)),
  (26, (1, 8, false, .other, .unit, none)),
  (27, (1, 8, false, .other, .unit, none)),
  (28, (2, 16, true, (.struct [(0, 3), (1, 3)]), (.pair (.int .i64) (.int .i64)), (some .i64))),
  (29, (2, 16, true, (.struct [(0, 3), (1, 3)]), (.pair (.int .i64) (.int .i64)), (some .i64))),
  (30, (1, 8, false, .other, .unit, none)),
  (31, (1, 8, false, .other, .unit, none)),
  (32, (1, 8, false, .other, .unit, none)),
  (33, (1, 8, false, .other, .unit, none)),
  (34, (1, 8, false, .other, .unit, none)),
  (35, (1, 8, false, .other, .unit, none)),
  (36, (1, 8, false, .other, .unit, none)),
  (37, (2, 2, true, (.array 2 5), (.arr 2 (.int .u8)), none)),
  (38, (1, 8, false, .other, .unit, none)),
  (39, (1, 8, false, .other, .unit, none)),
  (40, (1, 8, false, .other, .unit, none)),
  (41, (1, 24, false, (.slice 45), (.sl (.arr 2 (.int .i64))), none)),
  (42, (1, 8, false, .other, .unit, none)),
  (43, (1, 8, false, .other, .unit, none)),
  (44, (2, 16, true, (.array 2 3), (.arr 2 (.int .i64)), none)),
  (45, (2, 16, true, (.array 2 3), (.arr 2 (.int .i64)), some .i64)),
  (46, (1, 8, false, .other, .unit, none)),
  (47, (1, 8, false, .other, .unit, none)),
  (48, (1, 8, false, .other, .unit, none)),
  (50, (1, 8, false, .other, .unit, none)),
  (51, (1, 8, false, .other, .unit, none)),
  (52, (1, 8, false, .other, .unit, none)),
  (53, (1, 8, false, .other, .unit, none)),
  (54, (1, 8, false, .other, .unit, none)),
  (55, (1, 24, false, (.slice 4), (.sl .bool), none)),
  (56, (1, 8, false, .other, .unit, none)),
  (57, (1, 8, false, .other, .unit, none)),
  (58, (1, 8, false, .other, .unit, none)),
  (64, (1, 8, false, .other, .unit, none)),
  (65, (1, 4, false, (.int .u32), (.int .u32), none)),
  (66, (1, 1, false, (.int .u8), (.int .u8), none)),
  (67, (1, 1, false, (.int .u8), (.int .u8), none)),
  (68, (1, 8, false, .other, .unit, none)),
  (70, (1, 4, false, (.int .i32), (.int .i32), none)),
  (71, (1, 4, false, (.int .i32), (.int .i32), none))]
abbrev tt : TT := ttOf tyL
set_option maxRecDepth 100000 in
theorem tyOK : ttB Try.prog tyL = true := by decide +kernel
theorem ty : TTOK Try.prog tt := ttB_ok tyOK
theorem mixed : Try.prog.follows .mixedOrders = true := by decide +kernel
def G0 : GV := ⟨[], .nil⟩
theorem cx0 : CxOK Try.prog tt G0 [] := CxOK.nil ty mixed
end Go.Proofs.Ytjcknfkddbiobaa
namespace Go.Proofs.Ytjcknfkddbiobaa
open Go.Px Go.Ax
set_option maxRecDepth 100000
theorem vc_limited (b : List Int) (n : Int) (Q : List SV → List (Nat × LB) → Prop) (R : List Item → PS → Prop) : sy tt G0 [] Try.f11.ntmps Try.f11.results.toList Q R 1000 [.code (bodyOf Try.f11)] (entry [.sl (.int .u8), .int .i64] (b, n, ())) =
    (bc (decide (n < (↑b.length : Int)))
 ((0 : Int) ≤ n ∧ n ≤ (↑b.length : Int) ∧ Q [SV.sl (Sh.int IntKind.u8) (List.take n.toNat b)] [])
 (Q [SV.sl (Sh.int IntKind.u8) b] [])) := by kernel_rfl
theorem vc_suffixAt (b : List Int) (n : Int) (Q : List SV → List (Nat × LB) → Prop) (R : List Item → PS → Prop) : sy tt G0 [] Try.f30.ntmps Try.f30.results.toList Q R 1000 [.code (bodyOf Try.f30)] (entry [.sl (.int .u8), .int .i64] (b, n, ())) =
    (bc (decide (n < (0 : Int))) (true = true ∧ Q [SV.nils] [])
 (bc (bif false then true else decide ((↑b.length : Int) < n)) (Q [SV.nils] [])
 ((0 : Int) ≤ n ∧ n ≤ (↑b.length : Int) ∧ Q [SV.sl (Sh.int IntKind.u8) (List.drop n.toNat b)] []))) := by kernel_rfl
theorem vc_less (a b : List Int) (Q : List SV → List (Nat × LB) → Prop) (R : List Item → PS → Prop) : sy tt G0 [] Try.f20.ntmps Try.f20.results.toList Q R 1000 [.code (bodyOf Try.f20)] (entry [.sl (.int .u8), .sl (.int .u8)] (a, b, ())) =
    (R (hd Try.f20 (0 : Nat))
 {
 env :=
 [((0 : Nat), SV.sl (Sh.int IntKind.u8) a), ((1 : Nat), SV.sl (Sh.int IntKind.u8) b), ((4 : Nat), SV.bool false),
 ((5 : Nat), SV.int IntKind.i64 (0 : Int))],
 blk := [] }) := by kernel_rfl
theorem vc_lessL (a b : List Int) (i : Int) (Q : List SV → List (Nat × LB) → Prop) (R : List Item → PS → Prop) : sy tt G0 [] Try.f20.ntmps Try.f20.results.toList Q R 1000 (hd Try.f20 0) ⟨[(0, .sl (.int .u8) a), (1, .sl (.int .u8) b), (5, .int .i64 i)], []⟩ =
    (bc (decide (i < (↑a.length : Int)))
 (bc (bif true then decide (i < (↑b.length : Int)) else false)
 ((0 : Int) ≤ i ∧
 i < (↑a.length : Int) ∧
 (0 : Int) ≤ i ∧
 i < (↑b.length : Int) ∧
 bc (decide (gt (Sh.int IntKind.u8) a i.toNat ≠ gt (Sh.int IntKind.u8) b i.toNat))
 ((0 : Int) ≤ i ∧
 i < (↑a.length : Int) ∧
 (0 : Int) ≤ i ∧
 i < (↑b.length : Int) ∧
 Q [SV.bool (decide (gt (Sh.int IntKind.u8) a i.toNat < gt (Sh.int IntKind.u8) b i.toNat))] [])
 (R (hd Try.f20 (0 : Nat))
 {
 env :=
 [((0 : Nat), SV.sl (Sh.int IntKind.u8) a), ((1 : Nat), SV.sl (Sh.int IntKind.u8) b),
 ((5 : Nat), SV.int IntKind.i64 (IntKind.i64.wrap (i + (1 : Int)))),
 ((6 : Nat), SV.int IntKind.i64 i), ((7 : Nat), SV.sl (Sh.int IntKind.u8) a),
 ((8 : Nat), SV.int IntKind.i64 (↑a.length : Int)),
 ((9 : Nat), SV.bool (decide (i < (↑a.length : Int)))), ((10 : Nat), SV.bool true),
 ((11 : Nat), SV.int IntKind.i64 i), ((12 : Nat), SV.sl (Sh.int IntKind.u8) b),
 ((13 : Nat), SV.int IntKind.i64 (↑b.length : Int)),
 ((14 : Nat), SV.bool (decide (i < (↑b.length : Int)))),
 ((15 : Nat), SV.bool (bif true then decide (i < (↑b.length : Int)) else false)),
 ((16 : Nat), SV.int IntKind.i64 i),
 ((17 : Nat), SV.int IntKind.i64 (IntKind.i64.wrap (i + (1 : Int)))),
 ((18 : Nat), SV.sl (Sh.int IntKind.u8) a), ((19 : Nat), SV.int IntKind.i64 i),
 ((20 : Nat), SV.elv (Sh.int IntKind.u8) (gt (Sh.int IntKind.u8) a i.toNat)),
 ((21 : Nat), SV.int IntKind.u8 (gt (Sh.int IntKind.u8) a i.toNat)),
 ((22 : Nat), SV.sl (Sh.int IntKind.u8) b), ((23 : Nat), SV.int IntKind.i64 i),
 ((24 : Nat), SV.elv (Sh.int IntKind.u8) (gt (Sh.int IntKind.u8) b i.toNat)),
 ((25 : Nat), SV.int IntKind.u8 (gt (Sh.int IntKind.u8) b i.toNat)),
 ((26 : Nat),
 SV.bool (decide (gt (Sh.int IntKind.u8) a i.toNat ≠ gt (Sh.int IntKind.u8) b i.toNat)))],
 blk := [] }))
 (Q [SV.bool (decide ((↑a.length : Int) < (↑b.length : Int)))] []))
 (false = false ∧ Q [SV.bool (decide ((↑a.length : Int) < (↑b.length : Int)))] [])) := by kernel_rfl
theorem vc_shared (a b : List Int) (Q : List SV → List (Nat × LB) → Prop) (R : List Item → PS → Prop) : sy tt G0 [] Try.f21.ntmps Try.f21.results.toList Q R 1000 [.code (bodyOf Try.f21)] (entry [.sl (.int .u8), .sl (.int .u8)] (a, b, ())) =
    (R (hd Try.f21 (0 : Nat))
 {
 env :=
 [((0 : Nat), SV.sl (Sh.int IntKind.u8) a), ((1 : Nat), SV.sl (Sh.int IntKind.u8) b),
 ((4 : Nat), SV.int IntKind.i64 (0 : Int)), ((5 : Nat), SV.int IntKind.i64 (0 : Int))],
 blk := [] }) := by kernel_rfl
theorem vc_sharedL (a b : List Int) (n : Int) (Q : List SV → List (Nat × LB) → Prop) (R : List Item → PS → Prop) : sy tt G0 [] Try.f21.ntmps Try.f21.results.toList Q R 1000 (hd Try.f21 0) ⟨[(0, .sl (.int .u8) a), (1, .sl (.int .u8) b), (5, .int .i64 n)], []⟩ =
    (bc (decide (n < (↑a.length : Int)))
 (bc (bif true then decide (n < (↑b.length : Int)) else false)
 ((0 : Int) ≤ n ∧
 n < (↑a.length : Int) ∧
 (0 : Int) ≤ n ∧
 n < (↑b.length : Int) ∧
 bc (bif true then decide (gt (Sh.int IntKind.u8) a n.toNat = gt (Sh.int IntKind.u8) b n.toNat) else false)
 (R (hd Try.f21 (0 : Nat))
 {
 env :=
 [((0 : Nat), SV.sl (Sh.int IntKind.u8) a), ((1 : Nat), SV.sl (Sh.int IntKind.u8) b),
 ((5 : Nat), SV.int IntKind.i64 (IntKind.i64.wrap (n + (1 : Int)))),
 ((6 : Nat), SV.int IntKind.i64 n), ((7 : Nat), SV.sl (Sh.int IntKind.u8) a),
 ((8 : Nat), SV.int IntKind.i64 (↑a.length : Int)),
 ((9 : Nat), SV.bool (decide (n < (↑a.length : Int)))), ((10 : Nat), SV.bool true),
 ((11 : Nat), SV.int IntKind.i64 n), ((12 : Nat), SV.sl (Sh.int IntKind.u8) b),
 ((13 : Nat), SV.int IntKind.i64 (↑b.length : Int)),
 ((14 : Nat), SV.bool (decide (n < (↑b.length : Int)))),
 ((15 : Nat), SV.bool (bif true then decide (n < (↑b.length : Int)) else false)),
 ((16 : Nat), SV.bool true), ((17 : Nat), SV.sl (Sh.int IntKind.u8) a),
 ((18 : Nat), SV.int IntKind.i64 n),
 ((19 : Nat), SV.elv (Sh.int IntKind.u8) (gt (Sh.int IntKind.u8) a n.toNat)),
 ((20 : Nat), SV.int IntKind.u8 (gt (Sh.int IntKind.u8) a n.toNat)),
 ((21 : Nat), SV.sl (Sh.int IntKind.u8) b), ((22 : Nat), SV.int IntKind.i64 n),
 ((23 : Nat), SV.elv (Sh.int IntKind.u8) (gt (Sh.int IntKind.u8) b n.toNat)),
 ((24 : Nat), SV.int IntKind.u8 (gt (Sh.int IntKind.u8) b n.toNat)),
 ((25 : Nat),
 SV.bool (decide (gt (Sh.int IntKind.u8) a n.toNat = gt (Sh.int IntKind.u8) b n.toNat))),
 ((26 : Nat),
 SV.bool
 (bif true then decide (gt (Sh.int IntKind.u8) a n.toNat = gt (Sh.int IntKind.u8) b n.toNat)
 else false)),
 ((27 : Nat), SV.int IntKind.i64 n),
 ((28 : Nat), SV.int IntKind.i64 (IntKind.i64.wrap (n + (1 : Int))))],
 blk := [] })
 (Q [SV.int IntKind.i64 n] []))
 (false = false ∧ Q [SV.int IntKind.i64 n] []))
 (false = false ∧ false = false ∧ Q [SV.int IntKind.i64 n] [])) := by kernel_rfl
theorem vc_equal (a b : List Int) (Q : List SV → List (Nat × LB) → Prop) (R : List Item → PS → Prop) : sy tt G0 [] Try.f29.ntmps Try.f29.results.toList Q R 1000 [.code (bodyOf Try.f29)] (entry [.sl (.int .u8), .sl (.int .u8)] (a, b, ())) =
    (R (hd Try.f29 (0 : Nat))
 {
 env :=
 [((0 : Nat), SV.sl (Sh.int IntKind.u8) a), ((1 : Nat), SV.sl (Sh.int IntKind.u8) b),
 ((4 : Nat), SV.int IntKind.i64 (0 : Int)), ((5 : Nat), SV.int IntKind.i64 (0 : Int))],
 blk := [] }) := by kernel_rfl
theorem vc_equalL (a b : List Int) (n : Int) (Q : List SV → List (Nat × LB) → Prop) (R : List Item → PS → Prop) : sy tt G0 [] Try.f29.ntmps Try.f29.results.toList Q R 1000 (hd Try.f29 0) ⟨[(0, .sl (.int .u8) a), (1, .sl (.int .u8) b), (5, .int .i64 n)], []⟩ =
    (bc (decide (n < (↑a.length : Int)))
 (bc (bif true then decide (n < (↑b.length : Int)) else false)
 ((0 : Int) ≤ n ∧
 n < (↑a.length : Int) ∧
 (0 : Int) ≤ n ∧
 n < (↑b.length : Int) ∧
 bc (bif true then decide (gt (Sh.int IntKind.u8) a n.toNat = gt (Sh.int IntKind.u8) b n.toNat) else false)
 (R (hd Try.f29 (0 : Nat))
 {
 env :=
 [((0 : Nat), SV.sl (Sh.int IntKind.u8) a), ((1 : Nat), SV.sl (Sh.int IntKind.u8) b),
 ((5 : Nat), SV.int IntKind.i64 (IntKind.i64.wrap (n + (1 : Int)))),
 ((6 : Nat), SV.int IntKind.i64 n), ((7 : Nat), SV.sl (Sh.int IntKind.u8) a),
 ((8 : Nat), SV.int IntKind.i64 (↑a.length : Int)),
 ((9 : Nat), SV.bool (decide (n < (↑a.length : Int)))), ((10 : Nat), SV.bool true),
 ((11 : Nat), SV.int IntKind.i64 n), ((12 : Nat), SV.sl (Sh.int IntKind.u8) b),
 ((13 : Nat), SV.int IntKind.i64 (↑b.length : Int)),
 ((14 : Nat), SV.bool (decide (n < (↑b.length : Int)))),
 ((15 : Nat), SV.bool (bif true then decide (n < (↑b.length : Int)) else false)),
 ((16 : Nat), SV.bool true), ((17 : Nat), SV.sl (Sh.int IntKind.u8) a),
 ((18 : Nat), SV.int IntKind.i64 n),
 ((19 : Nat), SV.elv (Sh.int IntKind.u8) (gt (Sh.int IntKind.u8) a n.toNat)),
 ((20 : Nat), SV.int IntKind.u8 (gt (Sh.int IntKind.u8) a n.toNat)),
 ((21 : Nat), SV.sl (Sh.int IntKind.u8) b), ((22 : Nat), SV.int IntKind.i64 n),
 ((23 : Nat), SV.elv (Sh.int IntKind.u8) (gt (Sh.int IntKind.u8) b n.toNat)),
 ((24 : Nat), SV.int IntKind.u8 (gt (Sh.int IntKind.u8) b n.toNat)),
 ((25 : Nat),
 SV.bool (decide (gt (Sh.int IntKind.u8) a n.toNat = gt (Sh.int IntKind.u8) b n.toNat))),
 ((26 : Nat),
 SV.bool
 (bif true then decide (gt (Sh.int IntKind.u8) a n.toNat = gt (Sh.int IntKind.u8) b n.toNat)
 else false)),
 ((27 : Nat), SV.int IntKind.i64 n),
 ((28 : Nat), SV.int IntKind.i64 (IntKind.i64.wrap (n + (1 : Int))))],
 blk := [] })
 (Q [SV.int IntKind.i64 n] []))
 (false = false ∧ Q [SV.int IntKind.i64 n] []))
 (false = false ∧ false = false ∧ Q [SV.int IntKind.i64 n] [])) := by kernel_rfl
theorem vc_indices (o : List Int) (n : Int) (Q : List SV → List (Nat × LB) → Prop) (R : List Item → PS → Prop) : sy tt G0 [] Try.f34.ntmps Try.f34.results.toList Q R 1000 [.code (bodyOf Try.f34)] (entry [.sl (.int .i64), .int .i64] (o, n, ())) =
    ((0 : Int) ≤ n ∧
 n ≤ n ∧
 n < (2 : Int) ^ (24 : Nat) ∧
 (↑(8 : Nat) : Int) * n ≤ (2 : Int) ^ (48 : Nat) ∧
 R (hd Try.f34 (0 : Nat))
 {
 env :=
 [((0 : Nat), SV.sl (Sh.int IntKind.i64) o), ((1 : Nat), SV.int IntKind.i64 n), ((4 : Nat), SV.nils),
 ((5 : Nat), SV.win true (Sh.int IntKind.i64) (9 : Nat) (0 : Nat) n.toNat),
 ((8 : Nat), SV.int IntKind.i64 n),
 ((9 : Nat), SV.win true (Sh.int IntKind.i64) (9 : Nat) (0 : Nat) n.toNat),
 ((10 : Nat), SV.sl (Sh.int IntKind.i64) o), ((11 : Nat), SV.int IntKind.i64 (↑o.length : Int)),
 ((12 : Nat), SV.int IntKind.i64 (0 : Int))],
 blk :=
 [((9 : Nat), LB.row (3 : Nat) (Sh.int IntKind.i64) (List.replicate n.toNat (Sh.int IntKind.i64).dflt))] }) := by kernel_rfl
theorem vc_indicesL (o r : List Int) (n i : Int) (Q : List SV → List (Nat × LB) → Prop) (R : List Item → PS → Prop) : sy tt G0 [] Try.f34.ntmps Try.f34.results.toList Q R 1000 (hd Try.f34 0) ⟨[(0, .sl (.int .i64) o), (1, .int .i64 n), (5, .win true (.int .i64) 9 0 r.length), (10, .sl (.int .i64) o), (11, .int .i64 o.length), (12, .int .i64 i)], [(9, .row 3 (.int .i64) r)]⟩ =
    (bc (decide (i < (↑o.length : Int)))
 ((0 : Int) ≤ i ∧
 i < (↑o.length : Int) ∧
 bc (decide ((0 : Int) ≤ gt (Sh.int IntKind.i64) o i.toNat))
 (bc (bif true then decide (gt (Sh.int IntKind.i64) o i.toNat < n) else false)
 ((0 : Int) ≤ gt (Sh.int IntKind.i64) o i.toNat ∧
 gt (Sh.int IntKind.i64) o i.toNat < (↑r.length : Int) ∧
 (0 : Nat) + Int.toNat (gt (Sh.int IntKind.i64) o i.toNat) < r.length ∧
 R (hd Try.f34 (0 : Nat))
 {
 env :=
 [((0 : Nat), SV.sl (Sh.int IntKind.i64) o), ((1 : Nat), SV.int IntKind.i64 n),
 ((5 : Nat), SV.win true (Sh.int IntKind.i64) (9 : Nat) (0 : Nat) r.length),
 ((6 : Nat), SV.int IntKind.i64 i),
 ((7 : Nat), SV.int IntKind.i64 (gt (Sh.int IntKind.i64) o i.toNat)),
 ((10 : Nat), SV.sl (Sh.int IntKind.i64) o), ((11 : Nat), SV.int IntKind.i64 (↑o.length : Int)),
 ((12 : Nat), SV.int IntKind.i64 (IntKind.i64.wrap (i + (1 : Int)))),
 ((13 : Nat), SV.bool (decide (i < (↑o.length : Int)))), ((14 : Nat), SV.int IntKind.i64 i),
 ((15 : Nat), SV.elv (Sh.int IntKind.i64) (gt (Sh.int IntKind.i64) o i.toNat)),
 ((16 : Nat), SV.int IntKind.i64 (gt (Sh.int IntKind.i64) o i.toNat)),
 ((17 : Nat), SV.int IntKind.i64 (gt (Sh.int IntKind.i64) o i.toNat)),
 ((18 : Nat), SV.bool (decide ((0 : Int) ≤ gt (Sh.int IntKind.i64) o i.toNat))),
 ((19 : Nat), SV.bool true),
 ((20 : Nat), SV.int IntKind.i64 (gt (Sh.int IntKind.i64) o i.toNat)),
 ((21 : Nat), SV.int IntKind.i64 n),
 ((22 : Nat), SV.bool (decide (gt (Sh.int IntKind.i64) o i.toNat < n))),
 ((23 : Nat), SV.bool (bif true then decide (gt (Sh.int IntKind.i64) o i.toNat < n) else false)),
 ((24 : Nat), SV.win true (Sh.int IntKind.i64) (9 : Nat) (0 : Nat) r.length),
 ((25 : Nat), SV.int IntKind.i64 (gt (Sh.int IntKind.i64) o i.toNat)),
 ((26 : Nat), SV.int IntKind.i64 i),
 ((27 : Nat),
 SV.elp (Sh.int IntKind.i64) (9 : Nat)
 ((0 : Nat) + Int.toNat (gt (Sh.int IntKind.i64) o i.toNat)) (0 : Nat)),
 ((28 : Nat), SV.int IntKind.i64 (IntKind.i64.wrap (i + (1 : Int))))],
 blk :=
 [((9 : Nat),
 LB.row (3 : Nat) (Sh.int IntKind.i64)
 (r.set ((0 : Nat) + Int.toNat (gt (Sh.int IntKind.i64) o i.toNat)) i))] })
 (R (hd Try.f34 (0 : Nat))
 {
 env :=
 [((0 : Nat), SV.sl (Sh.int IntKind.i64) o), ((1 : Nat), SV.int IntKind.i64 n),
 ((5 : Nat), SV.win true (Sh.int IntKind.i64) (9 : Nat) (0 : Nat) r.length),
 ((6 : Nat), SV.int IntKind.i64 i),
 ((7 : Nat), SV.int IntKind.i64 (gt (Sh.int IntKind.i64) o i.toNat)),
 ((10 : Nat), SV.sl (Sh.int IntKind.i64) o), ((11 : Nat), SV.int IntKind.i64 (↑o.length : Int)),
 ((12 : Nat), SV.int IntKind.i64 (IntKind.i64.wrap (i + (1 : Int)))),
 ((13 : Nat), SV.bool (decide (i < (↑o.length : Int)))), ((14 : Nat), SV.int IntKind.i64 i),
 ((15 : Nat), SV.elv (Sh.int IntKind.i64) (gt (Sh.int IntKind.i64) o i.toNat)),
 ((16 : Nat), SV.int IntKind.i64 (gt (Sh.int IntKind.i64) o i.toNat)),
 ((17 : Nat), SV.int IntKind.i64 (gt (Sh.int IntKind.i64) o i.toNat)),
 ((18 : Nat), SV.bool (decide ((0 : Int) ≤ gt (Sh.int IntKind.i64) o i.toNat))),
 ((19 : Nat), SV.bool true), ((20 : Nat), SV.int IntKind.i64 (gt (Sh.int IntKind.i64) o i.toNat)),
 ((21 : Nat), SV.int IntKind.i64 n),
 ((22 : Nat), SV.bool (decide (gt (Sh.int IntKind.i64) o i.toNat < n))),
 ((23 : Nat), SV.bool (bif true then decide (gt (Sh.int IntKind.i64) o i.toNat < n) else false)),
 ((28 : Nat), SV.int IntKind.i64 (IntKind.i64.wrap (i + (1 : Int))))],
 blk := [((9 : Nat), LB.row (3 : Nat) (Sh.int IntKind.i64) r)] }))
 (false = false ∧
 R (hd Try.f34 (0 : Nat))
 {
 env :=
 [((0 : Nat), SV.sl (Sh.int IntKind.i64) o), ((1 : Nat), SV.int IntKind.i64 n),
 ((5 : Nat), SV.win true (Sh.int IntKind.i64) (9 : Nat) (0 : Nat) r.length),
 ((6 : Nat), SV.int IntKind.i64 i),
 ((7 : Nat), SV.int IntKind.i64 (gt (Sh.int IntKind.i64) o i.toNat)),
 ((10 : Nat), SV.sl (Sh.int IntKind.i64) o), ((11 : Nat), SV.int IntKind.i64 (↑o.length : Int)),
 ((12 : Nat), SV.int IntKind.i64 (IntKind.i64.wrap (i + (1 : Int)))),
 ((13 : Nat), SV.bool (decide (i < (↑o.length : Int)))), ((14 : Nat), SV.int IntKind.i64 i),
 ((15 : Nat), SV.elv (Sh.int IntKind.i64) (gt (Sh.int IntKind.i64) o i.toNat)),
 ((16 : Nat), SV.int IntKind.i64 (gt (Sh.int IntKind.i64) o i.toNat)),
 ((17 : Nat), SV.int IntKind.i64 (gt (Sh.int IntKind.i64) o i.toNat)),
 ((18 : Nat), SV.bool (decide ((0 : Int) ≤ gt (Sh.int IntKind.i64) o i.toNat))),
 ((19 : Nat), SV.bool false), ((23 : Nat), SV.bool false),
 ((28 : Nat), SV.int IntKind.i64 (IntKind.i64.wrap (i + (1 : Int))))],
 blk := [((9 : Nat), LB.row (3 : Nat) (Sh.int IntKind.i64) r)] }))
 (Q [SV.win true (Sh.int IntKind.i64) (9 : Nat) (0 : Nat) r.length]
 [((9 : Nat), LB.row (3 : Nat) (Sh.int IntKind.i64) r)])) := by kernel_rfl
theorem vc_ints (a b : List Int) (Q : List SV → List (Nat × LB) → Prop) (R : List Item → PS → Prop) : sy tt G0 [] Try.f13.ntmps Try.f13.results.toList Q R 1000 [.code (bodyOf Try.f13)] (entry [.sl (.int .i64), .sl (.int .i64)] (a, b, ())) =
    (bc (decide ((↑a.length : Int) ≠ (↑b.length : Int))) (Q [SV.bool false] [])
 (R (hd Try.f13 (0 : Nat))
 {
 env :=
 [((0 : Nat), SV.sl (Sh.int IntKind.i64) a), ((1 : Nat), SV.sl (Sh.int IntKind.i64) b),
 ((4 : Nat), SV.bool false), ((5 : Nat), SV.int IntKind.i64 (0 : Int)),
 ((6 : Nat), SV.sl (Sh.int IntKind.i64) a), ((7 : Nat), SV.int IntKind.i64 (↑a.length : Int)),
 ((8 : Nat), SV.sl (Sh.int IntKind.i64) b), ((9 : Nat), SV.int IntKind.i64 (↑b.length : Int)),
 ((10 : Nat), SV.bool (decide ((↑a.length : Int) ≠ (↑b.length : Int))))],
 blk := [] })) := by kernel_rfl
end Go.Proofs.Ytjcknfkddbiobaa
namespace Go.Proofs.Ytjcknfkddbiobaa
open Go.Px Go.Ax
/-- Whether a text comes before another one. -/
def lexLt : List Int → List Int → Bool
  | _, [] => false
  | [], _ :: _ => true
  | a :: l, b :: m => if a = b then lexLt l m else decide (a < b)
/-- How much two texts have in common. -/
def lcp : List Int → List Int → Nat
  | a :: l, b :: m => if a = b then lcp l m + 1 else 0
  | _, _ => 0
theorem gt_eq {k : IntKind} {l : List Int} {i : Nat} (h : i < l.length) : gt (Sh.int k) l i = l[i] := by
  show (l[i]?).getD _ = _
  rw [List.getElem?_eq_getElem h]; rfl
theorem dropc {l : List Int} {i : Nat} (h : i < l.length) : l.drop i = l[i] :: l.drop (i + 1) := List.drop_eq_getElem_cons h
def preLim (n : Int) : Prop := 0 ≤ n
def ctLimited : Ctr := ⟨[.sl (.int .u8), .int .i64], fun x => preLim x.2.1, fun x => [.sl (.int .u8) (List.take x.2.1.toNat x.1)], fun _ => []⟩
theorem limited_run (b : List Int) (n : Int) (hp : preLim n) (R : List Item → PS → Prop) : sy tt G0 [] Try.f11.ntmps Try.f11.results.toList (QC ctLimited (b, n, ())) R 1000 [.code (bodyOf Try.f11)] (entry [.sl (.int .u8), .int .i64] (b, n, ())) := by
  unfold preLim at hp
  refine (vc_limited b n _ _).mpr (bc_of (fun h => ?_) (fun h => ?_))
  · have h := of_decide_eq_true h
    exact ⟨hp, by omega, QC.flat rfl rfl rfl⟩
  · have h := of_decide_eq_false h
    refine QC.flat ?_ rfl rfl
    show [SV.sl (.int .u8) (List.take n.toNat b)] = _
    rw [List.take_of_length_le (by omega)]
theorem limited_held : Held Try.prog G0 11 ctLimited := Held.run cx0 (fn := Try.f11) rfl rfl ⟨by decide, by decide⟩ fun x hp => limited_run x.1 x.2.1 hp _
def sfx (b : List Int) (n : Int) : List Int := if n < 0 then [] else b.drop n.toNat
def ctAt : Ctr := ⟨[.sl (.int .u8), .int .i64], fun _ => True, fun x => [.sl (.int .u8) (sfx x.1 x.2.1)], fun _ => []⟩
theorem QC.nils {ct : Ctr} {x : DL ct.args} {e : Sh} {l : List e.D} (h : ct.out x = [.sl e l]) (hl : l = []) (hr : ct.rows x = []) : QC ct x [.nils] [] :=
  ⟨fun _ => none, by rw [h]; exact ⟨_, _, rfl, .inr ⟨rfl, hl⟩, rfl⟩, by rw [hr]; trivial, fun _ _ _ e => by simp at e, by rw [hr]; rfl⟩
theorem at_run (b : List Int) (n : Int) (R : List Item → PS → Prop) : sy tt G0 [] Try.f30.ntmps Try.f30.results.toList (QC ctAt (b, n, ())) R 1000 [.code (bodyOf Try.f30)] (entry [.sl (.int .u8), .int .i64] (b, n, ())) := by
  refine (vc_suffixAt b n _ _).mpr (bc_of (fun h => ?_) (fun h => bc_of (fun h2 => ?_) (fun h2 => ?_)))
  · have h := of_decide_eq_true h
    exact ⟨rfl, QC.nils (e := .int .u8) (l := sfx b n) rfl (by rw [sfx, if_pos h]) rfl⟩
  · have h := of_decide_eq_false h
    have h2 : (b.length : Int) < n := of_decide_eq_true h2
    exact QC.nils (e := .int .u8) (l := sfx b n) rfl (by rw [sfx, if_neg h]; exact List.drop_eq_nil_of_le (by omega)) rfl
  · have h := of_decide_eq_false h
    have h2 : ¬ (b.length : Int) < n := of_decide_eq_false h2
    refine ⟨by omega, by omega, QC.flat ?_ rfl rfl⟩
    show [SV.sl (.int .u8) (sfx b n)] = _
    rw [sfx, if_neg h]
theorem at_held : Held Try.prog G0 30 ctAt := Held.run cx0 (fn := Try.f30) rfl rfl ⟨by decide, by decide⟩ fun x _ => at_run x.1 x.2.1 _
abbrev GD (f : Nat) (fn : Func) (Q : List SV → List (Nat × LB) → Prop) (it : List Item) (S : PS) : Prop := Px.Good Try.prog tt G0 f fn.ntmps fn.results.toList Q it S
theorem less_loop (a b : List Int) (ha : a.length < 2 ^ 62) : ∀ (m i : Nat), a.length - i ≤ m → i ≤ a.length → i ≤ b.length →
    GD 20 Try.f20 (fun rs _ => rs = [.bool (lexLt (a.drop i) (b.drop i))]) (hd Try.f20 0) ⟨[(0, .sl (.int .u8) a), (1, .sl (.int .u8) b), (5, .int .i64 (i : Int))], []⟩ := by
  intro m
  induction m with
  | zero =>
    intro i hm h1 h2
    refine sy_go cx0 (vc_lessL a b i _ _) (bc_of (fun h => ?_) (fun h => ?_))
    · have h := of_decide_eq_true h; omega
    · refine ⟨rfl, ?_⟩
      show [SV.bool _] = [SV.bool _]
      rw [List.drop_eq_nil_of_le (show a.length ≤ i by omega)]
      by_cases hb : i < b.length
      · rw [dropc hb, lexLt, decide_eq_true (by omega)]
      · rw [List.drop_eq_nil_of_le (show b.length ≤ i by omega), lexLt, decide_eq_false (by omega)]
  | succ m ih =>
    intro i hm h1 h2
    refine sy_go cx0 (vc_lessL a b i _ _) (bc_of (fun h => ?_) (fun h => ?_))
    · have h := of_decide_eq_true h
      have hia : i < a.length := by omega
      refine bc_of (fun h3 => ?_) (fun h3 => ?_)
      · have h3 : (i : Int) < b.length := of_decide_eq_true h3
        have hib : i < b.length := by omega
        have g1 : gt (Sh.int .u8) a (i : Int).toNat = a[i] := gt_eq hia
        have g2 : gt (Sh.int .u8) b (i : Int).toNat = b[i] := gt_eq hib
        rw [g1, g2]
        refine ⟨by omega, h, by omega, h3, bc_of (fun h4 => ?_) (fun h4 => ?_)⟩
        · have h4 := of_decide_eq_true h4
          refine ⟨by omega, h, by omega, h3, ?_⟩
          show [SV.bool _] = [SV.bool _]
          rw [dropc hia, dropc hib, lexLt, if_neg h4]
        · have h4 : a[i] = b[i] := by simpa using of_decide_eq_false h4
          have e : lexLt (a.drop i) (b.drop i) = lexLt (a.drop (i + 1)) (b.drop (i + 1)) := by rw [dropc hia, dropc hib, lexLt, if_pos h4]
          rw [e, IntWalk.i64_in ((i : Int) + 1) (by omega)]
          exact (ih (i + 1) (by omega) (by omega) (by omega)).only ⟨rfl, rfl, rfl, trivial⟩ trivial
      · have h3 : ¬ (i : Int) < b.length := of_decide_eq_false h3
        show [SV.bool _] = [SV.bool _]
        rw [List.drop_eq_nil_of_le (show b.length ≤ i by omega), decide_eq_false (by omega)]
        cases a.drop i <;> simp [lexLt]
    · have h := of_decide_eq_false h
      refine ⟨rfl, ?_⟩
      show [SV.bool _] = [SV.bool _]
      rw [List.drop_eq_nil_of_le (show a.length ≤ i by omega)]
      by_cases hb : i < b.length
      · rw [dropc hb, lexLt, decide_eq_true (by omega)]
      · rw [List.drop_eq_nil_of_le (show b.length ≤ i by omega), lexLt, decide_eq_false (by omega)]
def preTwo (a b : Nat) : Prop := a < 2 ^ 62 ∧ b < 2 ^ 62
abbrev slB : Sh := .sl (.int .u8)
def ctLess : Ctr := ⟨[slB, slB], fun x => preTwo (List.length x.1) (List.length x.2.1), fun x => [.bool (lexLt x.1 x.2.1)], fun _ => []⟩
theorem less_run (a b : List Int) (hp : preTwo a.length b.length) : sy tt G0 [] Try.f20.ntmps Try.f20.results.toList (QC ctLess (a, b, ())) (Px.Good Try.prog tt G0 20 Try.f20.ntmps Try.f20.results.toList (QC ctLess (a, b, ()))) 1000 [.code (bodyOf Try.f20)] (entry [slB, slB] (a, b, ())) := by
  refine (vc_less a b _ _).mpr ?_
  exact ((less_loop a b hp.1 _ 0 (Nat.le_refl _) (by omega) (by omega)).post fun rs blk hq => QC.flat (by rw [hq]; rfl) rfl (by rw [hq]; rfl)).only ⟨rfl, rfl, rfl, trivial⟩ trivial
theorem less_held : Held Try.prog G0 20 ctLess := Held.run cx0 (fn := Try.f20) rfl rfl ⟨by decide, by decide⟩ fun x hp => less_run x.1 x.2.1 hp
def ctLcp : Ctr := ⟨[slB, slB], fun x => preTwo (List.length x.1) (List.length x.2.1), fun x => [.int .i64 (lcp x.1 x.2.1 : Nat)], fun _ => []⟩
theorem lcp_nil (a : List Int) : lcp a [] = 0 := by cases a <;> rfl
theorem shared_loop (a b : List Int) (ha : a.length < 2 ^ 62) : ∀ (m i : Nat), a.length - i ≤ m → i ≤ a.length → i ≤ b.length →
    GD 21 Try.f21 (fun rs _ => rs = [.int .i64 ((i + lcp (a.drop i) (b.drop i) : Nat) : Int)]) (hd Try.f21 0) ⟨[(0, .sl (.int .u8) a), (1, .sl (.int .u8) b), (5, .int .i64 (i : Int))], []⟩ := by
  intro m
  induction m with
  | zero =>
    intro i hm h1 h2
    refine sy_go cx0 (vc_sharedL a b i _ _) (bc_of (fun h => ?_) (fun h => ?_))
    · have h := of_decide_eq_true h; omega
    · refine ⟨rfl, rfl, ?_⟩
      show [SV.int _ _] = [SV.int _ _]
      rw [List.drop_eq_nil_of_le (show a.length ≤ i by omega)]
      rfl
  | succ m ih =>
    intro i hm h1 h2
    refine sy_go cx0 (vc_sharedL a b i _ _) (bc_of (fun h => ?_) (fun h => ?_))
    · have h := of_decide_eq_true h
      have hia : i < a.length := by omega
      refine bc_of (fun h3 => ?_) (fun h3 => ?_)
      · have h3 : (i : Int) < b.length := of_decide_eq_true h3
        have hib : i < b.length := by omega
        have g1 : gt (Sh.int .u8) a (i : Int).toNat = a[i] := gt_eq hia
        have g2 : gt (Sh.int .u8) b (i : Int).toNat = b[i] := gt_eq hib
        rw [g1, g2]
        refine ⟨by omega, h, by omega, h3, bc_of (fun h4 => ?_) (fun h4 => ?_)⟩
        · have h4 : a[i] = b[i] := of_decide_eq_true h4
          have e : i + lcp (a.drop i) (b.drop i) = (i + 1) + lcp (a.drop (i + 1)) (b.drop (i + 1)) := by rw [dropc hia, dropc hib, lcp, if_pos h4]; omega
          rw [e, IntWalk.i64_in ((i : Int) + 1) (by omega)]
          exact (ih (i + 1) (by omega) (by omega) (by omega)).only ⟨rfl, rfl, rfl, trivial⟩ trivial
        · have h4 : ¬ a[i] = b[i] := of_decide_eq_false h4
          show [SV.int _ _] = [SV.int _ _]
          rw [dropc hia, dropc hib, lcp, if_neg h4]
          rfl
      · have h3 : ¬ (i : Int) < b.length := of_decide_eq_false h3
        refine ⟨rfl, ?_⟩
        show [SV.int _ _] = [SV.int _ _]
        rw [List.drop_eq_nil_of_le (show b.length ≤ i by omega), lcp_nil]
        rfl
    · have h := of_decide_eq_false h
      refine ⟨rfl, rfl, ?_⟩
      show [SV.int _ _] = [SV.int _ _]
      rw [List.drop_eq_nil_of_le (show a.length ≤ i by omega)]
      rfl
theorem shared_run (a b : List Int) (hp : preTwo a.length b.length) : sy tt G0 [] Try.f21.ntmps Try.f21.results.toList (QC ctLcp (a, b, ())) (Px.Good Try.prog tt G0 21 Try.f21.ntmps Try.f21.results.toList (QC ctLcp (a, b, ()))) 1000 [.code (bodyOf Try.f21)] (entry [slB, slB] (a, b, ())) := by
  refine (vc_shared a b _ _).mpr ?_
  exact ((shared_loop a b hp.1 _ 0 (Nat.le_refl _) (by omega) (by omega)).post fun rs blk hq => QC.flat (by rw [hq, Nat.zero_add]; rfl) rfl (by rw [hq]; rfl)).only ⟨rfl, rfl, rfl, trivial⟩ trivial
theorem shared_held : Held Try.prog G0 21 ctLcp := Held.run cx0 (fn := Try.f21) rfl rfl ⟨by decide, by decide⟩ fun x hp => shared_run x.1 x.2.1 hp
theorem equal_loop (a b : List Int) (ha : a.length < 2 ^ 62) : ∀ (m i : Nat), a.length - i ≤ m → i ≤ a.length → i ≤ b.length →
    GD 29 Try.f29 (fun rs _ => rs = [.int .i64 ((i + lcp (a.drop i) (b.drop i) : Nat) : Int)]) (hd Try.f29 0) ⟨[(0, .sl (.int .u8) a), (1, .sl (.int .u8) b), (5, .int .i64 (i : Int))], []⟩ := by
  intro m
  induction m with
  | zero =>
    intro i hm h1 h2
    refine sy_go cx0 (vc_equalL a b i _ _) (bc_of (fun h => ?_) (fun h => ?_))
    · have h := of_decide_eq_true h; omega
    · refine ⟨rfl, rfl, ?_⟩
      show [SV.int _ _] = [SV.int _ _]
      rw [List.drop_eq_nil_of_le (show a.length ≤ i by omega)]
      rfl
  | succ m ih =>
    intro i hm h1 h2
    refine sy_go cx0 (vc_equalL a b i _ _) (bc_of (fun h => ?_) (fun h => ?_))
    · have h := of_decide_eq_true h
      have hia : i < a.length := by omega
      refine bc_of (fun h3 => ?_) (fun h3 => ?_)
      · have h3 : (i : Int) < b.length := of_decide_eq_true h3
        have hib : i < b.length := by omega
        have g1 : gt (Sh.int .u8) a (i : Int).toNat = a[i] := gt_eq hia
        have g2 : gt (Sh.int .u8) b (i : Int).toNat = b[i] := gt_eq hib
        rw [g1, g2]
        refine ⟨by omega, h, by omega, h3, bc_of (fun h4 => ?_) (fun h4 => ?_)⟩
        · have h4 : a[i] = b[i] := of_decide_eq_true h4
          have e : i + lcp (a.drop i) (b.drop i) = (i + 1) + lcp (a.drop (i + 1)) (b.drop (i + 1)) := by rw [dropc hia, dropc hib, lcp, if_pos h4]; omega
          rw [e, IntWalk.i64_in ((i : Int) + 1) (by omega)]
          exact (ih (i + 1) (by omega) (by omega) (by omega)).only ⟨rfl, rfl, rfl, trivial⟩ trivial
        · have h4 : ¬ a[i] = b[i] := of_decide_eq_false h4
          show [SV.int _ _] = [SV.int _ _]
          rw [dropc hia, dropc hib, lcp, if_neg h4]
          rfl
      · have h3 : ¬ (i : Int) < b.length := of_decide_eq_false h3
        refine ⟨rfl, ?_⟩
        show [SV.int _ _] = [SV.int _ _]
        rw [List.drop_eq_nil_of_le (show b.length ≤ i by omega), lcp_nil]
        rfl
    · have h := of_decide_eq_false h
      refine ⟨rfl, rfl, ?_⟩
      show [SV.int _ _] = [SV.int _ _]
      rw [List.drop_eq_nil_of_le (show a.length ≤ i by omega)]
      rfl
theorem equal_run (a b : List Int) (hp : preTwo a.length b.length) : sy tt G0 [] Try.f29.ntmps Try.f29.results.toList (QC ctLcp (a, b, ())) (Px.Good Try.prog tt G0 29 Try.f29.ntmps Try.f29.results.toList (QC ctLcp (a, b, ()))) 1000 [.code (bodyOf Try.f29)] (entry [slB, slB] (a, b, ())) := by
  refine (vc_equal a b _ _).mpr ?_
  exact ((equal_loop a b hp.1 _ 0 (Nat.le_refl _) (by omega) (by omega)).post fun rs blk hq => QC.flat (by rw [hq, Nat.zero_add]; rfl) rfl (by rw [hq]; rfl)).only ⟨rfl, rfl, rfl, trivial⟩ trivial
theorem equal_held : Held Try.prog G0 29 ctLcp := Held.run cx0 (fn := Try.f29) rfl rfl ⟨by decide, by decide⟩ fun x hp => equal_run x.1 x.2.1 hp
def C1 : CV := [(11, .inl ctLimited), (30, .inl ctAt), (20, .inl ctLess), (21, .inl ctLcp), (29, .inl ctLcp)]
theorem cx1 : CxOK Try.prog tt G0 C1 := ((((cx0.cons equal_held (fn := Try.f29) rfl rfl rfl).cons shared_held (fn := Try.f21) rfl rfl rfl).cons less_held (fn := Try.f20) rfl rfl rfl).cons at_held (fn := Try.f30) rfl rfl rfl).cons limited_held (fn := Try.f11) rfl rfl rfl
end Go.Proofs.Ytjcknfkddbiobaa
namespace Go.Proofs.Ytjcknfkddbiobaa
open Go.Px Go.Ax
set_option maxRecDepth 100000
theorem vc_intsL (a b : List Int) (i : Int) (Q : List SV → List (Nat × LB) → Prop) (R : List Item → PS → Prop) : sy tt G0 [] Try.f13.ntmps Try.f13.results.toList Q R 1000 (hd Try.f13 0) ⟨[(0, .sl (.int .i64) a), (1, .sl (.int .i64) b), (5, .int .i64 i)], []⟩ =
    (bc (decide (i < (↑a.length : Int)))
 ((0 : Int) ≤ i ∧
 i < (↑a.length : Int) ∧
 (0 : Int) ≤ i ∧
 i < (↑b.length : Int) ∧
 bc (decide (gt (Sh.int IntKind.i64) a i.toNat ≠ gt (Sh.int IntKind.i64) b i.toNat)) (Q [SV.bool false] [])
 (R (hd Try.f13 (0 : Nat))
 {
 env :=
 [((0 : Nat), SV.sl (Sh.int IntKind.i64) a), ((1 : Nat), SV.sl (Sh.int IntKind.i64) b),
 ((5 : Nat), SV.int IntKind.i64 (IntKind.i64.wrap (i + (1 : Int)))),
 ((11 : Nat), SV.int IntKind.i64 i), ((12 : Nat), SV.sl (Sh.int IntKind.i64) a),
 ((13 : Nat), SV.int IntKind.i64 (↑a.length : Int)),
 ((14 : Nat), SV.bool (decide (i < (↑a.length : Int)))), ((15 : Nat), SV.int IntKind.i64 i),
 ((16 : Nat), SV.int IntKind.i64 (IntKind.i64.wrap (i + (1 : Int)))),
 ((17 : Nat), SV.sl (Sh.int IntKind.i64) a), ((18 : Nat), SV.int IntKind.i64 i),
 ((19 : Nat), SV.elv (Sh.int IntKind.i64) (gt (Sh.int IntKind.i64) a i.toNat)),
 ((20 : Nat), SV.int IntKind.i64 (gt (Sh.int IntKind.i64) a i.toNat)),
 ((21 : Nat), SV.sl (Sh.int IntKind.i64) b), ((22 : Nat), SV.int IntKind.i64 i),
 ((23 : Nat), SV.elv (Sh.int IntKind.i64) (gt (Sh.int IntKind.i64) b i.toNat)),
 ((24 : Nat), SV.int IntKind.i64 (gt (Sh.int IntKind.i64) b i.toNat)),
 ((25 : Nat),
 SV.bool (decide (gt (Sh.int IntKind.i64) a i.toNat ≠ gt (Sh.int IntKind.i64) b i.toNat)))],
 blk := [] }))
 (Q [SV.bool true] [])) := by kernel_rfl
theorem vc_ord (b : List Int) (Q : List SV → List (Nat × LB) → Prop) (R : List Item → PS → Prop) : sy tt G0 C1 Try.f12.ntmps Try.f12.results.toList Q R 1000 [.code (bodyOf Try.f12)] (entry [.sl (.int .u8)] (b, ())) =
    (R (hd Try.f12 (0 : Nat))
 {
 env :=
 [((0 : Nat), SV.sl (Sh.int IntKind.u8) b), ((2 : Nat), SV.nils),
 ((3 : Nat), SV.win true (Sh.int IntKind.i64) (7 : Nat) (0 : Nat) (0 : Nat)),
 ((4 : Nat), SV.int IntKind.i64 (0 : Int)),
 ((7 : Nat), SV.win true (Sh.int IntKind.i64) (7 : Nat) (0 : Nat) (0 : Nat))],
 blk := [((7 : Nat), LB.row (3 : Nat) (Sh.int IntKind.i64) (List.replicate (0 : Nat) (Sh.int IntKind.i64).dflt))] }) := by kernel_rfl
theorem vc_ordO (b r : List Int) (i : Int) (Q : List SV → List (Nat × LB) → Prop) (R : List Item → PS → Prop) : sy tt G0 C1 Try.f12.ntmps Try.f12.results.toList Q R 1000 (hd Try.f12 0) ⟨[(0, .sl (.int .u8) b), (3, .win true (.int .i64) 7 0 r.length), (4, .int .i64 i)], [(7, .row 3 (.int .i64) r)]⟩ =
    (bc (decide (i < (↑b.length : Int)))
 (R (hd Try.f12 (1 : Nat))
 {
 env :=
 [((0 : Nat), SV.sl (Sh.int IntKind.u8) b),
 ((3 : Nat), SV.win true (Sh.int IntKind.i64) (7 : Nat) (0 : Nat) r.length), ((4 : Nat), SV.int IntKind.i64 i),
 ((5 : Nat), SV.int IntKind.i64 (0 : Int)), ((8 : Nat), SV.int IntKind.i64 i),
 ((9 : Nat), SV.sl (Sh.int IntKind.u8) b), ((10 : Nat), SV.int IntKind.i64 (↑b.length : Int)),
 ((11 : Nat), SV.bool (decide (i < (↑b.length : Int))))],
 blk := [((7 : Nat), LB.row (3 : Nat) (Sh.int IntKind.i64) r)] })
 (Q [SV.win true (Sh.int IntKind.i64) (7 : Nat) (0 : Nat) r.length]
 [((7 : Nat), LB.row (3 : Nat) (Sh.int IntKind.i64) r)])) := by kernel_rfl
theorem vc_ordI (b r : List Int) (i k : Int) (Q : List SV → List (Nat × LB) → Prop) (R : List Item → PS → Prop) : sy tt G0 C1 Try.f12.ntmps Try.f12.results.toList Q R 1000 (hd Try.f12 1) ⟨[(0, .sl (.int .u8) b), (3, .win true (.int .i64) 7 0 r.length), (4, .int .i64 i), (5, .int .i64 k)], [(7, .row 3 (.int .i64) r)]⟩ =
    (bc (decide (k < (↑r.length : Int)))
 ((0 : Int) ≤ k ∧
 k < (↑r.length : Int) ∧
 (0 : Nat) + k.toNat < r.length ∧
 (0 : Int) ≤ gt (Sh.int IntKind.i64) r ((0 : Nat) + k.toNat) ∧
 gt (Sh.int IntKind.i64) r ((0 : Nat) + k.toNat) ≤ (↑b.length : Int) ∧
 (0 : Int) ≤ i ∧
 i ≤ (↑b.length : Int) ∧
 ctLess.pre
 (List.drop (Int.toNat (gt (Sh.int IntKind.i64) r ((0 : Nat) + k.toNat))) b, List.drop i.toNat b,
 ()) ∧
 bc
 (bif true then
 lexLt (List.drop (Int.toNat (gt (Sh.int IntKind.i64) r ((0 : Nat) + k.toNat))) b)
 (List.drop i.toNat b)
 else false)
 (R (hd Try.f12 (1 : Nat))
 {
 env :=
 [((0 : Nat), SV.sl (Sh.int IntKind.u8) b),
 ((3 : Nat), SV.win true (Sh.int IntKind.i64) (7 : Nat) (0 : Nat) r.length),
 ((4 : Nat), SV.int IntKind.i64 i),
 ((5 : Nat), SV.int IntKind.i64 (IntKind.i64.wrap (k + (1 : Int)))),
 ((14 : Nat), SV.int IntKind.i64 k),
 ((15 : Nat), SV.win true (Sh.int IntKind.i64) (7 : Nat) (0 : Nat) r.length),
 ((16 : Nat), SV.int IntKind.i64 (↑r.length : Int)),
 ((17 : Nat), SV.bool (decide (k < (↑r.length : Int)))), ((18 : Nat), SV.bool true),
 ((19 : Nat), SV.sl (Sh.int IntKind.u8) b),
 ((20 : Nat), SV.win true (Sh.int IntKind.i64) (7 : Nat) (0 : Nat) r.length),
 ((21 : Nat), SV.int IntKind.i64 k),
 ((22 : Nat), SV.elp (Sh.int IntKind.i64) (7 : Nat) ((0 : Nat) + k.toNat) (0 : Nat)),
 ((23 : Nat), SV.int IntKind.i64 (gt (Sh.int IntKind.i64) r ((0 : Nat) + k.toNat))),
 ((24 : Nat),
 SV.sl (Sh.int IntKind.u8)
 (List.drop (Int.toNat (gt (Sh.int IntKind.i64) r ((0 : Nat) + k.toNat))) b)),
 ((25 : Nat), SV.sl (Sh.int IntKind.u8) b), ((26 : Nat), SV.int IntKind.i64 i),
 ((27 : Nat), SV.sl (Sh.int IntKind.u8) (List.drop i.toNat b)),
 ((28 : Nat),
 SV.bool
 (lexLt (List.drop (Int.toNat (gt (Sh.int IntKind.i64) r ((0 : Nat) + k.toNat))) b)
 (List.drop i.toNat b))),
 ((29 : Nat),
 SV.bool
 (bif true then
 lexLt (List.drop (Int.toNat (gt (Sh.int IntKind.i64) r ((0 : Nat) + k.toNat))) b)
 (List.drop i.toNat b)
 else false)),
 ((30 : Nat), SV.int IntKind.i64 k),
 ((31 : Nat), SV.int IntKind.i64 (IntKind.i64.wrap (k + (1 : Int))))],
 blk := [((7 : Nat), LB.row (3 : Nat) (Sh.int IntKind.i64) r)] })
 ((0 : Int) ≤ k ∧
 k ≤ (↑r.length : Int) ∧
 (0 : Nat) + r.length ≤ r.length ∧
 (0 : Nat) + (0 : Nat) + (k.toNat - (0 : Nat)) ≤ r.length ∧
 (0 : Nat) = (List.replicate (0 : Nat) (Sh.int IntKind.i64).dflt).length ∧
 (0 : Nat) = (0 : Nat) ∧
 (0 : Nat) +
 (winL
 ((fun self => self.6)
 (mkT (1 : Nat) (8 : Nat) false (TK.int IntKind.i64) (Sh.int IntKind.i64)
 none))
 ((0 : Nat) + (0 : Nat)) (k.toNat - (0 : Nat)) r).length <
 (2 : Nat) ^ (30 : Nat) ∧
 (8 : Nat) ≤ (2 : Nat) ^ (10 : Nat) ∧
 (0 : Nat) + (1 : Nat) ≤
 ((List.replicate (1 : Nat) (Sh.int IntKind.i64).dflt).set (0 : Nat) i).length ∧
 (0 : Nat) +
 (winL
 ((fun self => self.6)
 (mkT (1 : Nat) (8 : Nat) false (TK.int IntKind.i64)
 (Sh.int IntKind.i64) none))
 ((0 : Nat) + (0 : Nat)) (k.toNat - (0 : Nat)) r).length =
 (List.replicate (0 : Nat) (Sh.int IntKind.i64).dflt ++
 winL (Sh.int IntKind.i64) ((0 : Nat) + (0 : Nat)) (k.toNat - (0 : Nat))
 r).length ∧
 (0 : Nat) = (0 : Nat) ∧
 (0 : Nat) +
 (winL
 ((fun self => self.6)
 (mkT (1 : Nat) (8 : Nat) false (TK.int IntKind.i64)
 (Sh.int IntKind.i64) none))
 ((0 : Nat) + (0 : Nat)) (k.toNat - (0 : Nat)) r).length +
 (winL
 ((fun self => self.6)
 (mkT (1 : Nat) (8 : Nat) false (TK.int IntKind.i64)
 (Sh.int IntKind.i64) none))
 (0 : Nat) (1 : Nat)
 ((List.replicate (1 : Nat) (Sh.int IntKind.i64).dflt).set (0 : Nat)
 i)).length <
 (2 : Nat) ^ (30 : Nat) ∧
 (8 : Nat) ≤ (2 : Nat) ^ (10 : Nat) ∧
 (0 : Int) ≤ k ∧
 k ≤ (↑r.length : Int) ∧
 (0 : Nat) + r.length ≤ r.length ∧
 (0 : Nat) + k.toNat + (r.length - k.toNat) ≤ r.length ∧
 (0 : Nat) +
 (winL
 ((fun self => self.6)
 (mkT (1 : Nat) (8 : Nat) false (TK.int IntKind.i64)
 (Sh.int IntKind.i64) none))
 ((0 : Nat) + (0 : Nat)) (k.toNat - (0 : Nat))
 r).length +
 (winL
 ((fun self => self.6)
 (mkT (1 : Nat) (8 : Nat) false (TK.int IntKind.i64)
 (Sh.int IntKind.i64) none))
 (0 : Nat) (1 : Nat)
 ((List.replicate (1 : Nat)
 (Sh.int IntKind.i64).dflt).set
 (0 : Nat) i)).length =
 (List.replicate (0 : Nat) (Sh.int IntKind.i64).dflt ++
 winL (Sh.int IntKind.i64) ((0 : Nat) + (0 : Nat))
 (k.toNat - (0 : Nat)) r ++
 winL (Sh.int IntKind.i64) (0 : Nat) (1 : Nat)
 ((List.replicate (1 : Nat)
 (Sh.int IntKind.i64).dflt).set
 (0 : Nat) i)).length ∧
 (0 : Nat) = (0 : Nat) ∧
 (0 : Nat) +
 (winL
 ((fun self => self.6)
 (mkT (1 : Nat) (8 : Nat) false
 (TK.int IntKind.i64) (Sh.int IntKind.i64)
 none))
 ((0 : Nat) + (0 : Nat)) (k.toNat - (0 : Nat))
 r).length +
 (winL
 ((fun self => self.6)
 (mkT (1 : Nat) (8 : Nat) false
 (TK.int IntKind.i64) (Sh.int IntKind.i64)
 none))
 (0 : Nat) (1 : Nat)
 ((List.replicate (1 : Nat)
 (Sh.int IntKind.i64).dflt).set
 (0 : Nat) i)).length +
 (winL
 ((fun self => self.6)
 (mkT (1 : Nat) (8 : Nat) false
 (TK.int IntKind.i64) (Sh.int IntKind.i64) none))
 ((0 : Nat) + k.toNat) (r.length - k.toNat)
 r).length <
 (2 : Nat) ^ (30 : Nat) ∧
 (8 : Nat) ≤ (2 : Nat) ^ (10 : Nat) ∧
 R (hd Try.f12 (0 : Nat))
 {
 env :=
 [((0 : Nat), SV.sl (Sh.int IntKind.u8) b),
 ((3 : Nat),
 SV.win true (Sh.int IntKind.i64) (45 : Nat)
 (0 : Nat)
 ((0 : Nat) +
 (winL
 ((fun self => self.6)
 (mkT (1 : Nat) (8 : Nat) false
 (TK.int IntKind.i64)
 (Sh.int IntKind.i64) none))
 ((0 : Nat) + (0 : Nat))
 (k.toNat - (0 : Nat)) r).length +
 (winL
 ((fun self => self.6)
 (mkT (1 : Nat) (8 : Nat) false
 (TK.int IntKind.i64)
 (Sh.int IntKind.i64) none))
 (0 : Nat) (1 : Nat)
 ((List.replicate (1 : Nat)
 (Sh.int IntKind.i64).dflt).set
 (0 : Nat) i)).length +
 (winL
 ((fun self => self.6)
 (mkT (1 : Nat) (8 : Nat) false
 (TK.int IntKind.i64)
 (Sh.int IntKind.i64) none))
 ((0 : Nat) + k.toNat)
 (r.length - k.toNat) r).length)),
 ((4 : Nat),
 SV.int IntKind.i64
 (IntKind.i64.wrap (i + (1 : Int)))),
 ((5 : Nat), SV.int IntKind.i64 k),
 ((6 : Nat), SV.dead),
 ((12 : Nat), SV.int IntKind.i64 i),
 ((13 : Nat),
 SV.int IntKind.i64
 (IntKind.i64.wrap (i + (1 : Int)))),
 ((14 : Nat), SV.int IntKind.i64 k),
 ((15 : Nat),
 SV.win true (Sh.int IntKind.i64) (7 : Nat)
 (0 : Nat) r.length),
 ((16 : Nat),
 SV.int IntKind.i64 (↑r.length : Int)),
 ((17 : Nat),
 SV.bool (decide (k < (↑r.length : Int)))),
 ((18 : Nat), SV.bool true),
 ((19 : Nat), SV.sl (Sh.int IntKind.u8) b),
 ((20 : Nat),
 SV.win true (Sh.int IntKind.i64) (7 : Nat)
 (0 : Nat) r.length),
 ((21 : Nat), SV.int IntKind.i64 k),
 ((22 : Nat),
 SV.elp (Sh.int IntKind.i64) (7 : Nat)
 ((0 : Nat) + k.toNat) (0 : Nat)),
 ((23 : Nat),
 SV.int IntKind.i64
 (gt (Sh.int IntKind.i64) r
 ((0 : Nat) + k.toNat))),
 ((24 : Nat),
 SV.sl (Sh.int IntKind.u8)
 (List.drop
 (Int.toNat
 (gt (Sh.int IntKind.i64) r
 ((0 : Nat) + k.toNat)))
 b)),
 ((25 : Nat), SV.sl (Sh.int IntKind.u8) b),
 ((26 : Nat), SV.int IntKind.i64 i),
 ((27 : Nat),
 SV.sl (Sh.int IntKind.u8)
 (List.drop i.toNat b)),
 ((28 : Nat),
 SV.bool
 (lexLt
 (List.drop
 (Int.toNat
 (gt (Sh.int IntKind.i64) r
 ((0 : Nat) + k.toNat)))
 b)
 (List.drop i.toNat b))),
 ((29 : Nat),
 SV.bool
 (bif true then
 lexLt
 (List.drop
 (Int.toNat
 (gt (Sh.int IntKind.i64) r
 ((0 : Nat) + k.toNat)))
 b)
 (List.drop i.toNat b)
 else false)),
 ((33 : Nat),
 SV.win true (Sh.int IntKind.i64) (7 : Nat)
 (0 : Nat) r.length),
 ((34 : Nat), SV.int IntKind.i64 k),
 ((35 : Nat),
 SV.win false (Sh.int IntKind.i64) (7 : Nat)
 (0 : Nat) (k.toNat - (0 : Nat))),
 ((37 : Nat), SV.dead),
 ((38 : Nat), SV.int IntKind.i64 i),
 ((39 : Nat),
 SV.win true (Sh.int IntKind.i64) (39 : Nat)
 (0 : Nat) (1 : Nat)),
 ((41 : Nat), SV.dead),
 ((42 : Nat),
 SV.win true (Sh.int IntKind.i64) (7 : Nat)
 (0 : Nat) r.length),
 ((43 : Nat), SV.int IntKind.i64 k),
 ((44 : Nat),
 SV.win false (Sh.int IntKind.i64) (7 : Nat)
 ((0 : Nat) + k.toNat) (r.length - k.toNat)),
 ((45 : Nat),
 SV.win true (Sh.int IntKind.i64) (45 : Nat)
 (0 : Nat)
 ((0 : Nat) +
 (winL
 ((fun self => self.6)
 (mkT (1 : Nat) (8 : Nat) false
 (TK.int IntKind.i64)
 (Sh.int IntKind.i64) none))
 ((0 : Nat) + (0 : Nat))
 (k.toNat - (0 : Nat)) r).length +
 (winL
 ((fun self => self.6)
 (mkT (1 : Nat) (8 : Nat) false
 (TK.int IntKind.i64)
 (Sh.int IntKind.i64) none))
 (0 : Nat) (1 : Nat)
 ((List.replicate (1 : Nat)
 (Sh.int IntKind.i64).dflt).set
 (0 : Nat) i)).length +
 (winL
 ((fun self => self.6)
 (mkT (1 : Nat) (8 : Nat) false
 (TK.int IntKind.i64)
 (Sh.int IntKind.i64) none))
 ((0 : Nat) + k.toNat)
 (r.length - k.toNat) r).length))],
 blk :=
 [((7 : Nat),
 LB.row (3 : Nat) (Sh.int IntKind.i64) r),
 ((39 : Nat),
 LB.row (3 : Nat) (Sh.int IntKind.i64)
 ((List.replicate (1 : Nat)
 (Sh.int IntKind.i64).dflt).set
 (0 : Nat) i)),
 ((45 : Nat),
 LB.row (3 : Nat) (Sh.int IntKind.i64)
 (List.replicate (0 : Nat)
 (Sh.int IntKind.i64).dflt ++
 winL (Sh.int IntKind.i64)
 ((0 : Nat) + (0 : Nat))
 (k.toNat - (0 : Nat)) r ++
 winL (Sh.int IntKind.i64) (0 : Nat)
 (1 : Nat)
 ((List.replicate (1 : Nat)
 (Sh.int IntKind.i64).dflt).set
 (0 : Nat) i) ++
 winL (Sh.int IntKind.i64)
 ((0 : Nat) + k.toNat) (r.length - k.toNat)
 r))] }))
 (false = false ∧
 (0 : Int) ≤ k ∧
 k ≤ (↑r.length : Int) ∧
 (0 : Nat) + r.length ≤ r.length ∧
 (0 : Nat) + (0 : Nat) + (k.toNat - (0 : Nat)) ≤ r.length ∧
 (0 : Nat) = (List.replicate (0 : Nat) (Sh.int IntKind.i64).dflt).length ∧
 (0 : Nat) = (0 : Nat) ∧
 (0 : Nat) +
 (winL
 ((fun self => self.6)
 (mkT (1 : Nat) (8 : Nat) false (TK.int IntKind.i64) (Sh.int IntKind.i64) none))
 ((0 : Nat) + (0 : Nat)) (k.toNat - (0 : Nat)) r).length <
 (2 : Nat) ^ (30 : Nat) ∧
 (8 : Nat) ≤ (2 : Nat) ^ (10 : Nat) ∧
 (0 : Nat) + (1 : Nat) ≤
 ((List.replicate (1 : Nat) (Sh.int IntKind.i64).dflt).set (0 : Nat) i).length ∧
 (0 : Nat) +
 (winL
 ((fun self => self.6)
 (mkT (1 : Nat) (8 : Nat) false (TK.int IntKind.i64) (Sh.int IntKind.i64) none))
 ((0 : Nat) + (0 : Nat)) (k.toNat - (0 : Nat)) r).length =
 (List.replicate (0 : Nat) (Sh.int IntKind.i64).dflt ++
 winL (Sh.int IntKind.i64) ((0 : Nat) + (0 : Nat)) (k.toNat - (0 : Nat)) r).length ∧
 (0 : Nat) = (0 : Nat) ∧
 (0 : Nat) +
 (winL
 ((fun self => self.6)
 (mkT (1 : Nat) (8 : Nat) false (TK.int IntKind.i64) (Sh.int IntKind.i64) none))
 ((0 : Nat) + (0 : Nat)) (k.toNat - (0 : Nat)) r).length +
 (winL
 ((fun self => self.6)
 (mkT (1 : Nat) (8 : Nat) false (TK.int IntKind.i64) (Sh.int IntKind.i64) none))
 (0 : Nat) (1 : Nat)
 ((List.replicate (1 : Nat) (Sh.int IntKind.i64).dflt).set (0 : Nat) i)).length <
 (2 : Nat) ^ (30 : Nat) ∧
 (8 : Nat) ≤ (2 : Nat) ^ (10 : Nat) ∧
 (0 : Int) ≤ k ∧
 k ≤ (↑r.length : Int) ∧
 (0 : Nat) + r.length ≤ r.length ∧
 (0 : Nat) + k.toNat + (r.length - k.toNat) ≤ r.length ∧
 (0 : Nat) +
 (winL
 ((fun self => self.6)
 (mkT (1 : Nat) (8 : Nat) false (TK.int IntKind.i64)
 (Sh.int IntKind.i64) none))
 ((0 : Nat) + (0 : Nat)) (k.toNat - (0 : Nat)) r).length +
 (winL
 ((fun self => self.6)
 (mkT (1 : Nat) (8 : Nat) false (TK.int IntKind.i64)
 (Sh.int IntKind.i64) none))
 (0 : Nat) (1 : Nat)
 ((List.replicate (1 : Nat) (Sh.int IntKind.i64).dflt).set (0 : Nat)
 i)).length =
 (List.replicate (0 : Nat) (Sh.int IntKind.i64).dflt ++
 winL (Sh.int IntKind.i64) ((0 : Nat) + (0 : Nat)) (k.toNat - (0 : Nat))
 r ++
 winL (Sh.int IntKind.i64) (0 : Nat) (1 : Nat)
 ((List.replicate (1 : Nat) (Sh.int IntKind.i64).dflt).set (0 : Nat)
 i)).length ∧
 (0 : Nat) = (0 : Nat) ∧
 (0 : Nat) +
 (winL
 ((fun self => self.6)
 (mkT (1 : Nat) (8 : Nat) false (TK.int IntKind.i64)
 (Sh.int IntKind.i64) none))
 ((0 : Nat) + (0 : Nat)) (k.toNat - (0 : Nat)) r).length +
 (winL
 ((fun self => self.6)
 (mkT (1 : Nat) (8 : Nat) false (TK.int IntKind.i64)
 (Sh.int IntKind.i64) none))
 (0 : Nat) (1 : Nat)
 ((List.replicate (1 : Nat) (Sh.int IntKind.i64).dflt).set
 (0 : Nat) i)).length +
 (winL
 ((fun self => self.6)
 (mkT (1 : Nat) (8 : Nat) false (TK.int IntKind.i64)
 (Sh.int IntKind.i64) none))
 ((0 : Nat) + k.toNat) (r.length - k.toNat) r).length <
 (2 : Nat) ^ (30 : Nat) ∧
 (8 : Nat) ≤ (2 : Nat) ^ (10 : Nat) ∧
 R (hd Try.f12 (0 : Nat))
 {
 env :=
 [((0 : Nat), SV.sl (Sh.int IntKind.u8) b),
 ((3 : Nat),
 SV.win true (Sh.int IntKind.i64) (45 : Nat) (0 : Nat)
 ((0 : Nat) +
 (winL
 ((fun self => self.6)
 (mkT (1 : Nat) (8 : Nat) false
 (TK.int IntKind.i64) (Sh.int IntKind.i64) none))
 ((0 : Nat) + (0 : Nat)) (k.toNat - (0 : Nat))
 r).length +
 (winL
 ((fun self => self.6)
 (mkT (1 : Nat) (8 : Nat) false (TK.int IntKind.i64)
 (Sh.int IntKind.i64) none))
 (0 : Nat) (1 : Nat)
 ((List.replicate (1 : Nat)
 (Sh.int IntKind.i64).dflt).set
 (0 : Nat) i)).length +
 (winL
 ((fun self => self.6)
 (mkT (1 : Nat) (8 : Nat) false (TK.int IntKind.i64)
 (Sh.int IntKind.i64) none))
 ((0 : Nat) + k.toNat) (r.length - k.toNat) r).length)),
 ((4 : Nat),
 SV.int IntKind.i64 (IntKind.i64.wrap (i + (1 : Int)))),
 ((5 : Nat), SV.int IntKind.i64 k), ((6 : Nat), SV.dead),
 ((12 : Nat), SV.int IntKind.i64 i),
 ((13 : Nat),
 SV.int IntKind.i64 (IntKind.i64.wrap (i + (1 : Int)))),
 ((14 : Nat), SV.int IntKind.i64 k),
 ((15 : Nat),
 SV.win true (Sh.int IntKind.i64) (7 : Nat) (0 : Nat) r.length),
 ((16 : Nat), SV.int IntKind.i64 (↑r.length : Int)),
 ((17 : Nat), SV.bool (decide (k < (↑r.length : Int)))),
 ((18 : Nat), SV.bool false), ((29 : Nat), SV.bool false),
 ((33 : Nat),
 SV.win true (Sh.int IntKind.i64) (7 : Nat) (0 : Nat) r.length),
 ((34 : Nat), SV.int IntKind.i64 k),
 ((35 : Nat),
 SV.win false (Sh.int IntKind.i64) (7 : Nat) (0 : Nat)
 (k.toNat - (0 : Nat))),
 ((37 : Nat), SV.dead), ((38 : Nat), SV.int IntKind.i64 i),
 ((39 : Nat),
 SV.win true (Sh.int IntKind.i64) (39 : Nat) (0 : Nat)
 (1 : Nat)),
 ((41 : Nat), SV.dead),
 ((42 : Nat),
 SV.win true (Sh.int IntKind.i64) (7 : Nat) (0 : Nat) r.length),
 ((43 : Nat), SV.int IntKind.i64 k),
 ((44 : Nat),
 SV.win false (Sh.int IntKind.i64) (7 : Nat)
 ((0 : Nat) + k.toNat) (r.length - k.toNat)),
 ((45 : Nat),
 SV.win true (Sh.int IntKind.i64) (45 : Nat) (0 : Nat)
 ((0 : Nat) +
 (winL
 ((fun self => self.6)
 (mkT (1 : Nat) (8 : Nat) false
 (TK.int IntKind.i64) (Sh.int IntKind.i64) none))
 ((0 : Nat) + (0 : Nat)) (k.toNat - (0 : Nat))
 r).length +
 (winL
 ((fun self => self.6)
 (mkT (1 : Nat) (8 : Nat) false (TK.int IntKind.i64)
 (Sh.int IntKind.i64) none))
 (0 : Nat) (1 : Nat)
 ((List.replicate (1 : Nat)
 (Sh.int IntKind.i64).dflt).set
 (0 : Nat) i)).length +
 (winL
 ((fun self => self.6)
 (mkT (1 : Nat) (8 : Nat) false (TK.int IntKind.i64)
 (Sh.int IntKind.i64) none))
 ((0 : Nat) + k.toNat) (r.length - k.toNat) r).length))],
 blk :=
 [((7 : Nat), LB.row (3 : Nat) (Sh.int IntKind.i64) r),
 ((39 : Nat),
 LB.row (3 : Nat) (Sh.int IntKind.i64)
 ((List.replicate (1 : Nat) (Sh.int IntKind.i64).dflt).set
 (0 : Nat) i)),
 ((45 : Nat),
 LB.row (3 : Nat) (Sh.int IntKind.i64)
 (List.replicate (0 : Nat) (Sh.int IntKind.i64).dflt ++
 winL (Sh.int IntKind.i64) ((0 : Nat) + (0 : Nat))
 (k.toNat - (0 : Nat)) r ++
 winL (Sh.int IntKind.i64) (0 : Nat) (1 : Nat)
 ((List.replicate (1 : Nat)
 (Sh.int IntKind.i64).dflt).set
 (0 : Nat) i) ++
 winL (Sh.int IntKind.i64) ((0 : Nat) + k.toNat)
 (r.length - k.toNat) r))] })) := by kernel_rfl
theorem vc_least (l : List Int) (Q : List SV → List (Nat × LB) → Prop) (R : List Item → PS → Prop) : sy tt G0 [] Try.f33.ntmps Try.f33.results.toList Q R 1000 [.code (bodyOf Try.f33)] (entry [.sl (.int .i64)] (l, ())) =
    ((0 : Int) ≤ (0 : Int) ∧
 (0 : Int) < (↑l.length : Int) ∧
 R (hd Try.f33 (0 : Nat))
 {
 env :=
 [((0 : Nat), SV.sl (Sh.int IntKind.i64) l), ((2 : Nat), SV.int IntKind.i64 (0 : Int)),
 ((3 : Nat), SV.int IntKind.i64 (gt (Sh.int IntKind.i64) l (Int.toNat (0 : Int)))),
 ((6 : Nat), SV.sl (Sh.int IntKind.i64) l),
 ((7 : Nat), SV.elv (Sh.int IntKind.i64) (gt (Sh.int IntKind.i64) l (Int.toNat (0 : Int)))),
 ((8 : Nat), SV.int IntKind.i64 (gt (Sh.int IntKind.i64) l (Int.toNat (0 : Int)))),
 ((9 : Nat), SV.sl (Sh.int IntKind.i64) l), ((10 : Nat), SV.int IntKind.i64 (↑l.length : Int)),
 ((11 : Nat), SV.int IntKind.i64 (0 : Int))],
 blk := [] }) := by kernel_rfl
theorem vc_perm (l : List Int) (Q : List SV → List (Nat × LB) → Prop) (R : List Item → PS → Prop) : sy tt G0 [] Try.f19.ntmps Try.f19.results.toList Q R 1000 [.code (bodyOf Try.f19)] (entry [.sl (.int .i64)] (l, ())) =
    ((0 : Int) ≤ (↑l.length : Int) ∧
 (↑l.length : Int) ≤ (↑l.length : Int) ∧
 (↑l.length : Int) < (2 : Int) ^ (24 : Nat) ∧
 (↑(1 : Nat) : Int) * (↑l.length : Int) ≤ (2 : Int) ^ (48 : Nat) ∧
 R (hd Try.f19 (0 : Nat))
 {
 env :=
 [((0 : Nat), SV.sl (Sh.int IntKind.i64) l), ((2 : Nat), SV.bool false),
 ((3 : Nat), SV.win true Sh.bool (7 : Nat) (0 : Nat) (↑l.length : Int).toNat),
 ((4 : Nat), SV.int IntKind.i64 (0 : Int)), ((5 : Nat), SV.sl (Sh.int IntKind.i64) l),
 ((6 : Nat), SV.int IntKind.i64 (↑l.length : Int)),
 ((7 : Nat), SV.win true Sh.bool (7 : Nat) (0 : Nat) (↑l.length : Int).toNat)],
 blk := [((7 : Nat), LB.row (4 : Nat) Sh.bool (List.replicate (↑l.length : Int).toNat Sh.bool.dflt))] }) := by kernel_rfl
end Go.Proofs.Ytjcknfkddbiobaa
namespace Go.Proofs.Ytjcknfkddbiobaa
theorem lexLt_irrefl : ∀ a : List Int, lexLt a a = false
  | [] => rfl
  | a :: l => by simp [lexLt, lexLt_irrefl l]
theorem lexLt_trans : ∀ {a b c : List Int}, lexLt a b = true → lexLt b c = true → lexLt a c = true
  | _, [], _, h, _ => by simp [lexLt] at h
  | _, _ :: _, [], _, h => by simp [lexLt] at h
  | [], _ :: _, _ :: _, _, _ => rfl
  | a :: l, b :: m, c :: n, h, k => by
    simp only [lexLt] at h k ⊢
    split at h
    · rename_i e; subst e
      split at k
      · rename_i e; subst e
        rw [if_pos rfl]; exact lexLt_trans h k
      · rename_i e; rw [if_neg e]; exact k
    · rename_i e
      have h := of_decide_eq_true h
      split at k
      · rename_i e2; subst e2; rw [if_neg e]; exact decide_eq_true h
      · have k := of_decide_eq_true k
        rw [if_neg (by omega)]; exact decide_eq_true (by omega)
theorem lexLt_tri : ∀ a b : List Int, a = b ∨ lexLt a b = true ∨ lexLt b a = true
  | [], [] => .inl rfl
  | [], _ :: _ => .inr (.inl rfl)
  | _ :: _, [] => .inr (.inr rfl)
  | a :: l, b :: m => by
    by_cases h : a = b
    · subst h
      rcases lexLt_tri l m with e | e | e
      · exact .inl (by rw [e])
      · exact .inr (.inl (by simp [lexLt, e]))
      · exact .inr (.inr (by simp [lexLt, e]))
    · rcases Int.lt_or_gt_of_ne h with e | e
      · exact .inr (.inl (by simp [lexLt, h, e]))
      · exact .inr (.inr (by simp [lexLt, Ne.symm h, e]))
theorem lexLt_asymm {a b : List Int} (h : lexLt a b = true) : lexLt b a = false := by
  cases e : lexLt b a with
  | false => rfl
  | true => have := lexLt_trans h e; rw [lexLt_irrefl] at this; cases this
theorem lcp_comm : ∀ a b : List Int, lcp a b = lcp b a
  | [], [] => rfl
  | [], _ :: _ => rfl
  | _ :: _, [] => rfl
  | a :: l, b :: m => by
    simp only [lcp]
    by_cases h : a = b
    · subst h; simp [lcp_comm l m]
    · rw [if_neg h, if_neg (Ne.symm h)]
theorem lcp_self : ∀ a : List Int, lcp a a = a.length
  | [] => rfl
  | a :: l => by simp [lcp, lcp_self l]
theorem lcp_le : ∀ a b : List Int, lcp a b ≤ a.length
  | [], _ => Nat.zero_le _
  | _ :: _, [] => Nat.zero_le _
  | a :: l, b :: m => by
    simp only [lcp]
    split
    · have := lcp_le l m; simp; exact this
    · exact Nat.zero_le _
/-- Between two texts in order, what they have in common is the least of what neighbors have. -/
theorem lcp_min : ∀ {a b c : List Int}, lexLt a b = true → lexLt b c = true → lcp a c = min (lcp a b) (lcp b c)
  | _, [], _, h, _ => by simp [lexLt] at h
  | _, _ :: _, [], _, h => by simp [lexLt] at h
  | [], _ :: _, _ :: _, _, _ => by simp [lcp]
  | a :: l, b :: m, c :: n, h, k => by
    simp only [lexLt] at h k
    simp only [lcp]
    split at h
    · rename_i e; subst e
      split at k
      · rename_i e; subst e
        simp only [if_true]
        rw [lcp_min h k]; omega
      · rename_i e; simp [e]
    · rename_i e
      have h := of_decide_eq_true h
      split at k
      · rename_i e2; subst e2; simp [e]
      · rename_i e2
        have k := of_decide_eq_true k
        rw [if_neg (by omega), if_neg e, if_neg e2]; rfl
theorem drop_inj {b : List Int} {i j : Nat} (hi : i < b.length) (hj : j < b.length) (h : b.drop i = b.drop j) : i = j := by
  have := congrArg List.length h
  simp only [List.length_drop] at this
  omega
/-- Suffixes, by their places. -/
def sl (b : List Int) (i j : Nat) : Bool := lexLt (b.drop i) (b.drop j)
theorem sl_tri {b : List Int} {i j : Nat} (hi : i < b.length) (hj : j < b.length) : i = j ∨ sl b i j = true ∨ sl b j i = true := by
  rcases lexLt_tri (b.drop i) (b.drop j) with h | h | h
  · exact .inl (drop_inj hi hj h)
  · exact .inr (.inl h)
  · exact .inr (.inr h)
/-- An order of all suffixes. -/
structure OrdOK (b : List Int) (o : List Nat) : Prop where
  perm : o.Perm (List.range b.length)
  sorted : o.Pairwise fun i j => sl b i j = true
def insN (b : List Int) (l : List Nat) (i : Nat) : List Nat := l.takeWhile (fun k => sl b k i) ++ i :: l.dropWhile (fun k => sl b k i)
def ordN (b : List Int) (n : Nat) : List Nat := (List.range n).foldl (insN b) []
theorem ordN_succ (b : List Int) (n : Nat) : ordN b (n + 1) = insN b (ordN b n) n := by
  unfold ordN
  rw [List.range_succ, List.foldl_append]; rfl
theorem insN_perm (b : List Int) (l : List Nat) (i : Nat) : (insN b l i).Perm (i :: l) := by
  unfold insN
  refine List.perm_middle.trans ?_
  rw [List.takeWhile_append_dropWhile]
theorem ordN_perm (b : List Int) : ∀ n, (ordN b n).Perm (List.range n)
  | 0 => by simp [ordN]
  | n + 1 => by
    rw [ordN_succ, List.range_succ]
    refine (insN_perm b _ n).trans ?_
    refine ((ordN_perm b n).cons n).trans ?_
    exact (List.perm_append_singleton n (List.range n)).symm
theorem ins_sorted {b : List Int} : ∀ {l : List Nat} {i : Nat}, l.Pairwise (fun i j => sl b i j = true) → (∀ k ∈ l, k < b.length ∧ k ≠ i) → i < b.length → (insN b l i).Pairwise (fun i j => sl b i j = true)
  | [], i, _, _, _ => by simp [insN]
  | a :: l, i, hs, hk, hi => by
    rw [List.pairwise_cons] at hs
    have ha := hk a (by simp)
    cases h : sl b a i with
    | true =>
      have e : insN b (a :: l) i = a :: insN b l i := by simp [insN, List.takeWhile, List.dropWhile, h]
      rw [e, List.pairwise_cons]
      refine ⟨fun k hkm => ?_, ins_sorted hs.2 (fun k hkl => hk k (by simp [hkl])) hi⟩
      have := (insN_perm b l i).mem_iff.1 hkm
      rcases List.mem_cons.1 this with rfl | hkl
      · exact h
      · exact hs.1 k hkl
    | false =>
      have e : insN b (a :: l) i = i :: a :: l := by simp [insN, List.takeWhile, List.dropWhile, h]
      rw [e, List.pairwise_cons]
      have hia : sl b i a = true := by
        rcases sl_tri ha.1 hi with q | q | q
        · exact absurd q ha.2
        · rw [h] at q; cases q
        · exact q
      refine ⟨fun k hkm => ?_, List.pairwise_cons.2 hs⟩
      rcases List.mem_cons.1 hkm with rfl | hkl
      · exact hia
      · exact lexLt_trans hia (hs.1 k hkl)
theorem ordN_sorted (b : List Int) : ∀ n, n ≤ b.length → (ordN b n).Pairwise fun i j => sl b i j = true
  | 0, _ => by simp [ordN]
  | n + 1, h => by
    rw [ordN_succ]
    refine ins_sorted (ordN_sorted b n (by omega)) (fun k hk => ?_) (by omega)
    have := (ordN_perm b n).mem_iff.1 hk
    simp at this
    omega
theorem ordN_ok (b : List Int) : OrdOK b (ordN b b.length) := ⟨ordN_perm b _, ordN_sorted b _ (Nat.le_refl _)⟩
namespace OrdOK
variable {b : List Int} {o : List Nat}
theorem len (h : OrdOK b o) : o.length = b.length := by simpa using h.perm.length_eq
theorem lt (h : OrdOK b o) {k : Nat} (hk : k ∈ o) : k < b.length := by simpa using h.perm.mem_iff.1 hk
theorem mem (h : OrdOK b o) {k : Nat} (hk : k < b.length) : k ∈ o := h.perm.mem_iff.2 (by simpa using hk)
theorem nodup (h : OrdOK b o) : o.Nodup := h.perm.nodup_iff.2 List.nodup_range
theorem at_lt (h : OrdOK b o) {i j : Nat} (hij : i < j) (hj : j < o.length) : sl b (o[i]'(by omega)) o[j] = true := List.pairwise_iff_getElem.1 h.sorted i j (by omega) hj hij
/-- There is one order only. -/
theorem unique {p : List Nat} (h : OrdOK b o) (k : OrdOK b p) : o = p :=
  List.Perm.eq_of_pairwise (fun _ _ _ _ h1 h2 => by have := lexLt_asymm h1; unfold sl at h2; rw [this] at h2; cases h2) h.sorted k.sorted (h.perm.trans k.perm.symm)
end OrdOK
end Go.Proofs.Ytjcknfkddbiobaa
namespace Go.Proofs.Ytjcknfkddbiobaa
/-- What the suffix at an index of the order has in common with the one before. -/
def adjN (b : List Int) (o : List Nat) (k : Nat) : Nat := if k = 0 then 0 else lcp (b.drop (o.getD k 0)) (b.drop (o.getD (k - 1) 0))
theorem getD_at {o : List Nat} {k : Nat} (h : k < o.length) : o.getD k 0 = o[k] := by simp [h]
theorem adjN_le (b : List Int) (o : List Nat) (k : Nat) : adjN b o k ≤ b.length := by
  unfold adjN
  split
  · exact Nat.zero_le _
  · refine Nat.le_trans (lcp_le _ _) ?_
    rw [List.length_drop]; omega
section
variable {b : List Int} {o : List Nat}
theorem rank_lt (h : OrdOK b o) {i : Nat} (hi : i < b.length) : o.idxOf i < o.length := List.idxOf_lt_length_of_mem (h.mem hi)
theorem rank_at (_h : OrdOK b o) {i : Nat} (hi : o.idxOf i < o.length) : o[o.idxOf i] = i := List.getElem_idxOf hi
theorem kasai (h : OrdOK b o) {i : Nat} (hi : i + 1 < b.length) : adjN b o (o.idxOf i) - 1 ≤ adjN b o (o.idxOf (i + 1)) := by
  have r0 := rank_lt h (i := i) (by omega)
  have r1 := rank_lt h hi
  have e0 := rank_at h r0
  have e1 := rank_at h r1
  by_cases hh : adjN b o (o.idxOf i) ≤ 1
  · omega
  have hk : o.idxOf i ≠ 0 := by
    intro e
    rw [e] at hh
    simp [adjN] at hh
  have hkl : o.idxOf i - 1 < o.length := by omega
  have hj : o[o.idxOf i - 1] < b.length := h.lt (List.getElem_mem hkl)
  have hs : sl b o[o.idxOf i - 1] i = true := by
    have := h.at_lt (i := o.idxOf i - 1) (j := o.idxOf i) (by omega) r0
    rw [e0] at this; exact this
  have ha : adjN b o (o.idxOf i) = lcp (b.drop i) (b.drop o[o.idxOf i - 1]) := by
    unfold adjN
    rw [if_neg hk, getD_at r0, getD_at hkl, e0]
  generalize o[o.idxOf i - 1] = j at hj hs ha
  rw [ha] at hh ⊢
  have di : b.drop i = b[i] :: b.drop (i + 1) := List.drop_eq_getElem_cons (by omega)
  have dj : b.drop j = b[j] :: b.drop (j + 1) := List.drop_eq_getElem_cons hj
  unfold sl at hs
  rw [di, dj] at hh ⊢
  rw [di, dj] at hs
  simp only [lcp] at hh ⊢
  simp only [lexLt] at hs
  split at hh
  · rename_i e
    rw [if_pos e.symm] at hs
    rw [if_pos e, Nat.add_sub_cancel]
    have hj1 : j + 1 < b.length := by
      apply Classical.byContradiction
      intro hn
      rw [List.drop_eq_nil_of_le (show b.length ≤ j + 1 by omega), lcp_nil] at hh
      omega
    have r2 := rank_lt h hj1
    have e2 := rank_at h r2
    have hlt : o.idxOf (j + 1) < o.idxOf (i + 1) := by
      rcases Nat.lt_trichotomy (o.idxOf (j + 1)) (o.idxOf (i + 1)) with q | q | q
      · exact q
      · exfalso
        have : j + 1 = i + 1 := by rw [← e1, ← e2]; simp only [q]
        rw [this, lexLt_irrefl] at hs; cases hs
      · exfalso
        have := h.at_lt q r2
        rw [e1, e2] at this
        have := lexLt_asymm this
        rw [hs] at this; cases this
    have hpl : o.idxOf (i + 1) - 1 < o.length := by omega
    have hb : adjN b o (o.idxOf (i + 1)) = lcp (b.drop (i + 1)) (b.drop o[o.idxOf (i + 1) - 1]) := by
      unfold adjN
      rw [if_neg (by omega), getD_at r1, getD_at hpl, e1]
    rw [hb]
    by_cases hq : o.idxOf (j + 1) = o.idxOf (i + 1) - 1
    · have : o[o.idxOf (i + 1) - 1] = j + 1 := by rw [← e2]; simp only [hq]
      rw [this]; exact Nat.le_refl _
    · have g1 := h.at_lt (i := o.idxOf (j + 1)) (j := o.idxOf (i + 1) - 1) (by omega) hpl
      have g2 := h.at_lt (i := o.idxOf (i + 1) - 1) (j := o.idxOf (i + 1)) (by omega) r1
      rw [e2] at g1
      rw [e1] at g2
      have := lcp_min g1 g2
      rw [lcp_comm (b.drop (i + 1)) (b.drop (j + 1)), this, lcp_comm (b.drop (i + 1))]
      exact Nat.min_le_right _ _
  · omega
/-- The least of the neighbors' numbers, from behind an index on. -/
def minN (b : List Int) (o : List Nat) (i : Nat) : Nat → Nat
  | 0 => b.length
  | m + 1 => min (minN b o i m) (adjN b o (i + m + 1))
theorem minN_eq (h : OrdOK b o) {i : Nat} : ∀ (m : Nat) (hm : i + m + 1 < o.length), lcp (b.drop o[i]) (b.drop o[i + m + 1]) = minN b o i (m + 1)
  | 0, hm => by
    simp only [minN]
    have := adjN_le b o (i + 0 + 1)
    rw [Nat.min_eq_right this]
    unfold adjN
    rw [if_neg (by omega), getD_at hm, getD_at (by omega), lcp_comm]
    rfl
  | m + 1, hm => by
    have ih := minN_eq h (i := i) m (by omega)
    rw [minN, ← ih]
    have g1 := h.at_lt (i := i) (j := i + m + 1) (by omega) (by omega)
    have g2 := h.at_lt (i := i + m + 1) (j := i + (m + 1) + 1) (by omega) hm
    rw [lcp_min g1 g2]
    congr 1
    unfold adjN
    rw [if_neg (by omega), getD_at hm, getD_at (by omega), lcp_comm]
    rfl
end
end Go.Proofs.Ytjcknfkddbiobaa
namespace Go.Proofs.Ytjcknfkddbiobaa
open Go.Px Go.Ax
def mapI (l : List Nat) : List Int := l.map fun (k : Nat) => (k : Int)
def natsOf (l : List Int) : List Nat := l.map Int.toNat
theorem nats_map (l : List Nat) : natsOf (mapI l) = l := by
  unfold natsOf mapI
  rw [List.map_map]
  exact (List.map_congr_left fun x _ => by simp).trans (List.map_id _)
theorem mapI_len (l : List Nat) : (mapI l).length = l.length := by simp [mapI]
theorem gt_mapI {l : List Nat} {i : Nat} (h : i < l.length) : gt (Sh.int .i64) (mapI l) i = ((l[i] : Nat) : Int) := by
  have : i < (mapI l).length := by rw [mapI_len]; exact h
  rw [gt_eq this]; simp [mapI]
/-- A row by a function of the place. -/
def rowF (n : Nat) (f : Nat → Int) : List Int := (List.range n).map f
theorem rowF_len (n : Nat) (f : Nat → Int) : (rowF n f).length = n := by simp [rowF]
theorem rowF_set {n : Nat} {f g : Nat → Int} {i : Nat} {v : Int} (hi : g i = v) (h : ∀ j, j < n → j ≠ i → f j = g j) : (rowF n f).set i v = rowF n g := by
  apply List.ext_getElem?
  intro j
  rw [List.getElem?_set]
  by_cases hj : j < n
  · by_cases e : i = j
    · subst e
      rw [if_pos rfl, if_pos (by rw [rowF_len]; exact hj)]
      simp [rowF, hj, hi]
    · rw [if_neg e]
      simp [rowF, hj, h j hj (Ne.symm e)]
  · rw [List.getElem?_eq_none (l := rowF n g) (by rw [rowF_len]; omega)]
    by_cases e : i = j
    · subst e; rw [if_pos rfl, if_neg (by rw [rowF_len]; exact hj)]
    · rw [if_neg e, List.getElem?_eq_none (by rw [rowF_len]; omega)]
theorem rowF_congr {n : Nat} {f g : Nat → Int} (h : ∀ j, j < n → f j = g j) : rowF n f = rowF n g := by
  unfold rowF
  exact List.map_congr_left fun j hj => h j (by simpa using hj)
theorem gt_rowF {n : Nat} {f : Nat → Int} {i : Nat} (h : i < n) : gt (Sh.int .i64) (rowF n f) i = f i := by
  have : i < (rowF n f).length := by rw [rowF_len]; exact h
  rw [gt_eq this]; simp [rowF]
abbrev slI : Sh := .sl (.int .i64)
/-- The given order of a text. -/
def preOrd (b : List Int) (o : List Int) : Prop := b.length < 1048576 ∧ ∃ p, OrdOK b p ∧ o = mapI p
theorem QC.row {ct : Ctr} {x : DL ct.args} {rs : List SV} {blk : List (Nat × LB)} {e : Sh} {et : TypeId} {a k : Nat} {xs : List e.D} (h : ct.out x = [.win true e 0 0 xs.length]) (hr : ct.rows x = [.row et e xs]) (hs : rs = [.win true e a 0 k]) (hk : k = xs.length) (hb : lk blk a = some (.row et e xs)) : QC ct x rs blk := by
  subst hs; subst hk
  refine ⟨fun i => if i = 0 then some a else none, ?_, ?_, fun i j b h1 h2 => ?_, by rw [hr]; rfl⟩
  · rw [h]
    exact ⟨_, _, rfl, .inl ⟨true, a, rfl, rfl, fun h => h⟩, rfl⟩
  · rw [hr]
    exact ⟨.inl ⟨a, rfl, hb⟩, trivial⟩
  · simp only at h1 h2
    split at h1
    · split at h2
      · omega
      · cases h2
    · cases h1
/-- The indices of places. -/
def idxV (o : List Nat) : List Int := rowF o.length fun i => ((o.idxOf i : Nat) : Int)
def preIdx (o : List Int) (n : Int) : Prop := (∃ b, preOrd b o) ∧ n = o.length
def ctIdx : Ctr := ⟨[slI, .int .i64], fun x => preIdx x.1 x.2.1, fun x => [.win true (.int .i64) 0 0 (List.length (idxV (natsOf x.1)))], fun x => [.row 3 (.int .i64) (idxV (natsOf x.1))]⟩
theorem nodup_at {o : List Nat} (h : o.Nodup) {i j : Nat} (hi : i < o.length) (hj : j < o.length) (e : o[i] = o[j]) : i = j := by
  have hp := List.pairwise_iff_getElem.1 h
  rcases Nat.lt_trichotomy i j with q | q | q
  · exact absurd e (hp i j hi hj q)
  · exact q
  · exact absurd e.symm (hp j i hj hi q)
theorem idx_loop {b : List Int} {o : List Nat} (ho : OrdOK b o) (hb : b.length < 1048576) : ∀ (m i : Nat), o.length - i ≤ m → i ≤ o.length →
    GD 34 Try.f34 (fun rs blk => rs = [.win true (.int .i64) 9 0 o.length] ∧ lk blk 9 = some (.row 3 (.int .i64) (idxV o))) (hd Try.f34 0)
      ⟨[(0, .sl (.int .i64) (mapI o)), (1, .int .i64 o.length), (5, .win true (.int .i64) 9 0 (rowF o.length fun j => if o.idxOf j < i then ((o.idxOf j : Nat) : Int) else 0).length), (10, .sl (.int .i64) (mapI o)), (11, .int .i64 (mapI o).length), (12, .int .i64 (i : Int))], [(9, .row 3 (.int .i64) (rowF o.length fun j => if o.idxOf j < i then ((o.idxOf j : Nat) : Int) else 0))]⟩ := by
  have hlen := ho.len
  intro m
  induction m with
  | zero =>
    intro i hm h1
    refine sy_go cx0 (vc_indicesL _ _ _ _ _ _) (bc_of (fun h => ?_) (fun h => ?_))
    · have h := of_decide_eq_true h; rw [mapI_len] at h; omega
    · have e : (rowF o.length fun j => if o.idxOf j < i then ((o.idxOf j : Nat) : Int) else 0) = idxV o := rowF_congr fun j hj => by
        rw [if_pos (by have := rank_lt ho (i := j) (by omega); omega)]
      rw [e]
      exact ⟨by rw [idxV, rowF_len], rfl⟩
  | succ m ih =>
    intro i hm h1
    by_cases hi : i < o.length
    · refine sy_go cx0 (vc_indicesL _ _ _ _ _ _) ?_
      have hx : o[i] < o.length := by rw [hlen]; exact ho.lt (List.getElem_mem hi)
      have g : gt (Sh.int .i64) (mapI o) (i : Int).toNat = ((o[i] : Nat) : Int) := gt_mapI hi
      rw [g, mapI_len, decide_eq_true (show (i : Int) < (o.length : Int) by omega), bc_t, decide_eq_true (show (0 : Int) ≤ (o[i] : Nat) by omega), bc_t, decide_eq_true (show ((o[i] : Nat) : Int) < (o.length : Int) by omega), rowF_len]
      refine ⟨by omega, by omega, ?_⟩
      refine ⟨by omega, Int.ofNat_lt.2 hx, by rw [Int.toNat_natCast, Nat.zero_add]; exact hx, ?_⟩
      rw [IntWalk.i64_in ((i : Int) + 1) (by omega)]
      have hidx : o.idxOf o[i] = i := by
        have r := rank_lt ho (i := o[i]) (by omega)
        exact nodup_at ho.nodup r hi (rank_at ho r)
      have e : (rowF o.length fun j => if o.idxOf j < i then ((o.idxOf j : Nat) : Int) else 0).set (0 + ((o[i] : Nat) : Int).toNat) (i : Int) = rowF o.length fun j => if o.idxOf j < i + 1 then ((o.idxOf j : Nat) : Int) else 0 := by
        refine rowF_set ?_ fun j hj hne => ?_
        · rw [Nat.zero_add, Int.toNat_natCast, hidx, if_pos (by omega)]
        · have r := rank_lt ho (i := j) (by omega)
          have : o.idxOf j ≠ i := by
            intro q
            have := rank_at ho r
            simp only [q] at this
            rw [Nat.zero_add, Int.toNat_natCast] at hne
            exact hne this.symm
          by_cases q : o.idxOf j < i
          · rw [if_pos q, if_pos (by omega)]
          · rw [if_neg q, if_neg (by omega)]
      rw [e]
      refine (ih (i + 1) (by omega) (by omega)).only ⟨rfl, rfl, ?_, rfl, ?_, rfl, trivial⟩ ⟨rfl, trivial⟩
      · rw [rowF_len]; rfl
      · rw [mapI_len]; rfl
    · exact ih i (by omega) h1
theorem idx_run (o : List Int) (n : Int) (hp : preIdx o n) : sy tt G0 [] Try.f34.ntmps Try.f34.results.toList (QC ctIdx (o, n, ())) (Px.Good Try.prog tt G0 34 Try.f34.ntmps Try.f34.results.toList (QC ctIdx (o, n, ()))) 1000 [.code (bodyOf Try.f34)] (entry [slI, .int .i64] (o, n, ())) := by
  obtain ⟨⟨b, hb, p, ho, rfl⟩, rfl⟩ := hp
  have hlen := ho.len
  refine (vc_indices _ _ _ _).mpr ?_
  rw [mapI_len]
  refine ⟨by omega, Int.le_refl _, by omega, by omega, ?_⟩
  have e0 : List.replicate ((p.length : Nat) : Int).toNat (Sh.int .i64).dflt = rowF p.length fun j => if p.idxOf j < 0 then ((p.idxOf j : Nat) : Int) else 0 := by
    rw [Int.toNat_natCast]
    apply List.ext_getElem
    · simp [rowF]
    · intro j h1 h2
      simp [rowF]; rfl
  rw [e0]
  refine ((idx_loop ho hb _ 0 (Nat.le_refl _) (by omega)).post fun rs blk hq => ?_).only ⟨rfl, rfl, ?_, rfl, ?_, rfl, trivial⟩ ⟨rfl, trivial⟩
  · refine QC.row (e := .int .i64) (et := 3) (a := 9) (k := p.length) (xs := idxV p) ?_ ?_ hq.1 (by rw [idxV, rowF_len]) hq.2
    · simp only [ctIdx, nats_map]
    · simp only [ctIdx, nats_map]
  · rw [rowF_len, Int.toNat_natCast]; rfl
  · rw [mapI_len]; rfl
theorem idx_held : Held Try.prog G0 34 ctIdx := Held.run cx0 (fn := Try.f34) rfl rfl ⟨by decide, by decide⟩ fun x hp => idx_run x.1 x.2.1 hp
def C2 : CV := (34, .inl ctIdx) :: C1
theorem cx2 : CxOK Try.prog tt G0 C2 := cx1.cons idx_held (fn := Try.f34) rfl rfl rfl
end Go.Proofs.Ytjcknfkddbiobaa
namespace Go.Proofs.Ytjcknfkddbiobaa
open Go.Px Go.Ax
set_option maxRecDepth 100000
theorem vc_com (b o : List Int) (Q : List SV → List (Nat × LB) → Prop) (R : List Item → PS → Prop) : sy tt G0 C2 Try.f17.ntmps Try.f17.results.toList Q R 1000 [.code (bodyOf Try.f17)] (entry [.sl (.int .u8), .sl (.int .i64)] (b, o, ())) =
    ((0 : Int) ≤ (↑o.length : Int) ∧
 (↑o.length : Int) ≤ (↑o.length : Int) ∧
 (↑o.length : Int) < (2 : Int) ^ (24 : Nat) ∧
 (↑(8 : Nat) : Int) * (↑o.length : Int) ≤ (2 : Int) ^ (48 : Nat) ∧
 ctIdx.pre (o, (↑b.length : Int), ()) ∧
 R (hd Try.f17 (0 : Nat))
 {
 env :=
 [((0 : Nat), SV.sl (Sh.int IntKind.u8) b), ((1 : Nat), SV.sl (Sh.int IntKind.i64) o),
 ((4 : Nat), SV.nils),
 ((5 : Nat), SV.win true (Sh.int IntKind.i64) (11 : Nat) (0 : Nat) (↑o.length : Int).toNat),
 ((6 : Nat), SV.int IntKind.i64 (0 : Int)), ((9 : Nat), SV.sl (Sh.int IntKind.i64) o),
 ((10 : Nat), SV.int IntKind.i64 (↑o.length : Int)),
 ((11 : Nat), SV.win true (Sh.int IntKind.i64) (11 : Nat) (0 : Nat) (↑o.length : Int).toNat),
 ((12 : Nat), SV.sl (Sh.int IntKind.i64) o), ((13 : Nat), SV.sl (Sh.int IntKind.u8) b),
 ((14 : Nat), SV.int IntKind.i64 (↑b.length : Int)),
 ((15 : Nat), SV.win true (Sh.int IntKind.i64) (1061440 : Nat) (0 : Nat) (idxV (natsOf o)).length),
 ((16 : Nat), SV.int IntKind.i64 (↑(idxV (natsOf o)).length : Int)),
 ((17 : Nat), SV.int IntKind.i64 (0 : Int))],
 blk :=
 [((11 : Nat),
 LB.row (3 : Nat) (Sh.int IntKind.i64)
 (List.replicate (↑o.length : Int).toNat (Sh.int IntKind.i64).dflt)),
 ((1061440 : Nat), LB.row (3 : Nat) (Sh.int IntKind.i64) (idxV (natsOf o)))] }) := by kernel_rfl
theorem vc_comL (b o r q : List Int) (n i : Int) (Q : List SV → List (Nat × LB) → Prop) (R : List Item → PS → Prop) : sy tt G0 C2 Try.f17.ntmps Try.f17.results.toList Q R 1000 (hd Try.f17 0) ⟨[(0, .sl (.int .u8) b), (1, .sl (.int .i64) o), (5, .win true (.int .i64) 11 0 r.length), (6, .int .i64 n), (15, .win true (.int .i64) 1061440 0 q.length), (16, .int .i64 q.length), (17, .int .i64 i)], [(11, .row 3 (.int .i64) r), (1061440, .row 3 (.int .i64) q)]⟩ =
    (bc (decide (i < (↑q.length : Int)))
 ((0 : Int) ≤ i ∧
 i < (↑q.length : Int) ∧
 (0 : Nat) + i.toNat < q.length ∧
 bc (decide ((0 : Int) < gt (Sh.int IntKind.i64) q ((0 : Nat) + i.toNat)))
 (ctAt.pre (b, IntKind.i64.wrap (i + n), ()) ∧
 (0 : Int) ≤ IntKind.i64.wrap (gt (Sh.int IntKind.i64) q ((0 : Nat) + i.toNat) - (1 : Int)) ∧
 IntKind.i64.wrap (gt (Sh.int IntKind.i64) q ((0 : Nat) + i.toNat) - (1 : Int)) < (↑o.length : Int) ∧
 ctAt.pre
 (b,
 IntKind.i64.wrap
 (gt (Sh.int IntKind.i64) o
 (IntKind.i64.wrap (gt (Sh.int IntKind.i64) q ((0 : Nat) + i.toNat) - (1 : Int))).toNat +
 n),
 ()) ∧
 ctLcp.pre
 (sfx b (IntKind.i64.wrap (i + n)),
 sfx b
 (IntKind.i64.wrap
 (gt (Sh.int IntKind.i64) o
 (IntKind.i64.wrap (gt (Sh.int IntKind.i64) q ((0 : Nat) + i.toNat) - (1 : Int))).toNat +
 n)),
 ()) ∧
 (0 : Int) ≤ gt (Sh.int IntKind.i64) q ((0 : Nat) + i.toNat) ∧
 gt (Sh.int IntKind.i64) q ((0 : Nat) + i.toNat) < (↑r.length : Int) ∧
 (0 : Nat) + Int.toNat (gt (Sh.int IntKind.i64) q ((0 : Nat) + i.toNat)) < r.length ∧
 R (hd Try.f17 (0 : Nat))
 {
 env :=
 [((0 : Nat), SV.sl (Sh.int IntKind.u8) b), ((1 : Nat), SV.sl (Sh.int IntKind.i64) o),
 ((5 : Nat), SV.win true (Sh.int IntKind.i64) (11 : Nat) (0 : Nat) r.length),
 ((6 : Nat),
 SV.int IntKind.i64
 (max
 (IntKind.i64.wrap
 (IntKind.i64.wrap
 (n +
 (↑(lcp (sfx b (IntKind.i64.wrap (i + n)))
 (sfx b
 (IntKind.i64.wrap
 (gt (Sh.int IntKind.i64) o
 (IntKind.i64.wrap
 (gt (Sh.int IntKind.i64) q ((0 : Nat) + i.toNat) -
 (1 : Int))).toNat +
 n)))) :
 Int)) -
 (1 : Int)))
 (0 : Int))),
 ((7 : Nat), SV.int IntKind.i64 i),
 ((8 : Nat), SV.int IntKind.i64 (gt (Sh.int IntKind.i64) q ((0 : Nat) + i.toNat))),
 ((15 : Nat), SV.win true (Sh.int IntKind.i64) (1061440 : Nat) (0 : Nat) q.length),
 ((16 : Nat), SV.int IntKind.i64 (↑q.length : Int)),
 ((17 : Nat), SV.int IntKind.i64 (IntKind.i64.wrap (i + (1 : Int)))),
 ((18 : Nat), SV.bool (decide (i < (↑q.length : Int)))),
 ((19 : Nat), SV.int IntKind.i64 i),
 ((20 : Nat),
 SV.elp (Sh.int IntKind.i64) (1061440 : Nat) ((0 : Nat) + i.toNat) (0 : Nat)),
 ((21 : Nat), SV.int IntKind.i64 (gt (Sh.int IntKind.i64) q ((0 : Nat) + i.toNat))),
 ((22 : Nat), SV.int IntKind.i64 (gt (Sh.int IntKind.i64) q ((0 : Nat) + i.toNat))),
 ((23 : Nat),
 SV.bool (decide ((0 : Int) < gt (Sh.int IntKind.i64) q ((0 : Nat) + i.toNat)))),
 ((24 : Nat), SV.int IntKind.i64 n), ((25 : Nat), SV.sl (Sh.int IntKind.u8) b),
 ((26 : Nat), SV.int IntKind.i64 i), ((27 : Nat), SV.int IntKind.i64 n),
 ((28 : Nat), SV.int IntKind.i64 (IntKind.i64.wrap (i + n))),
 ((29 : Nat), SV.sl (Sh.int IntKind.u8) (sfx b (IntKind.i64.wrap (i + n)))),
 ((30 : Nat), SV.sl (Sh.int IntKind.u8) b), ((31 : Nat), SV.sl (Sh.int IntKind.i64) o),
 ((32 : Nat), SV.int IntKind.i64 (gt (Sh.int IntKind.i64) q ((0 : Nat) + i.toNat))),
 ((33 : Nat),
 SV.int IntKind.i64
 (IntKind.i64.wrap (gt (Sh.int IntKind.i64) q ((0 : Nat) + i.toNat) - (1 : Int)))),
 ((34 : Nat),
 SV.elv (Sh.int IntKind.i64)
 (gt (Sh.int IntKind.i64) o
 (IntKind.i64.wrap
 (gt (Sh.int IntKind.i64) q ((0 : Nat) + i.toNat) - (1 : Int))).toNat)),
 ((35 : Nat),
 SV.int IntKind.i64
 (gt (Sh.int IntKind.i64) o
 (IntKind.i64.wrap
 (gt (Sh.int IntKind.i64) q ((0 : Nat) + i.toNat) - (1 : Int))).toNat)),
 ((36 : Nat), SV.int IntKind.i64 n),
 ((37 : Nat),
 SV.int IntKind.i64
 (IntKind.i64.wrap
 (gt (Sh.int IntKind.i64) o
 (IntKind.i64.wrap
 (gt (Sh.int IntKind.i64) q ((0 : Nat) + i.toNat) - (1 : Int))).toNat +
 n))),
 ((38 : Nat),
 SV.sl (Sh.int IntKind.u8)
 (sfx b
 (IntKind.i64.wrap
 (gt (Sh.int IntKind.i64) o
 (IntKind.i64.wrap
 (gt (Sh.int IntKind.i64) q ((0 : Nat) + i.toNat) - (1 : Int))).toNat +
 n)))),
 ((39 : Nat),
 SV.int IntKind.i64
 (↑(lcp (sfx b (IntKind.i64.wrap (i + n)))
 (sfx b
 (IntKind.i64.wrap
 (gt (Sh.int IntKind.i64) o
 (IntKind.i64.wrap
 (gt (Sh.int IntKind.i64) q ((0 : Nat) + i.toNat) -
 (1 : Int))).toNat +
 n)))) :
 Int)),
 ((40 : Nat),
 SV.int IntKind.i64
 (IntKind.i64.wrap
 (n +
 (↑(lcp (sfx b (IntKind.i64.wrap (i + n)))
 (sfx b
 (IntKind.i64.wrap
 (gt (Sh.int IntKind.i64) o
 (IntKind.i64.wrap
 (gt (Sh.int IntKind.i64) q ((0 : Nat) + i.toNat) -
 (1 : Int))).toNat +
 n)))) :
 Int)))),
 ((41 : Nat), SV.win true (Sh.int IntKind.i64) (11 : Nat) (0 : Nat) r.length),
 ((42 : Nat), SV.int IntKind.i64 (gt (Sh.int IntKind.i64) q ((0 : Nat) + i.toNat))),
 ((43 : Nat),
 SV.int IntKind.i64
 (IntKind.i64.wrap
 (n +
 (↑(lcp (sfx b (IntKind.i64.wrap (i + n)))
 (sfx b
 (IntKind.i64.wrap
 (gt (Sh.int IntKind.i64) o
 (IntKind.i64.wrap
 (gt (Sh.int IntKind.i64) q ((0 : Nat) + i.toNat) -
 (1 : Int))).toNat +
 n)))) :
 Int)))),
 ((44 : Nat),
 SV.elp (Sh.int IntKind.i64) (11 : Nat)
 ((0 : Nat) + Int.toNat (gt (Sh.int IntKind.i64) q ((0 : Nat) + i.toNat)))
 (0 : Nat)),
 ((45 : Nat),
 SV.int IntKind.i64
 (IntKind.i64.wrap
 (n +
 (↑(lcp (sfx b (IntKind.i64.wrap (i + n)))
 (sfx b
 (IntKind.i64.wrap
 (gt (Sh.int IntKind.i64) o
 (IntKind.i64.wrap
 (gt (Sh.int IntKind.i64) q ((0 : Nat) + i.toNat) -
 (1 : Int))).toNat +
 n)))) :
 Int)))),
 ((46 : Nat),
 SV.int IntKind.i64
 (IntKind.i64.wrap
 (IntKind.i64.wrap
 (n +
 (↑(lcp (sfx b (IntKind.i64.wrap (i + n)))
 (sfx b
 (IntKind.i64.wrap
 (gt (Sh.int IntKind.i64) o
 (IntKind.i64.wrap
 (gt (Sh.int IntKind.i64) q ((0 : Nat) + i.toNat) -
 (1 : Int))).toNat +
 n)))) :
 Int)) -
 (1 : Int)))),
 ((47 : Nat),
 SV.int IntKind.i64
 (max
 (IntKind.i64.wrap
 (IntKind.i64.wrap
 (n +
 (↑(lcp (sfx b (IntKind.i64.wrap (i + n)))
 (sfx b
 (IntKind.i64.wrap
 (gt (Sh.int IntKind.i64) o
 (IntKind.i64.wrap
 (gt (Sh.int IntKind.i64) q ((0 : Nat) + i.toNat) -
 (1 : Int))).toNat +
 n)))) :
 Int)) -
 (1 : Int)))
 (0 : Int))),
 ((48 : Nat), SV.int IntKind.i64 (IntKind.i64.wrap (i + (1 : Int))))],
 blk :=
 [((11 : Nat),
 LB.row (3 : Nat) (Sh.int IntKind.i64)
 (r.set ((0 : Nat) + Int.toNat (gt (Sh.int IntKind.i64) q ((0 : Nat) + i.toNat)))
 (IntKind.i64.wrap
 (n +
 (↑(lcp (sfx b (IntKind.i64.wrap (i + n)))
 (sfx b
 (IntKind.i64.wrap
 (gt (Sh.int IntKind.i64) o
 (IntKind.i64.wrap
 (gt (Sh.int IntKind.i64) q ((0 : Nat) + i.toNat) -
 (1 : Int))).toNat +
 n)))) :
 Int))))),
 ((1061440 : Nat), LB.row (3 : Nat) (Sh.int IntKind.i64) q)] })
 (R (hd Try.f17 (0 : Nat))
 {
 env :=
 [((0 : Nat), SV.sl (Sh.int IntKind.u8) b), ((1 : Nat), SV.sl (Sh.int IntKind.i64) o),
 ((5 : Nat), SV.win true (Sh.int IntKind.i64) (11 : Nat) (0 : Nat) r.length),
 ((6 : Nat), SV.int IntKind.i64 (max (IntKind.i64.wrap (n - (1 : Int))) (0 : Int))),
 ((7 : Nat), SV.int IntKind.i64 i),
 ((8 : Nat), SV.int IntKind.i64 (gt (Sh.int IntKind.i64) q ((0 : Nat) + i.toNat))),
 ((15 : Nat), SV.win true (Sh.int IntKind.i64) (1061440 : Nat) (0 : Nat) q.length),
 ((16 : Nat), SV.int IntKind.i64 (↑q.length : Int)),
 ((17 : Nat), SV.int IntKind.i64 (IntKind.i64.wrap (i + (1 : Int)))),
 ((18 : Nat), SV.bool (decide (i < (↑q.length : Int)))), ((19 : Nat), SV.int IntKind.i64 i),
 ((20 : Nat), SV.elp (Sh.int IntKind.i64) (1061440 : Nat) ((0 : Nat) + i.toNat) (0 : Nat)),
 ((21 : Nat), SV.int IntKind.i64 (gt (Sh.int IntKind.i64) q ((0 : Nat) + i.toNat))),
 ((22 : Nat), SV.int IntKind.i64 (gt (Sh.int IntKind.i64) q ((0 : Nat) + i.toNat))),
 ((23 : Nat), SV.bool (decide ((0 : Int) < gt (Sh.int IntKind.i64) q ((0 : Nat) + i.toNat)))),
 ((45 : Nat), SV.int IntKind.i64 n),
 ((46 : Nat), SV.int IntKind.i64 (IntKind.i64.wrap (n - (1 : Int)))),
 ((47 : Nat), SV.int IntKind.i64 (max (IntKind.i64.wrap (n - (1 : Int))) (0 : Int))),
 ((48 : Nat), SV.int IntKind.i64 (IntKind.i64.wrap (i + (1 : Int))))],
 blk :=
 [((11 : Nat), LB.row (3 : Nat) (Sh.int IntKind.i64) r),
 ((1061440 : Nat), LB.row (3 : Nat) (Sh.int IntKind.i64) q)] }))
 (Q [SV.win true (Sh.int IntKind.i64) (11 : Nat) (0 : Nat) r.length]
 [((11 : Nat), LB.row (3 : Nat) (Sh.int IntKind.i64) r), ((1061440 : Nat), LB.row (3 : Nat) (Sh.int IntKind.i64) q)])) := by kernel_rfl
end Go.Proofs.Ytjcknfkddbiobaa
namespace Go.Proofs.Ytjcknfkddbiobaa
open Go.Px Go.Ax
theorem lcp_add : ∀ (n : Nat) (a c : List Int), n ≤ lcp a c → n + lcp (a.drop n) (c.drop n) = lcp a c
  | 0, a, c, _ => by simp
  | n + 1, [], c, h => by simp [lcp] at h
  | n + 1, _ :: _, [], h => by simp [lcp] at h
  | n + 1, x :: a, y :: c, h => by
    simp only [lcp] at h ⊢
    split at h
    · rename_i e
      rw [if_pos e]
      have := lcp_add n a c (by omega)
      simp only [List.drop_succ_cons]
      omega
    · omega
/-- What each suffix has in common with the one before. -/
def comV (b : List Int) (o : List Nat) : List Int := rowF o.length fun k => ((adjN b o k : Nat) : Int)
def ctCom : Ctr := ⟨[slB, slI], fun x => preOrd x.1 x.2.1, fun x => [.win true (.int .i64) 0 0 (List.length (comV x.1 (natsOf x.2.1)))], fun x => [.row 3 (.int .i64) (comV x.1 (natsOf x.2.1))]⟩
def comP (b : List Int) (o : List Nat) (i : Nat) : List Int := rowF o.length fun k => if o.getD k 0 < i then ((adjN b o k : Nat) : Int) else 0
theorem com_loop {b : List Int} {o : List Nat} (ho : OrdOK b o) (hb : b.length < 1048576) : ∀ (m i n : Nat), o.length - i ≤ m → i ≤ o.length → (i < o.length → n ≤ adjN b o (o.idxOf i)) →
    GD 17 Try.f17 (fun rs blk => rs = [.win true (.int .i64) 11 0 o.length] ∧ lk blk 11 = some (.row 3 (.int .i64) (comV b o))) (hd Try.f17 0)
      ⟨[(0, .sl (.int .u8) b), (1, .sl (.int .i64) (mapI o)), (5, .win true (.int .i64) 11 0 (comP b o i).length), (6, .int .i64 (n : Int)), (15, .win true (.int .i64) 1061440 0 (idxV o).length), (16, .int .i64 (idxV o).length), (17, .int .i64 (i : Int))], [(11, .row 3 (.int .i64) (comP b o i)), (1061440, .row 3 (.int .i64) (idxV o))]⟩ := by
  have hlen := ho.len
  have hq : (idxV o).length = o.length := by rw [idxV, rowF_len]
  have hr : ∀ i, (comP b o i).length = o.length := fun i => by rw [comP, rowF_len]
  intro m
  induction m with
  | zero =>
    intro i n hm h1 h2
    refine sy_go cx2 (vc_comL _ _ _ _ _ _ _ _) (bc_of (fun h => ?_) (fun h => ?_))
    · have h := of_decide_eq_true h; rw [hq] at h; omega
    · have e : comP b o i = comV b o := rowF_congr fun j hj => by
        rw [if_pos]
        have := ho.lt (List.getElem_mem hj)
        rw [getD_at hj]; omega
      rw [hr, e]
      exact ⟨rfl, rfl⟩
  | succ m ih =>
    intro i n hm h1 h2
    by_cases hi : i < o.length
    · have h2 := h2 hi
      have r := rank_lt ho (i := i) (by omega)
      have ra := rank_at ho r
      have g : gt (Sh.int .i64) (idxV o) (0 + (i : Int).toNat) = ((o.idxOf i : Nat) : Int) := by rw [Nat.zero_add]; exact gt_rowF hi
      have hal := adjN_le b o (o.idxOf i)
      have hnext : ∀ n', n' ≤ adjN b o (o.idxOf i) - 1 → (i + 1 < o.length → n' ≤ adjN b o (o.idxOf (i + 1))) := fun n' hn' hi1 => Nat.le_trans hn' (kasai ho (by omega))
      refine sy_go cx2 (vc_comL _ _ _ _ _ _ _ _) ?_
      rw [g, hq, hr, mapI_len, decide_eq_true (show (i : Int) < (o.length : Int) by omega), bc_t]
      refine ⟨by omega, by omega, by omega, bc_of (fun h => ?_) (fun h => ?_)⟩
      · have hk : 0 < o.idxOf i := by have := of_decide_eq_true h; omega
        have hkl : o.idxOf i - 1 < o.length := by omega
        have e1 : IntKind.i64.wrap (((o.idxOf i : Nat) : Int) - 1) = ((o.idxOf i - 1 : Nat) : Int) := by rw [IntWalk.i64_in _ (by omega)]; omega
        have g2 : gt (Sh.int .i64) (mapI o) (((o.idxOf i - 1 : Nat) : Int)).toNat = ((o[o.idxOf i - 1] : Nat) : Int) := gt_mapI hkl
        have hj : o[o.idxOf i - 1] < b.length := ho.lt (List.getElem_mem hkl)
        have ha : adjN b o (o.idxOf i) = lcp (b.drop i) (b.drop o[o.idxOf i - 1]) := by
          unfold adjN
          rw [if_neg (by omega), getD_at r, getD_at hkl, ra]
        rw [e1, g2]
        have e2 : IntKind.i64.wrap ((i : Int) + n) = ((i + n : Nat) : Int) := by rw [IntWalk.i64_in _ (by omega)]; omega
        have e3 : IntKind.i64.wrap (((o[o.idxOf i - 1] : Nat) : Int) + n) = ((o[o.idxOf i - 1] + n : Nat) : Int) := by rw [IntWalk.i64_in _ (by omega)]; omega
        rw [e2, e3]
        have s1 : sfx b ((i + n : Nat) : Int) = (b.drop i).drop n := by
          rw [sfx, if_neg (by omega), Int.toNat_natCast, List.drop_drop]
        have s2 : sfx b ((o[o.idxOf i - 1] + n : Nat) : Int) = (b.drop o[o.idxOf i - 1]).drop n := by
          rw [sfx, if_neg (by omega), Int.toNat_natCast, List.drop_drop]
        rw [s1, s2]
        have e4 : n + lcp ((b.drop i).drop n) ((b.drop o[o.idxOf i - 1]).drop n) = adjN b o (o.idxOf i) := by rw [ha]; exact lcp_add n _ _ (by rw [← ha]; exact h2)
        have e5 : IntKind.i64.wrap ((n : Int) + (lcp ((b.drop i).drop n) ((b.drop o[o.idxOf i - 1]).drop n) : Nat)) = ((adjN b o (o.idxOf i) : Nat) : Int) := by rw [IntWalk.i64_in _ (by omega)]; omega
        rw [e5]
        have e6 : max (IntKind.i64.wrap (((adjN b o (o.idxOf i) : Nat) : Int) - 1)) 0 = ((adjN b o (o.idxOf i) - 1 : Nat) : Int) := by rw [IntWalk.i64_in _ (by omega)]; omega
        rw [e6]
        refine ⟨trivial, by omega, Int.ofNat_lt.2 hkl, trivial, ⟨?_, ?_⟩, by omega, Int.ofNat_lt.2 r, by rw [Int.toNat_natCast, Nat.zero_add]; exact r, ?_⟩
        · show List.length ((b.drop i).drop n) < 2 ^ 62
          rw [List.length_drop, List.length_drop]; omega
        · show List.length ((b.drop o[o.idxOf i - 1]).drop n) < 2 ^ 62
          rw [List.length_drop, List.length_drop]; omega
        · have e7 : (comP b o i).set (0 + ((o.idxOf i : Nat) : Int).toNat) ((adjN b o (o.idxOf i) : Nat) : Int) = comP b o (i + 1) := by
            refine rowF_set ?_ fun j hj hne => ?_
            · rw [Nat.zero_add, Int.toNat_natCast, getD_at r, ra, if_pos (by omega)]
            · rw [Nat.zero_add, Int.toNat_natCast] at hne
              rw [getD_at hj]
              have : o[j] ≠ i := fun q => hne (nodup_at ho.nodup hj r (by rw [ra]; exact q))
              by_cases q : o[j] < i
              · rw [if_pos q, if_pos (by omega)]
              · rw [if_neg q, if_neg (by omega)]
          rw [e7, IntWalk.i64_in ((i : Int) + 1) (by omega)]
          refine (ih (i + 1) (adjN b o (o.idxOf i) - 1) (by omega) (by omega) (hnext _ (Nat.le_refl _))).only ⟨rfl, rfl, ?_, rfl, ?_, ?_, rfl, trivial⟩ ⟨rfl, rfl, trivial⟩
          · rw [hr]; rfl
          · rw [hq]; rfl
          · rw [hq]; rfl
      · have hk : o.idxOf i = 0 := by have := of_decide_eq_false h; omega
        have hn : n = 0 := by rw [hk] at h2; simpa [adjN] using h2
        subst hn
        have e7 : comP b o i = comP b o (i + 1) := rowF_congr fun j hj => by
          rw [getD_at hj]
          by_cases hj0 : o[j] = i
          · have : j = o.idxOf i := nodup_at ho.nodup hj r (by rw [ra]; exact hj0)
            have h0 : adjN b o j = 0 := by rw [this, hk]; simp [adjN]
            rw [h0]
            simp
          · by_cases q : o[j] < i
            · rw [if_pos q, if_pos (by omega)]
            · rw [if_neg q, if_neg (by omega)]
        have e6 : max (IntKind.i64.wrap (((0 : Nat) : Int) - 1)) 0 = ((0 : Nat) : Int) := by decide
        rw [e6, e7, IntWalk.i64_in ((i : Int) + 1) (by omega)]
        refine (ih (i + 1) 0 (by omega) (by omega) (fun _ => Nat.zero_le _)).only ⟨rfl, rfl, ?_, rfl, ?_, ?_, rfl, trivial⟩ ⟨rfl, rfl, trivial⟩
        · rw [hr]; rfl
        · rw [hq]; rfl
        · rw [hq]; rfl
    · exact ih i n (by omega) h1 h2
theorem com_run (b o : List Int) (hp : preOrd b o) : sy tt G0 C2 Try.f17.ntmps Try.f17.results.toList (QC ctCom (b, o, ())) (Px.Good Try.prog tt G0 17 Try.f17.ntmps Try.f17.results.toList (QC ctCom (b, o, ()))) 1000 [.code (bodyOf Try.f17)] (entry [slB, slI] (b, o, ())) := by
  have hp0 := hp
  obtain ⟨hb, p, ho, rfl⟩ := hp
  have hlen := ho.len
  refine (vc_com _ _ _ _).mpr ?_
  have hq : (idxV p).length = p.length := by rw [idxV, rowF_len]
  rw [mapI_len, nats_map]
  refine ⟨by omega, Int.le_refl _, by omega, by omega, ⟨⟨b, hp0⟩, by show (b.length : Int) = ((mapI p).length : Nat); rw [mapI_len, hlen]⟩, ?_⟩
  have e0 : List.replicate ((p.length : Nat) : Int).toNat (Sh.int .i64).dflt = comP b p 0 := by
    rw [Int.toNat_natCast]
    apply List.ext_getElem
    · simp [comP, rowF]
    · intro j h1 h2
      simp [comP, rowF]; rfl
  rw [e0]
  refine ((com_loop ho hb _ 0 0 (Nat.le_refl _) (by omega) (fun _ => Nat.zero_le _)).post fun rs blk h => ?_).only ⟨rfl, rfl, ?_, rfl, ?_, ?_, rfl, trivial⟩ ⟨rfl, rfl, trivial⟩
  · refine QC.row (e := .int .i64) (et := 3) (a := 11) (k := p.length) (xs := comV b p) ?_ ?_ h.1 (by rw [comV, rowF_len]) h.2
    · simp only [ctCom, nats_map]
    · simp only [ctCom, nats_map]
  · rw [comP, rowF_len, Int.toNat_natCast]; rfl
  · rfl
  · rfl
theorem com_held : Held Try.prog G0 17 ctCom := Held.run cx2 (fn := Try.f17) rfl rfl ⟨by decide, by decide⟩ fun x hp => com_run x.1 x.2.1 hp
end Go.Proofs.Ytjcknfkddbiobaa
namespace Go.Proofs.Ytjcknfkddbiobaa
open Go.Px Go.Ax
/-- How many come before i. -/
def posN (b : List Int) (l : List Nat) (i : Nat) : Nat := (l.takeWhile fun k => sl b k i).length
theorem posN_le (b : List Int) (l : List Nat) (i : Nat) : posN b l i ≤ l.length := (List.takeWhile_sublist _).length_le
theorem takeWhile_all {p : Nat → Bool} : ∀ {l : List Nat} {k : Nat} (_h : k < (l.takeWhile p).length) (hk : k < l.length), p l[k] = true
  | [], k, h, _ => by simp at h
  | a :: l, k, h, hk => by
    cases ha : p a with
    | false => simp [List.takeWhile, ha] at h
    | true =>
      rw [List.takeWhile_cons_of_pos ha, List.length_cons] at h
      cases k with
      | zero => exact ha
      | succ k => exact takeWhile_all (l := l) (by omega) (by simpa using hk)
theorem takeWhile_stop {p : Nat → Bool} : ∀ {l : List Nat} (hk : (l.takeWhile p).length < l.length), p l[(l.takeWhile p).length] = false
  | [], h => by simp at h
  | a :: l, h => by
    cases ha : p a with
    | false => simp [List.takeWhile, ha]
    | true =>
      simp only [List.takeWhile_cons_of_pos ha, List.length_cons] at h ⊢
      exact takeWhile_stop (l := l) (by omega)
theorem takeWhile_take {p : Nat → Bool} : ∀ l : List Nat, l.takeWhile p = l.take (l.takeWhile p).length
  | [] => rfl
  | a :: l => by
    cases ha : p a with
    | false => simp [List.takeWhile, ha]
    | true => rw [List.takeWhile_cons_of_pos ha, List.length_cons, List.take_succ_cons, ← takeWhile_take l]
theorem dropWhile_drop {p : Nat → Bool} : ∀ l : List Nat, l.dropWhile p = l.drop (l.takeWhile p).length
  | [] => rfl
  | a :: l => by
    cases ha : p a with
    | false => simp [List.takeWhile, List.dropWhile, ha]
    | true => rw [List.takeWhile_cons_of_pos ha, List.dropWhile_cons_of_pos ha, List.length_cons, List.drop_succ_cons, ← dropWhile_drop l]
theorem insN_eq (b : List Int) (l : List Nat) (i : Nat) : insN b l i = l.take (posN b l i) ++ i :: l.drop (posN b l i) := by
  unfold insN posN
  rw [← takeWhile_take, ← dropWhile_drop]
theorem mapI_ins (b : List Int) (l : List Nat) (i : Nat) : mapI (insN b l i) = (mapI l).take (posN b l i) ++ (i : Int) :: (mapI l).drop (posN b l i) := by
  rw [insN_eq]
  simp [mapI]
theorem winL_eq (l : List Int) (a n : Nat) : winL (Sh.int .i64) a n l = (l.drop a).take n := rfl
def ordB (b : List Int) : List Nat := ordN b b.length
theorem ordN_len (b : List Int) (n : Nat) : (ordN b n).length = n := by simpa using (ordN_perm b n).length_eq
def preLen (n : Nat) : Prop := n < 1048576
def ctOrd : Ctr := ⟨[slB], fun x => preLen (List.length x.1), fun x => [.win true (.int .i64) 0 0 (List.length (mapI (ordB x.1)))], fun x => [.row 3 (.int .i64) (mapI (ordB x.1))]⟩
abbrev QO (b : List Int) : List SV → List (Nat × LB) → Prop := fun rs blk => rs = [.win true (.int .i64) 7 0 b.length] ∧ lk blk 7 = some (.row 3 (.int .i64) (mapI (ordB b)))
abbrev SO (b : List Int) (i : Nat) : PS := ⟨[(0, .sl (.int .u8) b), (3, .win true (.int .i64) 7 0 (mapI (ordN b i)).length), (4, .int .i64 (i : Int))], [(7, .row 3 (.int .i64) (mapI (ordN b i)))]⟩
theorem ord_in {b : List Int} (hb : b.length < 1048576) {i : Nat} (hi : i < b.length) (hn : GD 12 Try.f12 (QO b) (hd Try.f12 0) (SO b (i + 1))) : ∀ (m k : Nat), posN b (ordN b i) i - k ≤ m → k ≤ posN b (ordN b i) i →
    GD 12 Try.f12 (QO b) (hd Try.f12 1) ⟨[(0, .sl (.int .u8) b), (3, .win true (.int .i64) 7 0 (mapI (ordN b i)).length), (4, .int .i64 (i : Int)), (5, .int .i64 (k : Int))], [(7, .row 3 (.int .i64) (mapI (ordN b i)))]⟩ := by
  have hol := ordN_len b i
  have hml : (mapI (ordN b i)).length = i := by rw [mapI_len, hol]
  have hpl := posN_le b (ordN b i) i
  have hin : ∀ k (hk : k < (ordN b i).length), (ordN b i)[k] < i := fun k hk => by simpa using (ordN_perm b i).mem_iff.1 (List.getElem_mem hk)
  have hlast : ∀ {A : Prop}, ((0 : Int) ≤ (posN b (ordN b i) i : Int) ∧ (posN b (ordN b i) i : Int) ≤ (i : Int)) := ⟨by omega, by omega⟩
  intro m
  induction m with
  | zero =>
    intro k hm h1
    obtain rfl : k = posN b (ordN b i) i := by omega
    refine sy_go cx1 (vc_ordI _ _ _ _ _ _) ?_
    have hset : (List.replicate 1 (Sh.int .i64).dflt).set 0 (i : Int) = [(i : Int)] := rfl
    have hnl : (mapI (ordN b (i + 1))).length = i + 1 := by rw [mapI_len, ordN_len]
    have hni : mapI (ordN b (i + 1)) = (mapI (ordN b i)).take (posN b (ordN b i) i) ++ [(i : Int)] ++ (mapI (ordN b i)).drop (posN b (ordN b i) i) := by
      rw [ordN_succ, mapI_ins]; simp
    have htk : (List.drop (posN b (ordN b i) i) (mapI (ordN b i))).take (i - posN b (ordN b i) i) = List.drop (posN b (ordN b i) i) (mapI (ordN b i)) := List.take_of_length_le (by rw [List.length_drop, hml]; exact Nat.le_refl _)
    rw [hset]
    dsimp only [Sh.D, mkT, winL]
    simp only [Nat.zero_add, Nat.sub_zero, List.replicate_zero, List.nil_append, Int.toNat_natCast, hml, List.length_drop, List.length_take, List.drop_zero, List.length_append, List.length_cons, List.length_nil, List.take_succ_cons, List.take_zero, htk, IntWalk.i64_in ((i : Int) + 1) (show _ ∧ _ by omega)]
    refine bc_of (fun h => ?_) (fun h => ?_)
    · have h := of_decide_eq_true h
      have hpk : posN b (ordN b i) i < (ordN b i).length := by omega
      have g : gt (Sh.int .i64) (mapI (ordN b i)) (posN b (ordN b i) i) = (((ordN b i)[posN b (ordN b i) i] : Nat) : Int) := gt_mapI hpk
      have hlt := hin _ hpk
      have hp : lexLt (List.drop (ordN b i)[posN b (ordN b i) i] b) (List.drop i b) = false := takeWhile_stop (p := fun k => sl b k i) hpk
      simp only [g, Int.toNat_natCast, hp]
      refine ⟨by omega, h, by omega, by omega, by omega, by omega, by omega, ⟨?_, ?_⟩, ?_⟩
      · show List.length (b.drop _) < 2 ^ 62
        rw [List.length_drop]; omega
      · show List.length (b.drop _) < 2 ^ 62
        rw [List.length_drop]; omega
      · rw [show (bif true then false else false) = false from rfl, bc_f]
        repeat (refine ⟨by first | trivial | omega, ?_⟩)
        refine hn.onlyR [(7, 45)] rfl ⟨rfl, ?_, rfl, trivial⟩ ⟨?_, trivial⟩
        · exact congrArg (fun z => some (SV.win true (.int .i64) 45 0 z)) (by rw [hnl]; omega)
        · exact congrArg (fun z => some (LB.row 3 (.int .i64) z)) hni.symm
    · repeat (refine ⟨by first | trivial | omega, ?_⟩)
      refine hn.onlyR [(7, 45)] rfl ⟨rfl, ?_, rfl, trivial⟩ ⟨?_, trivial⟩
      · exact congrArg (fun z => some (SV.win true (.int .i64) 45 0 z)) (by rw [hnl]; omega)
      · exact congrArg (fun z => some (LB.row 3 (.int .i64) z)) hni.symm
  | succ m ih =>
    intro k hm h1
    by_cases hk : k < posN b (ordN b i) i
    · refine sy_go cx1 (vc_ordI _ _ _ _ _ _) ?_
      have hkl : k < (ordN b i).length := by omega
      have g : gt (Sh.int .i64) (mapI (ordN b i)) (0 + (k : Int).toNat) = (((ordN b i)[k] : Nat) : Int) := by rw [Nat.zero_add]; exact gt_mapI hkl
      have hlt := hin k hkl
      have hp : lexLt (List.drop (ordN b i)[k] b) (List.drop i b) = true := takeWhile_all (p := fun k => sl b k i) hk hkl
      rw [g, hml, decide_eq_true (show (k : Int) < (i : Int) by omega), bc_t]
      simp only [Int.toNat_natCast]
      rw [hp, cond_true, bc_t, IntWalk.i64_in ((k : Int) + 1) (by omega)]
      dsimp only [Sh.D]
      refine ⟨by omega, by omega, by omega, by omega, by omega, by omega, by omega, ⟨?_, ?_⟩, ?_⟩
      · show List.length (b.drop _) < 2 ^ 62
        rw [List.length_drop]; omega
      · show List.length (b.drop _) < 2 ^ 62
        rw [List.length_drop]; omega
      · refine (ih (k + 1) (by omega) (by omega)).only ⟨rfl, ?_, rfl, rfl, trivial⟩ ⟨rfl, trivial⟩
        rw [hml]; rfl
    · exact ih k (by omega) h1
theorem ord_out {b : List Int} (hb : b.length < 1048576) : ∀ (m i : Nat), b.length - i ≤ m → i ≤ b.length → GD 12 Try.f12 (QO b) (hd Try.f12 0) (SO b i) := by
  intro m
  induction m with
  | zero =>
    intro i hm h1
    obtain rfl : i = b.length := by omega
    refine sy_go cx1 (vc_ordO _ _ _ _ _) (bc_of (fun h => ?_) (fun h => ?_))
    · have h := of_decide_eq_true h; omega
    · exact ⟨by rw [mapI_len, ordN_len], rfl⟩
  | succ m ih =>
    intro i hm h1
    by_cases hi : i < b.length
    · refine sy_go cx1 (vc_ordO _ _ _ _ _) ?_
      rw [decide_eq_true (show (i : Int) < (b.length : Int) by omega), bc_t]
      exact (ord_in hb hi (ih (i + 1) (by omega) (by omega)) _ 0 (Nat.le_refl _) (Nat.zero_le _)).only ⟨rfl, rfl, rfl, rfl, trivial⟩ ⟨rfl, trivial⟩
    · exact ih i (by omega) h1
theorem ord_run (b : List Int) (hp : preLen b.length) : sy tt G0 C1 Try.f12.ntmps Try.f12.results.toList (QC ctOrd (b, ())) (Px.Good Try.prog tt G0 12 Try.f12.ntmps Try.f12.results.toList (QC ctOrd (b, ()))) 1000 [.code (bodyOf Try.f12)] (entry [slB] (b, ())) := by
  refine (vc_ord _ _ _).mpr ?_
  refine ((ord_out hp _ 0 (Nat.le_refl _) (by omega)).post fun rs blk h => ?_).only ⟨rfl, rfl, rfl, trivial⟩ ⟨rfl, trivial⟩
  exact QC.row (e := .int .i64) (et := 3) (a := 7) (k := b.length) (xs := mapI (ordB b)) rfl rfl h.1 (by rw [mapI_len, ordB, ordN_len]) h.2
theorem ord_held : Held Try.prog G0 12 ctOrd := Held.run cx1 (fn := Try.f12) rfl rfl ⟨by decide, by decide⟩ fun x hp => ord_run x.1 hp
theorem ints_loop (a b : List Int) (hl : a.length = b.length) (ha : a.length < 2 ^ 62) : ∀ (m i : Nat), a.length - i ≤ m → i ≤ a.length →
    GD 13 Try.f13 (fun rs _ => rs = [.bool (decide (a.drop i = b.drop i))]) (hd Try.f13 0) ⟨[(0, .sl (.int .i64) a), (1, .sl (.int .i64) b), (5, .int .i64 (i : Int))], []⟩ := by
  intro m
  induction m with
  | zero =>
    intro i hm h1
    refine sy_go cx0 (vc_intsL a b i _ _) (bc_of (fun h => ?_) (fun h => ?_))
    · have h := of_decide_eq_true h; omega
    · show [SV.bool _] = [SV.bool _]
      rw [List.drop_eq_nil_of_le (show a.length ≤ i by omega), List.drop_eq_nil_of_le (show b.length ≤ i by omega), decide_eq_true rfl]
  | succ m ih =>
    intro i hm h1
    by_cases hi : i < a.length
    · refine sy_go cx0 (vc_intsL a b i _ _) ?_
      have hib : i < b.length := by omega
      have g1 : gt (Sh.int .i64) a (i : Int).toNat = a[i] := gt_eq hi
      have g2 : gt (Sh.int .i64) b (i : Int).toNat = b[i] := gt_eq hib
      rw [g1, g2, decide_eq_true (show (i : Int) < (a.length : Int) by omega), bc_t]
      refine ⟨by omega, by omega, by omega, by omega, bc_of (fun h => ?_) (fun h => ?_)⟩
      · have h := of_decide_eq_true h
        show [SV.bool _] = [SV.bool _]
        rw [dropc hi, dropc hib, decide_eq_false (by simp only [List.cons.injEq]; exact fun q => h q.1)]
      · have h : a[i] = b[i] := by simpa using of_decide_eq_false h
        rw [IntWalk.i64_in ((i : Int) + 1) (by omega)]
        have e : decide (a.drop i = b.drop i) = decide (a.drop (i + 1) = b.drop (i + 1)) := by rw [dropc hi, dropc hib, h]; simp only [List.cons.injEq, true_and]
        rw [e]
        exact (ih (i + 1) (by omega) (by omega)).only ⟨rfl, rfl, rfl, trivial⟩ trivial
    · exact ih i (by omega) h1
def ctInts : Ctr := ⟨[slI, slI], fun x => preTwo (List.length x.1) (List.length x.2.1), fun x => [.bool (decide ((x.1 : List Int) = x.2.1))], fun _ => []⟩
theorem ints_run (a b : List Int) (hp : preTwo a.length b.length) : sy tt G0 [] Try.f13.ntmps Try.f13.results.toList (QC ctInts (a, b, ())) (Px.Good Try.prog tt G0 13 Try.f13.ntmps Try.f13.results.toList (QC ctInts (a, b, ()))) 1000 [.code (bodyOf Try.f13)] (entry [slI, slI] (a, b, ())) := by
  refine (vc_ints _ _ _ _).mpr (bc_of (fun h => ?_) (fun h => ?_))
  · have h : (a.length : Int) ≠ b.length := of_decide_eq_true h
    refine QC.flat ?_ rfl rfl
    show [SV.bool (decide (a = b))] = _
    rw [decide_eq_false (fun e => h (by rw [e]))]
  · have h : (a.length : Int) = b.length := by simpa using of_decide_eq_false h
    exact ((ints_loop a b (by omega) hp.1 _ 0 (Nat.le_refl _) (by omega)).post fun rs blk hq => QC.flat (by rw [hq]; rfl) rfl (by rw [hq]; rfl)).only ⟨rfl, rfl, rfl, trivial⟩ trivial
theorem ints_held : Held Try.prog G0 13 ctInts := Held.run cx0 (fn := Try.f13) rfl rfl ⟨by decide, by decide⟩ fun x hp => ints_run x.1 x.2.1 hp
def C3 : CV := (13, .inl ctInts) :: (12, .inl ctOrd) :: (17, .inl ctCom) :: C2
theorem cx3 : CxOK Try.prog tt G0 C3 := ((cx2.cons com_held (fn := Try.f17) rfl rfl rfl).cons ord_held (fn := Try.f12) rfl rfl rfl).cons ints_held (fn := Try.f13) rfl rfl rfl
end Go.Proofs.Ytjcknfkddbiobaa
namespace Go.Proofs.Ytjcknfkddbiobaa
open Go.Px Go.Ax
noncomputable abbrev FF := fnsOf Try.prog 3 36
set_option maxRecDepth 100000 in
theorem fns_ok : Ax.fnsOK Try.prog 3 36 = true := by decide +kernel
theorem cxE : Cx Try.prog FF := Cx.of_ok fns_ok mixed
theorem hG : Glob G0.raw := ⟨fun g x h => by simp [G0, T.get] at h, fun g x h => by simp [G0, T.get] at h⟩
abbrev H0 : AHeap := ⟨nglob, G0.raw⟩
set_option maxRecDepth 100000 in
theorem sanity_runs : Ax.givesV (Ax.eval Try.prog FF 400 (.call 10 #[] H0)) (.bool true) = true := by decide +kernel
def ctSan : Ctr := ⟨[], fun _ => True, fun _ => [.bool true], fun _ => []⟩
theorem san_held : Held Try.prog G0 10 ctSan := by
  have h := sanity_runs
  unfold givesV at h
  split at h
  · rename_i r H2 he
    simp only [Bool.and_eq_true] at h
    have hr := eqV_eq _ _ h.1
    subst hr
    exact Held.bool0 hG (Valid.eval cxE 400 _ _ he)
  · cases h
def C4 : CV := (10, .inl ctSan) :: C3
theorem cx4 : CxOK Try.prog tt G0 C4 := cx3.cons san_held (fn := Try.f10) rfl rfl rfl
end Go.Proofs.Ytjcknfkddbiobaa
