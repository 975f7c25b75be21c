/-
  A part of the proof: what a piece of the program gives; conditions: those of each theorem.
-/
import Derived.Test.YtijeaicbnfiegaaS0
set_option linter.unusedVariables false
namespace Go.Proofs.Ytijeaicbnfiegaa
open Go.Px Go.Ax
set_option maxRecDepth 100000
theorem vc_limited (b : List Int) (n : Int) (Q : List SV → List (Nat × LB) → Prop) (R : List Item → PS → Prop) : sy tt G0 [] Try.f11.ntmps Try.f11.results.toList Q R 1000 [.code (bodyOf Try.f11)] (entry [.sl (.int .u8), .int .i64] (b, n, ())) =
    (bc (decide (n < (↑b.length : Int)))
 ((0 : Int) ≤ n ∧ n ≤ (↑b.length : Int) ∧ Q [SV.sl (Sh.int IntKind.u8) (List.take n.toNat b)] [])
 (Q [SV.sl (Sh.int IntKind.u8) b] [])) := by kernel_rfl
theorem vc_suffixAt (b : List Int) (n : Int) (Q : List SV → List (Nat × LB) → Prop) (R : List Item → PS → Prop) : sy tt G0 [] Try.f30.ntmps Try.f30.results.toList Q R 1000 [.code (bodyOf Try.f30)] (entry [.sl (.int .u8), .int .i64] (b, n, ())) =
    (bc (decide (n < (0 : Int))) (true = true ∧ Q [SV.nils] [])
 (bc (bif false then true else decide ((↑b.length : Int) < n)) (Q [SV.nils] [])
 ((0 : Int) ≤ n ∧ n ≤ (↑b.length : Int) ∧ Q [SV.sl (Sh.int IntKind.u8) (List.drop n.toNat b)] []))) := by kernel_rfl
theorem vc_less (a b : List Int) (Q : List SV → List (Nat × LB) → Prop) (R : List Item → PS → Prop) : sy tt G0 [] Try.f20.ntmps Try.f20.results.toList Q R 1000 [.code (bodyOf Try.f20)] (entry [.sl (.int .u8), .sl (.int .u8)] (a, b, ())) =
    (R (hd Try.f20 (0 : Nat))
 {
 env :=
 [((0 : Nat), SV.sl (Sh.int IntKind.u8) a), ((1 : Nat), SV.sl (Sh.int IntKind.u8) b), ((4 : Nat), SV.bool false),
 ((5 : Nat), SV.int IntKind.i64 (0 : Int))],
 blk := [] }) := by kernel_rfl
theorem vc_lessL (a b : List Int) (i : Int) (Q : List SV → List (Nat × LB) → Prop) (R : List Item → PS → Prop) : sy tt G0 [] Try.f20.ntmps Try.f20.results.toList Q R 1000 (hd Try.f20 0) ⟨[(0, .sl (.int .u8) a), (1, .sl (.int .u8) b), (5, .int .i64 i)], []⟩ =
    (bc (decide (i < (↑a.length : Int)))
 (bc (bif true then decide (i < (↑b.length : Int)) else false)
 ((0 : Int) ≤ i ∧
 i < (↑a.length : Int) ∧
 (0 : Int) ≤ i ∧
 i < (↑b.length : Int) ∧
 bc (decide (gt (Sh.int IntKind.u8) a i.toNat ≠ gt (Sh.int IntKind.u8) b i.toNat))
 ((0 : Int) ≤ i ∧
 i < (↑a.length : Int) ∧
 (0 : Int) ≤ i ∧
 i < (↑b.length : Int) ∧
 Q [SV.bool (decide (gt (Sh.int IntKind.u8) a i.toNat < gt (Sh.int IntKind.u8) b i.toNat))] [])
 (R (hd Try.f20 (0 : Nat))
 {
 env :=
 [((0 : Nat), SV.sl (Sh.int IntKind.u8) a), ((1 : Nat), SV.sl (Sh.int IntKind.u8) b),
 ((5 : Nat), SV.int IntKind.i64 (IntKind.i64.wrap (i + (1 : Int)))),
 ((6 : Nat), SV.int IntKind.i64 i), ((7 : Nat), SV.sl (Sh.int IntKind.u8) a),
 ((8 : Nat), SV.int IntKind.i64 (↑a.length : Int)),
 ((9 : Nat), SV.bool (decide (i < (↑a.length : Int)))), ((10 : Nat), SV.bool true),
 ((11 : Nat), SV.int IntKind.i64 i), ((12 : Nat), SV.sl (Sh.int IntKind.u8) b),
 ((13 : Nat), SV.int IntKind.i64 (↑b.length : Int)),
 ((14 : Nat), SV.bool (decide (i < (↑b.length : Int)))),
 ((15 : Nat), SV.bool (bif true then decide (i < (↑b.length : Int)) else false)),
 ((16 : Nat), SV.int IntKind.i64 i),
 ((17 : Nat), SV.int IntKind.i64 (IntKind.i64.wrap (i + (1 : Int)))),
 ((18 : Nat), SV.sl (Sh.int IntKind.u8) a), ((19 : Nat), SV.int IntKind.i64 i),
 ((20 : Nat), SV.elv (Sh.int IntKind.u8) (gt (Sh.int IntKind.u8) a i.toNat)),
 ((21 : Nat), SV.int IntKind.u8 (gt (Sh.int IntKind.u8) a i.toNat)),
 ((22 : Nat), SV.sl (Sh.int IntKind.u8) b), ((23 : Nat), SV.int IntKind.i64 i),
 ((24 : Nat), SV.elv (Sh.int IntKind.u8) (gt (Sh.int IntKind.u8) b i.toNat)),
 ((25 : Nat), SV.int IntKind.u8 (gt (Sh.int IntKind.u8) b i.toNat)),
 ((26 : Nat),
 SV.bool (decide (gt (Sh.int IntKind.u8) a i.toNat ≠ gt (Sh.int IntKind.u8) b i.toNat)))],
 blk := [] }))
 (Q [SV.bool (decide ((↑a.length : Int) < (↑b.length : Int)))] []))
 (false = false ∧ Q [SV.bool (decide ((↑a.length : Int) < (↑b.length : Int)))] [])) := by kernel_rfl
theorem vc_shared (a b : List Int) (Q : List SV → List (Nat × LB) → Prop) (R : List Item → PS → Prop) : sy tt G0 [] Try.f21.ntmps Try.f21.results.toList Q R 1000 [.code (bodyOf Try.f21)] (entry [.sl (.int .u8), .sl (.int .u8)] (a, b, ())) =
    (R (hd Try.f21 (0 : Nat))
 {
 env :=
 [((0 : Nat), SV.sl (Sh.int IntKind.u8) a), ((1 : Nat), SV.sl (Sh.int IntKind.u8) b),
 ((4 : Nat), SV.int IntKind.i64 (0 : Int)), ((5 : Nat), SV.int IntKind.i64 (0 : Int))],
 blk := [] }) := by kernel_rfl
theorem vc_sharedL (a b : List Int) (n : Int) (Q : List SV → List (Nat × LB) → Prop) (R : List Item → PS → Prop) : sy tt G0 [] Try.f21.ntmps Try.f21.results.toList Q R 1000 (hd Try.f21 0) ⟨[(0, .sl (.int .u8) a), (1, .sl (.int .u8) b), (5, .int .i64 n)], []⟩ =
    (bc (decide (n < (↑a.length : Int)))
 (bc (bif true then decide (n < (↑b.length : Int)) else false)
 ((0 : Int) ≤ n ∧
 n < (↑a.length : Int) ∧
 (0 : Int) ≤ n ∧
 n < (↑b.length : Int) ∧
 bc (bif true then decide (gt (Sh.int IntKind.u8) a n.toNat = gt (Sh.int IntKind.u8) b n.toNat) else false)
 (R (hd Try.f21 (0 : Nat))
 {
 env :=
 [((0 : Nat), SV.sl (Sh.int IntKind.u8) a), ((1 : Nat), SV.sl (Sh.int IntKind.u8) b),
 ((5 : Nat), SV.int IntKind.i64 (IntKind.i64.wrap (n + (1 : Int)))),
 ((6 : Nat), SV.int IntKind.i64 n), ((7 : Nat), SV.sl (Sh.int IntKind.u8) a),
 ((8 : Nat), SV.int IntKind.i64 (↑a.length : Int)),
 ((9 : Nat), SV.bool (decide (n < (↑a.length : Int)))), ((10 : Nat), SV.bool true),
 ((11 : Nat), SV.int IntKind.i64 n), ((12 : Nat), SV.sl (Sh.int IntKind.u8) b),
 ((13 : Nat), SV.int IntKind.i64 (↑b.length : Int)),
 ((14 : Nat), SV.bool (decide (n < (↑b.length : Int)))),
 ((15 : Nat), SV.bool (bif true then decide (n < (↑b.length : Int)) else false)),
 ((16 : Nat), SV.bool true), ((17 : Nat), SV.sl (Sh.int IntKind.u8) a),
 ((18 : Nat), SV.int IntKind.i64 n),
 ((19 : Nat), SV.elv (Sh.int IntKind.u8) (gt (Sh.int IntKind.u8) a n.toNat)),
 ((20 : Nat), SV.int IntKind.u8 (gt (Sh.int IntKind.u8) a n.toNat)),
 ((21 : Nat), SV.sl (Sh.int IntKind.u8) b), ((22 : Nat), SV.int IntKind.i64 n),
 ((23 : Nat), SV.elv (Sh.int IntKind.u8) (gt (Sh.int IntKind.u8) b n.toNat)),
 ((24 : Nat), SV.int IntKind.u8 (gt (Sh.int IntKind.u8) b n.toNat)),
 ((25 : Nat),
 SV.bool (decide (gt (Sh.int IntKind.u8) a n.toNat = gt (Sh.int IntKind.u8) b n.toNat))),
 ((26 : Nat),
 SV.bool
 (bif true then decide (gt (Sh.int IntKind.u8) a n.toNat = gt (Sh.int IntKind.u8) b n.toNat)
 else false)),
 ((27 : Nat), SV.int IntKind.i64 n),
 ((28 : Nat), SV.int IntKind.i64 (IntKind.i64.wrap (n + (1 : Int))))],
 blk := [] })
 (Q [SV.int IntKind.i64 n] []))
 (false = false ∧ Q [SV.int IntKind.i64 n] []))
 (false = false ∧ false = false ∧ Q [SV.int IntKind.i64 n] [])) := by kernel_rfl
theorem vc_equal (a b : List Int) (Q : List SV → List (Nat × LB) → Prop) (R : List Item → PS → Prop) : sy tt G0 [] Try.f29.ntmps Try.f29.results.toList Q R 1000 [.code (bodyOf Try.f29)] (entry [.sl (.int .u8), .sl (.int .u8)] (a, b, ())) =
    (R (hd Try.f29 (0 : Nat))
 {
 env :=
 [((0 : Nat), SV.sl (Sh.int IntKind.u8) a), ((1 : Nat), SV.sl (Sh.int IntKind.u8) b),
 ((4 : Nat), SV.int IntKind.i64 (0 : Int)), ((5 : Nat), SV.int IntKind.i64 (0 : Int))],
 blk := [] }) := by kernel_rfl
theorem vc_equalL (a b : List Int) (n : Int) (Q : List SV → List (Nat × LB) → Prop) (R : List Item → PS → Prop) : sy tt G0 [] Try.f29.ntmps Try.f29.results.toList Q R 1000 (hd Try.f29 0) ⟨[(0, .sl (.int .u8) a), (1, .sl (.int .u8) b), (5, .int .i64 n)], []⟩ =
    (bc (decide (n < (↑a.length : Int)))
 (bc (bif true then decide (n < (↑b.length : Int)) else false)
 ((0 : Int) ≤ n ∧
 n < (↑a.length : Int) ∧
 (0 : Int) ≤ n ∧
 n < (↑b.length : Int) ∧
 bc (bif true then decide (gt (Sh.int IntKind.u8) a n.toNat = gt (Sh.int IntKind.u8) b n.toNat) else false)
 (R (hd Try.f29 (0 : Nat))
 {
 env :=
 [((0 : Nat), SV.sl (Sh.int IntKind.u8) a), ((1 : Nat), SV.sl (Sh.int IntKind.u8) b),
 ((5 : Nat), SV.int IntKind.i64 (IntKind.i64.wrap (n + (1 : Int)))),
 ((6 : Nat), SV.int IntKind.i64 n), ((7 : Nat), SV.sl (Sh.int IntKind.u8) a),
 ((8 : Nat), SV.int IntKind.i64 (↑a.length : Int)),
 ((9 : Nat), SV.bool (decide (n < (↑a.length : Int)))), ((10 : Nat), SV.bool true),
 ((11 : Nat), SV.int IntKind.i64 n), ((12 : Nat), SV.sl (Sh.int IntKind.u8) b),
 ((13 : Nat), SV.int IntKind.i64 (↑b.length : Int)),
 ((14 : Nat), SV.bool (decide (n < (↑b.length : Int)))),
 ((15 : Nat), SV.bool (bif true then decide (n < (↑b.length : Int)) else false)),
 ((16 : Nat), SV.bool true), ((17 : Nat), SV.sl (Sh.int IntKind.u8) a),
 ((18 : Nat), SV.int IntKind.i64 n),
 ((19 : Nat), SV.elv (Sh.int IntKind.u8) (gt (Sh.int IntKind.u8) a n.toNat)),
 ((20 : Nat), SV.int IntKind.u8 (gt (Sh.int IntKind.u8) a n.toNat)),
 ((21 : Nat), SV.sl (Sh.int IntKind.u8) b), ((22 : Nat), SV.int IntKind.i64 n),
 ((23 : Nat), SV.elv (Sh.int IntKind.u8) (gt (Sh.int IntKind.u8) b n.toNat)),
 ((24 : Nat), SV.int IntKind.u8 (gt (Sh.int IntKind.u8) b n.toNat)),
 ((25 : Nat),
 SV.bool (decide (gt (Sh.int IntKind.u8) a n.toNat = gt (Sh.int IntKind.u8) b n.toNat))),
 ((26 : Nat),
 SV.bool
 (bif true then decide (gt (Sh.int IntKind.u8) a n.toNat = gt (Sh.int IntKind.u8) b n.toNat)
 else false)),
 ((27 : Nat), SV.int IntKind.i64 n),
 ((28 : Nat), SV.int IntKind.i64 (IntKind.i64.wrap (n + (1 : Int))))],
 blk := [] })
 (Q [SV.int IntKind.i64 n] []))
 (false = false ∧ Q [SV.int IntKind.i64 n] []))
 (false = false ∧ false = false ∧ Q [SV.int IntKind.i64 n] [])) := by kernel_rfl
theorem vc_indices (o : List Int) (n : Int) (Q : List SV → List (Nat × LB) → Prop) (R : List Item → PS → Prop) : sy tt G0 [] Try.f34.ntmps Try.f34.results.toList Q R 1000 [.code (bodyOf Try.f34)] (entry [.sl (.int .i64), .int .i64] (o, n, ())) =
    ((0 : Int) ≤ n ∧
 n ≤ n ∧
 n < (2 : Int) ^ (24 : Nat) ∧
 (↑(8 : Nat) : Int) * n ≤ (2 : Int) ^ (48 : Nat) ∧
 R (hd Try.f34 (0 : Nat))
 {
 env :=
 [((0 : Nat), SV.sl (Sh.int IntKind.i64) o), ((1 : Nat), SV.int IntKind.i64 n), ((4 : Nat), SV.nils),
 ((5 : Nat), SV.win true (Sh.int IntKind.i64) (9 : Nat) (0 : Nat) n.toNat),
 ((8 : Nat), SV.int IntKind.i64 n),
 ((9 : Nat), SV.win true (Sh.int IntKind.i64) (9 : Nat) (0 : Nat) n.toNat),
 ((10 : Nat), SV.sl (Sh.int IntKind.i64) o), ((11 : Nat), SV.int IntKind.i64 (↑o.length : Int)),
 ((12 : Nat), SV.int IntKind.i64 (0 : Int))],
 blk :=
 [((9 : Nat), LB.row (3 : Nat) (Sh.int IntKind.i64) (List.replicate n.toNat (Sh.int IntKind.i64).dflt))] }) := by kernel_rfl
theorem vc_indicesL (o r : List Int) (n i : Int) (Q : List SV → List (Nat × LB) → Prop) (R : List Item → PS → Prop) : sy tt G0 [] Try.f34.ntmps Try.f34.results.toList Q R 1000 (hd Try.f34 0) ⟨[(0, .sl (.int .i64) o), (1, .int .i64 n), (5, .win true (.int .i64) 9 0 r.length), (10, .sl (.int .i64) o), (11, .int .i64 o.length), (12, .int .i64 i)], [(9, .row 3 (.int .i64) r)]⟩ =
    (bc (decide (i < (↑o.length : Int)))
 ((0 : Int) ≤ i ∧
 i < (↑o.length : Int) ∧
 bc (decide ((0 : Int) ≤ gt (Sh.int IntKind.i64) o i.toNat))
 (bc (bif true then decide (gt (Sh.int IntKind.i64) o i.toNat < n) else false)
 ((0 : Int) ≤ gt (Sh.int IntKind.i64) o i.toNat ∧
 gt (Sh.int IntKind.i64) o i.toNat < (↑r.length : Int) ∧
 (0 : Nat) + Int.toNat (gt (Sh.int IntKind.i64) o i.toNat) < r.length ∧
 R (hd Try.f34 (0 : Nat))
 {
 env :=
 [((0 : Nat), SV.sl (Sh.int IntKind.i64) o), ((1 : Nat), SV.int IntKind.i64 n),
 ((5 : Nat), SV.win true (Sh.int IntKind.i64) (9 : Nat) (0 : Nat) r.length),
 ((6 : Nat), SV.int IntKind.i64 i),
 ((7 : Nat), SV.int IntKind.i64 (gt (Sh.int IntKind.i64) o i.toNat)),
 ((10 : Nat), SV.sl (Sh.int IntKind.i64) o), ((11 : Nat), SV.int IntKind.i64 (↑o.length : Int)),
 ((12 : Nat), SV.int IntKind.i64 (IntKind.i64.wrap (i + (1 : Int)))),
 ((13 : Nat), SV.bool (decide (i < (↑o.length : Int)))), ((14 : Nat), SV.int IntKind.i64 i),
 ((15 : Nat), SV.elv (Sh.int IntKind.i64) (gt (Sh.int IntKind.i64) o i.toNat)),
 ((16 : Nat), SV.int IntKind.i64 (gt (Sh.int IntKind.i64) o i.toNat)),
 ((17 : Nat), SV.int IntKind.i64 (gt (Sh.int IntKind.i64) o i.toNat)),
 ((18 : Nat), SV.bool (decide ((0 : Int) ≤ gt (Sh.int IntKind.i64) o i.toNat))),
 ((19 : Nat), SV.bool true),
 ((20 : Nat), SV.int IntKind.i64 (gt (Sh.int IntKind.i64) o i.toNat)),
 ((21 : Nat), SV.int IntKind.i64 n),
 ((22 : Nat), SV.bool (decide (gt (Sh.int IntKind.i64) o i.toNat < n))),
 ((23 : Nat), SV.bool (bif true then decide (gt (Sh.int IntKind.i64) o i.toNat < n) else false)),
 ((24 : Nat), SV.win true (Sh.int IntKind.i64) (9 : Nat) (0 : Nat) r.length),
 ((25 : Nat), SV.int IntKind.i64 (gt (Sh.int IntKind.i64) o i.toNat)),
 ((26 : Nat), SV.int IntKind.i64 i),
 ((27 : Nat),
 SV.elp (Sh.int IntKind.i64) (9 : Nat)
 ((0 : Nat) + Int.toNat (gt (Sh.int IntKind.i64) o i.toNat)) (0 : Nat)),
 ((28 : Nat), SV.int IntKind.i64 (IntKind.i64.wrap (i + (1 : Int))))],
 blk :=
 [((9 : Nat),
 LB.row (3 : Nat) (Sh.int IntKind.i64)
 (r.set ((0 : Nat) + Int.toNat (gt (Sh.int IntKind.i64) o i.toNat)) i))] })
 (R (hd Try.f34 (0 : Nat))
 {
 env :=
 [((0 : Nat), SV.sl (Sh.int IntKind.i64) o), ((1 : Nat), SV.int IntKind.i64 n),
 ((5 : Nat), SV.win true (Sh.int IntKind.i64) (9 : Nat) (0 : Nat) r.length),
 ((6 : Nat), SV.int IntKind.i64 i),
 ((7 : Nat), SV.int IntKind.i64 (gt (Sh.int IntKind.i64) o i.toNat)),
 ((10 : Nat), SV.sl (Sh.int IntKind.i64) o), ((11 : Nat), SV.int IntKind.i64 (↑o.length : Int)),
 ((12 : Nat), SV.int IntKind.i64 (IntKind.i64.wrap (i + (1 : Int)))),
 ((13 : Nat), SV.bool (decide (i < (↑o.length : Int)))), ((14 : Nat), SV.int IntKind.i64 i),
 ((15 : Nat), SV.elv (Sh.int IntKind.i64) (gt (Sh.int IntKind.i64) o i.toNat)),
 ((16 : Nat), SV.int IntKind.i64 (gt (Sh.int IntKind.i64) o i.toNat)),
 ((17 : Nat), SV.int IntKind.i64 (gt (Sh.int IntKind.i64) o i.toNat)),
 ((18 : Nat), SV.bool (decide ((0 : Int) ≤ gt (Sh.int IntKind.i64) o i.toNat))),
 ((19 : Nat), SV.bool true), ((20 : Nat), SV.int IntKind.i64 (gt (Sh.int IntKind.i64) o i.toNat)),
 ((21 : Nat), SV.int IntKind.i64 n),
 ((22 : Nat), SV.bool (decide (gt (Sh.int IntKind.i64) o i.toNat < n))),
 ((23 : Nat), SV.bool (bif true then decide (gt (Sh.int IntKind.i64) o i.toNat < n) else false)),
 ((28 : Nat), SV.int IntKind.i64 (IntKind.i64.wrap (i + (1 : Int))))],
 blk := [((9 : Nat), LB.row (3 : Nat) (Sh.int IntKind.i64) r)] }))
 (false = false ∧
 R (hd Try.f34 (0 : Nat))
 {
 env :=
 [((0 : Nat), SV.sl (Sh.int IntKind.i64) o), ((1 : Nat), SV.int IntKind.i64 n),
 ((5 : Nat), SV.win true (Sh.int IntKind.i64) (9 : Nat) (0 : Nat) r.length),
 ((6 : Nat), SV.int IntKind.i64 i),
 ((7 : Nat), SV.int IntKind.i64 (gt (Sh.int IntKind.i64) o i.toNat)),
 ((10 : Nat), SV.sl (Sh.int IntKind.i64) o), ((11 : Nat), SV.int IntKind.i64 (↑o.length : Int)),
 ((12 : Nat), SV.int IntKind.i64 (IntKind.i64.wrap (i + (1 : Int)))),
 ((13 : Nat), SV.bool (decide (i < (↑o.length : Int)))), ((14 : Nat), SV.int IntKind.i64 i),
 ((15 : Nat), SV.elv (Sh.int IntKind.i64) (gt (Sh.int IntKind.i64) o i.toNat)),
 ((16 : Nat), SV.int IntKind.i64 (gt (Sh.int IntKind.i64) o i.toNat)),
 ((17 : Nat), SV.int IntKind.i64 (gt (Sh.int IntKind.i64) o i.toNat)),
 ((18 : Nat), SV.bool (decide ((0 : Int) ≤ gt (Sh.int IntKind.i64) o i.toNat))),
 ((19 : Nat), SV.bool false), ((23 : Nat), SV.bool false),
 ((28 : Nat), SV.int IntKind.i64 (IntKind.i64.wrap (i + (1 : Int))))],
 blk := [((9 : Nat), LB.row (3 : Nat) (Sh.int IntKind.i64) r)] }))
 (Q [SV.win true (Sh.int IntKind.i64) (9 : Nat) (0 : Nat) r.length]
 [((9 : Nat), LB.row (3 : Nat) (Sh.int IntKind.i64) r)])) := by kernel_rfl
theorem vc_ints (a b : List Int) (Q : List SV → List (Nat × LB) → Prop) (R : List Item → PS → Prop) : sy tt G0 [] Try.f13.ntmps Try.f13.results.toList Q R 1000 [.code (bodyOf Try.f13)] (entry [.sl (.int .i64), .sl (.int .i64)] (a, b, ())) =
    (bc (decide ((↑a.length : Int) ≠ (↑b.length : Int))) (Q [SV.bool false] [])
 (R (hd Try.f13 (0 : Nat))
 {
 env :=
 [((0 : Nat), SV.sl (Sh.int IntKind.i64) a), ((1 : Nat), SV.sl (Sh.int IntKind.i64) b),
 ((4 : Nat), SV.bool false), ((5 : Nat), SV.int IntKind.i64 (0 : Int)),
 ((6 : Nat), SV.sl (Sh.int IntKind.i64) a), ((7 : Nat), SV.int IntKind.i64 (↑a.length : Int)),
 ((8 : Nat), SV.sl (Sh.int IntKind.i64) b), ((9 : Nat), SV.int IntKind.i64 (↑b.length : Int)),
 ((10 : Nat), SV.bool (decide ((↑a.length : Int) ≠ (↑b.length : Int))))],
 blk := [] })) := by kernel_rfl
end Go.Proofs.Ytijeaicbnfiegaa
