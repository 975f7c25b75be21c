/-
  A part of the proof: what a piece of the program gives; conditions: those of each theorem.
-/
import Derived.Test.YtijeaicbnfiegaaSc20
set_option linter.unusedVariables false
namespace Go.Proofs.Ytijeaicbnfiegaa
open Go.Px Go.Ax
abbrev slP : Sh := .sl shP
abbrev rP : AK := .row 45 shP
abbrev cap24 : List AK := [.ptr [rP]]
abbrev K24 : List AK := .dat (.int .i64) :: .dat (.int .i64) :: cap24
set_option maxRecDepth 100000
theorem vc_pairsL (r : List Int) (n : Int) (p : List (List Int)) (i : Int) (Q : List SV → List (Nat × LB) → Prop) (R : List Item → PS → Prop) : sy tt G0 [] Try.f22.ntmps Try.f22.results.toList Q R 1000 (hd Try.f22 0) ⟨[(0, .sl (.int .i64) r), (1, .int .i64 n), (5, .win true shP 10 0 p.length), (11, .sl (.int .i64) r), (12, .int .i64 r.length), (13, .int .i64 i)], [(10, .row 45 shP p)]⟩ =
    (bc (decide (i < (↑r.length : Int)))
 ((0 : Int) ≤ i ∧
 i < (↑r.length : Int) ∧
 (0 : Int) ≤ i ∧
 i < (↑p.length : Int) ∧
 (0 : Nat) + i.toNat < p.length ∧
 bc (decide (IntKind.i64.wrap (i + n) < (↑r.length : Int)))
 ((0 : Int) ≤ IntKind.i64.wrap (i + n) ∧
 IntKind.i64.wrap (i + n) < (↑r.length : Int) ∧
 (0 : Int) ≤ i ∧
 i < (↑p.length : Int) ∧
 (0 : Int) ≤ (1 : Int) ∧
 (1 : Int) < (↑(2 : Nat) : Int) ∧
 (0 : Nat) + i.toNat <
 (p.set ((0 : Nat) + i.toNat)
 ((List.set (Sh.arr (2 : Nat) (Sh.int IntKind.i64)).dflt (0 : Nat)
 (gt (Sh.int IntKind.i64) r i.toNat)).set
 (1 : Nat) (-1 : Int))).length ∧
 R (hd Try.f22 (0 : Nat))
 {
 env :=
 [((0 : Nat), SV.sl (Sh.int IntKind.i64) r), ((1 : Nat), SV.int IntKind.i64 n),
 ((5 : Nat),
 SV.win true (Sh.arr (2 : Nat) (Sh.int IntKind.i64)) (10 : Nat) (0 : Nat)
 p.length),
 ((6 : Nat), SV.int IntKind.i64 i),
 ((7 : Nat), SV.int IntKind.i64 (gt (Sh.int IntKind.i64) r i.toNat)),
 ((11 : Nat), SV.sl (Sh.int IntKind.i64) r),
 ((12 : Nat), SV.int IntKind.i64 (↑r.length : Int)),
 ((13 : Nat), SV.int IntKind.i64 (IntKind.i64.wrap (i + (1 : Int)))),
 ((14 : Nat), SV.bool (decide (i < (↑r.length : Int)))),
 ((15 : Nat), SV.int IntKind.i64 i),
 ((16 : Nat), SV.elv (Sh.int IntKind.i64) (gt (Sh.int IntKind.i64) r i.toNat)),
 ((17 : Nat), SV.int IntKind.i64 (gt (Sh.int IntKind.i64) r i.toNat)),
 ((18 : Nat),
 SV.win true (Sh.arr (2 : Nat) (Sh.int IntKind.i64)) (10 : Nat) (0 : Nat)
 p.length),
 ((19 : Nat), SV.int IntKind.i64 i),
 ((20 : Nat), SV.int IntKind.i64 (gt (Sh.int IntKind.i64) r i.toNat)),
 ((21 : Nat),
 SV.arr (2 : Nat) (Sh.int IntKind.i64)
 ((List.set (Sh.arr (2 : Nat) (Sh.int IntKind.i64)).dflt (0 : Nat)
 (gt (Sh.int IntKind.i64) r i.toNat)).set
 (1 : Nat) (-1 : Int))),
 ((22 : Nat),
 SV.elp (Sh.arr (2 : Nat) (Sh.int IntKind.i64)) (10 : Nat) ((0 : Nat) + i.toNat)
 (0 : Nat)),
 ((23 : Nat), SV.int IntKind.i64 i), ((24 : Nat), SV.int IntKind.i64 n),
 ((25 : Nat), SV.int IntKind.i64 (IntKind.i64.wrap (i + n))),
 ((26 : Nat), SV.sl (Sh.int IntKind.i64) r),
 ((27 : Nat), SV.int IntKind.i64 (↑r.length : Int)),
 ((28 : Nat), SV.bool (decide (IntKind.i64.wrap (i + n) < (↑r.length : Int)))),
 ((29 : Nat),
 SV.win true (Sh.arr (2 : Nat) (Sh.int IntKind.i64)) (10 : Nat) (0 : Nat)
 p.length),
 ((30 : Nat), SV.int IntKind.i64 i), ((31 : Nat), SV.sl (Sh.int IntKind.i64) r),
 ((32 : Nat), SV.int IntKind.i64 i), ((33 : Nat), SV.int IntKind.i64 n),
 ((34 : Nat), SV.int IntKind.i64 (IntKind.i64.wrap (i + n))),
 ((35 : Nat),
 SV.elv (Sh.int IntKind.i64)
 (gt (Sh.int IntKind.i64) r (IntKind.i64.wrap (i + n)).toNat)),
 ((36 : Nat),
 SV.int IntKind.i64 (gt (Sh.int IntKind.i64) r (IntKind.i64.wrap (i + n)).toNat)),
 ((37 : Nat),
 SV.elp (Sh.arr (2 : Nat) (Sh.int IntKind.i64)) (10 : Nat) ((0 : Nat) + i.toNat)
 (0 : Nat)),
 ((38 : Nat),
 SV.elp (Sh.arr (2 : Nat) (Sh.int IntKind.i64)) (10 : Nat) ((0 : Nat) + i.toNat)
 (1 : Nat)),
 ((39 : Nat), SV.int IntKind.i64 (IntKind.i64.wrap (i + (1 : Int))))],
 blk :=
 [((10 : Nat),
 LB.row (45 : Nat) (Sh.arr (2 : Nat) (Sh.int IntKind.i64))
 ((p.set ((0 : Nat) + i.toNat)
 ((List.set (Sh.arr (2 : Nat) (Sh.int IntKind.i64)).dflt (0 : Nat)
 (gt (Sh.int IntKind.i64) r i.toNat)).set
 (1 : Nat) (-1 : Int))).set
 ((0 : Nat) + i.toNat)
 (List.set
 (gt (Sh.arr (2 : Nat) (Sh.int IntKind.i64))
 (p.set ((0 : Nat) + i.toNat)
 ((List.set (Sh.arr (2 : Nat) (Sh.int IntKind.i64)).dflt (0 : Nat)
 (gt (Sh.int IntKind.i64) r i.toNat)).set
 (1 : Nat) (-1 : Int)))
 ((0 : Nat) + i.toNat))
 (Int.toNat (1 : Int) * (1 : Nat))
 (gt (Sh.int IntKind.i64) r (IntKind.i64.wrap (i + n)).toNat))))] })
 (R (hd Try.f22 (0 : Nat))
 {
 env :=
 [((0 : Nat), SV.sl (Sh.int IntKind.i64) r), ((1 : Nat), SV.int IntKind.i64 n),
 ((5 : Nat), SV.win true (Sh.arr (2 : Nat) (Sh.int IntKind.i64)) (10 : Nat) (0 : Nat) p.length),
 ((6 : Nat), SV.int IntKind.i64 i),
 ((7 : Nat), SV.int IntKind.i64 (gt (Sh.int IntKind.i64) r i.toNat)),
 ((11 : Nat), SV.sl (Sh.int IntKind.i64) r), ((12 : Nat), SV.int IntKind.i64 (↑r.length : Int)),
 ((13 : Nat), SV.int IntKind.i64 (IntKind.i64.wrap (i + (1 : Int)))),
 ((14 : Nat), SV.bool (decide (i < (↑r.length : Int)))), ((15 : Nat), SV.int IntKind.i64 i),
 ((16 : Nat), SV.elv (Sh.int IntKind.i64) (gt (Sh.int IntKind.i64) r i.toNat)),
 ((17 : Nat), SV.int IntKind.i64 (gt (Sh.int IntKind.i64) r i.toNat)),
 ((18 : Nat), SV.win true (Sh.arr (2 : Nat) (Sh.int IntKind.i64)) (10 : Nat) (0 : Nat) p.length),
 ((19 : Nat), SV.int IntKind.i64 i),
 ((20 : Nat), SV.int IntKind.i64 (gt (Sh.int IntKind.i64) r i.toNat)),
 ((21 : Nat),
 SV.arr (2 : Nat) (Sh.int IntKind.i64)
 ((List.set (Sh.arr (2 : Nat) (Sh.int IntKind.i64)).dflt (0 : Nat)
 (gt (Sh.int IntKind.i64) r i.toNat)).set
 (1 : Nat) (-1 : Int))),
 ((22 : Nat),
 SV.elp (Sh.arr (2 : Nat) (Sh.int IntKind.i64)) (10 : Nat) ((0 : Nat) + i.toNat) (0 : Nat)),
 ((23 : Nat), SV.int IntKind.i64 i), ((24 : Nat), SV.int IntKind.i64 n),
 ((25 : Nat), SV.int IntKind.i64 (IntKind.i64.wrap (i + n))),
 ((26 : Nat), SV.sl (Sh.int IntKind.i64) r), ((27 : Nat), SV.int IntKind.i64 (↑r.length : Int)),
 ((28 : Nat), SV.bool (decide (IntKind.i64.wrap (i + n) < (↑r.length : Int)))),
 ((39 : Nat), SV.int IntKind.i64 (IntKind.i64.wrap (i + (1 : Int))))],
 blk :=
 [((10 : Nat),
 LB.row (45 : Nat) (Sh.arr (2 : Nat) (Sh.int IntKind.i64))
 (p.set ((0 : Nat) + i.toNat)
 ((List.set (Sh.arr (2 : Nat) (Sh.int IntKind.i64)).dflt (0 : Nat)
 (gt (Sh.int IntKind.i64) r i.toNat)).set
 (1 : Nat) (-1 : Int))))] }))
 (Q [SV.win true (Sh.arr (2 : Nat) (Sh.int IntKind.i64)) (10 : Nat) (0 : Nat) p.length]
 [((10 : Nat), LB.row (45 : Nat) (Sh.arr (2 : Nat) (Sh.int IntKind.i64)) p)])) := by kernel_rfl
theorem vc_ranksL (o : List Int) (p : List (List Int)) (r : List Int) (c i : Int) (Q : List SV → List (Nat × LB) → Prop) (R : List Item → PS → Prop) : sy tt G0 [] Try.f26.ntmps Try.f26.results.toList Q R 1000 (hd Try.f26 0) ⟨[(0, .sl (.int .i64) o), (1, .sl shP p), (5, .win true (.int .i64) 11 0 r.length), (6, .int .i64 c), (12, .sl (.int .i64) o), (13, .int .i64 o.length), (14, .int .i64 i)], [(11, .row 3 (.int .i64) r)]⟩ =
    (bc (decide (i < (↑o.length : Int)))
 ((0 : Int) ≤ i ∧
 i < (↑o.length : Int) ∧
 bc (decide ((0 : Int) < i))
 ((0 : Int) ≤ gt (Sh.int IntKind.i64) o i.toNat ∧
 gt (Sh.int IntKind.i64) o i.toNat < (↑p.length : Int) ∧
 (0 : Int) ≤ IntKind.i64.wrap (i - (1 : Int)) ∧
 IntKind.i64.wrap (i - (1 : Int)) < (↑o.length : Int) ∧
 (0 : Int) ≤ gt (Sh.int IntKind.i64) o (IntKind.i64.wrap (i - (1 : Int))).toNat ∧
 gt (Sh.int IntKind.i64) o (IntKind.i64.wrap (i - (1 : Int))).toNat < (↑p.length : Int) ∧
 bc
 (bif true then
 !decide
 (gt (Sh.arr (2 : Nat) (Sh.int IntKind.i64)) p
 (Int.toNat (gt (Sh.int IntKind.i64) o i.toNat)) =
 gt (Sh.arr (2 : Nat) (Sh.int IntKind.i64)) p
 (Int.toNat (gt (Sh.int IntKind.i64) o (IntKind.i64.wrap (i - (1 : Int))).toNat)))
 else false)
 ((0 : Int) ≤ gt (Sh.int IntKind.i64) o i.toNat ∧
 gt (Sh.int IntKind.i64) o i.toNat < (↑r.length : Int) ∧
 (0 : Nat) + Int.toNat (gt (Sh.int IntKind.i64) o i.toNat) < r.length ∧
 R (hd Try.f26 (0 : Nat))
 {
 env :=
 [((0 : Nat), SV.sl (Sh.int IntKind.i64) o),
 ((1 : Nat), SV.sl (Sh.arr (2 : Nat) (Sh.int IntKind.i64)) p),
 ((5 : Nat), SV.win true (Sh.int IntKind.i64) (11 : Nat) (0 : Nat) r.length),
 ((6 : Nat), SV.int IntKind.i64 (IntKind.i64.wrap (c + (1 : Int)))),
 ((7 : Nat), SV.int IntKind.i64 i),
 ((8 : Nat), SV.int IntKind.i64 (gt (Sh.int IntKind.i64) o i.toNat)),
 ((12 : Nat), SV.sl (Sh.int IntKind.i64) o),
 ((13 : Nat), SV.int IntKind.i64 (↑o.length : Int)),
 ((14 : Nat), SV.int IntKind.i64 (IntKind.i64.wrap (i + (1 : Int)))),
 ((15 : Nat), SV.bool (decide (i < (↑o.length : Int)))),
 ((16 : Nat), SV.int IntKind.i64 i),
 ((17 : Nat), SV.elv (Sh.int IntKind.i64) (gt (Sh.int IntKind.i64) o i.toNat)),
 ((18 : Nat), SV.int IntKind.i64 (gt (Sh.int IntKind.i64) o i.toNat)),
 ((19 : Nat), SV.int IntKind.i64 i), ((20 : Nat), SV.bool (decide ((0 : Int) < i))),
 ((21 : Nat), SV.bool true),
 ((22 : Nat), SV.sl (Sh.arr (2 : Nat) (Sh.int IntKind.i64)) p),
 ((23 : Nat), SV.int IntKind.i64 (gt (Sh.int IntKind.i64) o i.toNat)),
 ((24 : Nat),
 SV.elv (Sh.arr (2 : Nat) (Sh.int IntKind.i64))
 (gt (Sh.arr (2 : Nat) (Sh.int IntKind.i64)) p
 (Int.toNat (gt (Sh.int IntKind.i64) o i.toNat)))),
 ((25 : Nat),
 SV.arr (2 : Nat) (Sh.int IntKind.i64)
 (gt (Sh.arr (2 : Nat) (Sh.int IntKind.i64)) p
 (Int.toNat (gt (Sh.int IntKind.i64) o i.toNat)))),
 ((26 : Nat), SV.sl (Sh.arr (2 : Nat) (Sh.int IntKind.i64)) p),
 ((27 : Nat), SV.sl (Sh.int IntKind.i64) o), ((28 : Nat), SV.int IntKind.i64 i),
 ((29 : Nat), SV.int IntKind.i64 (IntKind.i64.wrap (i - (1 : Int)))),
 ((30 : Nat),
 SV.elv (Sh.int IntKind.i64)
 (gt (Sh.int IntKind.i64) o (IntKind.i64.wrap (i - (1 : Int))).toNat)),
 ((31 : Nat),
 SV.int IntKind.i64
 (gt (Sh.int IntKind.i64) o (IntKind.i64.wrap (i - (1 : Int))).toNat)),
 ((32 : Nat),
 SV.elv (Sh.arr (2 : Nat) (Sh.int IntKind.i64))
 (gt (Sh.arr (2 : Nat) (Sh.int IntKind.i64)) p
 (Int.toNat
 (gt (Sh.int IntKind.i64) o (IntKind.i64.wrap (i - (1 : Int))).toNat)))),
 ((33 : Nat),
 SV.arr (2 : Nat) (Sh.int IntKind.i64)
 (gt (Sh.arr (2 : Nat) (Sh.int IntKind.i64)) p
 (Int.toNat
 (gt (Sh.int IntKind.i64) o (IntKind.i64.wrap (i - (1 : Int))).toNat)))),
 ((34 : Nat),
 SV.bool
 !decide
 (gt (Sh.arr (2 : Nat) (Sh.int IntKind.i64)) p
 (Int.toNat (gt (Sh.int IntKind.i64) o i.toNat)) =
 gt (Sh.arr (2 : Nat) (Sh.int IntKind.i64)) p
 (Int.toNat
 (gt (Sh.int IntKind.i64) o
 (IntKind.i64.wrap (i - (1 : Int))).toNat)))),
 ((35 : Nat),
 SV.bool
 (bif true then
 !decide
 (gt (Sh.arr (2 : Nat) (Sh.int IntKind.i64)) p
 (Int.toNat (gt (Sh.int IntKind.i64) o i.toNat)) =
 gt (Sh.arr (2 : Nat) (Sh.int IntKind.i64)) p
 (Int.toNat
 (gt (Sh.int IntKind.i64) o
 (IntKind.i64.wrap (i - (1 : Int))).toNat)))
 else false)),
 ((36 : Nat), SV.int IntKind.i64 c),
 ((37 : Nat), SV.int IntKind.i64 (IntKind.i64.wrap (c + (1 : Int)))),
 ((38 : Nat), SV.win true (Sh.int IntKind.i64) (11 : Nat) (0 : Nat) r.length),
 ((39 : Nat), SV.int IntKind.i64 (gt (Sh.int IntKind.i64) o i.toNat)),
 ((40 : Nat), SV.int IntKind.i64 (IntKind.i64.wrap (c + (1 : Int)))),
 ((41 : Nat),
 SV.elp (Sh.int IntKind.i64) (11 : Nat)
 ((0 : Nat) + Int.toNat (gt (Sh.int IntKind.i64) o i.toNat)) (0 : Nat)),
 ((42 : Nat), SV.int IntKind.i64 (IntKind.i64.wrap (i + (1 : Int))))],
 blk :=
 [((11 : Nat),
 LB.row (3 : Nat) (Sh.int IntKind.i64)
 (r.set ((0 : Nat) + Int.toNat (gt (Sh.int IntKind.i64) o i.toNat))
 (IntKind.i64.wrap (c + (1 : Int)))))] })
 ((0 : Int) ≤ gt (Sh.int IntKind.i64) o i.toNat ∧
 gt (Sh.int IntKind.i64) o i.toNat < (↑r.length : Int) ∧
 (0 : Nat) + Int.toNat (gt (Sh.int IntKind.i64) o i.toNat) < r.length ∧
 R (hd Try.f26 (0 : Nat))
 {
 env :=
 [((0 : Nat), SV.sl (Sh.int IntKind.i64) o),
 ((1 : Nat), SV.sl (Sh.arr (2 : Nat) (Sh.int IntKind.i64)) p),
 ((5 : Nat), SV.win true (Sh.int IntKind.i64) (11 : Nat) (0 : Nat) r.length),
 ((6 : Nat), SV.int IntKind.i64 c), ((7 : Nat), SV.int IntKind.i64 i),
 ((8 : Nat), SV.int IntKind.i64 (gt (Sh.int IntKind.i64) o i.toNat)),
 ((12 : Nat), SV.sl (Sh.int IntKind.i64) o),
 ((13 : Nat), SV.int IntKind.i64 (↑o.length : Int)),
 ((14 : Nat), SV.int IntKind.i64 (IntKind.i64.wrap (i + (1 : Int)))),
 ((15 : Nat), SV.bool (decide (i < (↑o.length : Int)))),
 ((16 : Nat), SV.int IntKind.i64 i),
 ((17 : Nat), SV.elv (Sh.int IntKind.i64) (gt (Sh.int IntKind.i64) o i.toNat)),
 ((18 : Nat), SV.int IntKind.i64 (gt (Sh.int IntKind.i64) o i.toNat)),
 ((19 : Nat), SV.int IntKind.i64 i), ((20 : Nat), SV.bool (decide ((0 : Int) < i))),
 ((21 : Nat), SV.bool true),
 ((22 : Nat), SV.sl (Sh.arr (2 : Nat) (Sh.int IntKind.i64)) p),
 ((23 : Nat), SV.int IntKind.i64 (gt (Sh.int IntKind.i64) o i.toNat)),
 ((24 : Nat),
 SV.elv (Sh.arr (2 : Nat) (Sh.int IntKind.i64))
 (gt (Sh.arr (2 : Nat) (Sh.int IntKind.i64)) p
 (Int.toNat (gt (Sh.int IntKind.i64) o i.toNat)))),
 ((25 : Nat),
 SV.arr (2 : Nat) (Sh.int IntKind.i64)
 (gt (Sh.arr (2 : Nat) (Sh.int IntKind.i64)) p
 (Int.toNat (gt (Sh.int IntKind.i64) o i.toNat)))),
 ((26 : Nat), SV.sl (Sh.arr (2 : Nat) (Sh.int IntKind.i64)) p),
 ((27 : Nat), SV.sl (Sh.int IntKind.i64) o), ((28 : Nat), SV.int IntKind.i64 i),
 ((29 : Nat), SV.int IntKind.i64 (IntKind.i64.wrap (i - (1 : Int)))),
 ((30 : Nat),
 SV.elv (Sh.int IntKind.i64)
 (gt (Sh.int IntKind.i64) o (IntKind.i64.wrap (i - (1 : Int))).toNat)),
 ((31 : Nat),
 SV.int IntKind.i64
 (gt (Sh.int IntKind.i64) o (IntKind.i64.wrap (i - (1 : Int))).toNat)),
 ((32 : Nat),
 SV.elv (Sh.arr (2 : Nat) (Sh.int IntKind.i64))
 (gt (Sh.arr (2 : Nat) (Sh.int IntKind.i64)) p
 (Int.toNat
 (gt (Sh.int IntKind.i64) o (IntKind.i64.wrap (i - (1 : Int))).toNat)))),
 ((33 : Nat),
 SV.arr (2 : Nat) (Sh.int IntKind.i64)
 (gt (Sh.arr (2 : Nat) (Sh.int IntKind.i64)) p
 (Int.toNat
 (gt (Sh.int IntKind.i64) o (IntKind.i64.wrap (i - (1 : Int))).toNat)))),
 ((34 : Nat),
 SV.bool
 !decide
 (gt (Sh.arr (2 : Nat) (Sh.int IntKind.i64)) p
 (Int.toNat (gt (Sh.int IntKind.i64) o i.toNat)) =
 gt (Sh.arr (2 : Nat) (Sh.int IntKind.i64)) p
 (Int.toNat
 (gt (Sh.int IntKind.i64) o
 (IntKind.i64.wrap (i - (1 : Int))).toNat)))),
 ((35 : Nat),
 SV.bool
 (bif true then
 !decide
 (gt (Sh.arr (2 : Nat) (Sh.int IntKind.i64)) p
 (Int.toNat (gt (Sh.int IntKind.i64) o i.toNat)) =
 gt (Sh.arr (2 : Nat) (Sh.int IntKind.i64)) p
 (Int.toNat
 (gt (Sh.int IntKind.i64) o
 (IntKind.i64.wrap (i - (1 : Int))).toNat)))
 else false)),
 ((38 : Nat), SV.win true (Sh.int IntKind.i64) (11 : Nat) (0 : Nat) r.length),
 ((39 : Nat), SV.int IntKind.i64 (gt (Sh.int IntKind.i64) o i.toNat)),
 ((40 : Nat), SV.int IntKind.i64 c),
 ((41 : Nat),
 SV.elp (Sh.int IntKind.i64) (11 : Nat)
 ((0 : Nat) + Int.toNat (gt (Sh.int IntKind.i64) o i.toNat)) (0 : Nat)),
 ((42 : Nat), SV.int IntKind.i64 (IntKind.i64.wrap (i + (1 : Int))))],
 blk :=
 [((11 : Nat),
 LB.row (3 : Nat) (Sh.int IntKind.i64)
 (r.set ((0 : Nat) + Int.toNat (gt (Sh.int IntKind.i64) o i.toNat)) c))] }))
 (false = false ∧
 (0 : Int) ≤ gt (Sh.int IntKind.i64) o i.toNat ∧
 gt (Sh.int IntKind.i64) o i.toNat < (↑r.length : Int) ∧
 (0 : Nat) + Int.toNat (gt (Sh.int IntKind.i64) o i.toNat) < r.length ∧
 R (hd Try.f26 (0 : Nat))
 {
 env :=
 [((0 : Nat), SV.sl (Sh.int IntKind.i64) o),
 ((1 : Nat), SV.sl (Sh.arr (2 : Nat) (Sh.int IntKind.i64)) p),
 ((5 : Nat), SV.win true (Sh.int IntKind.i64) (11 : Nat) (0 : Nat) r.length),
 ((6 : Nat), SV.int IntKind.i64 c), ((7 : Nat), SV.int IntKind.i64 i),
 ((8 : Nat), SV.int IntKind.i64 (gt (Sh.int IntKind.i64) o i.toNat)),
 ((12 : Nat), SV.sl (Sh.int IntKind.i64) o), ((13 : Nat), SV.int IntKind.i64 (↑o.length : Int)),
 ((14 : Nat), SV.int IntKind.i64 (IntKind.i64.wrap (i + (1 : Int)))),
 ((15 : Nat), SV.bool (decide (i < (↑o.length : Int)))), ((16 : Nat), SV.int IntKind.i64 i),
 ((17 : Nat), SV.elv (Sh.int IntKind.i64) (gt (Sh.int IntKind.i64) o i.toNat)),
 ((18 : Nat), SV.int IntKind.i64 (gt (Sh.int IntKind.i64) o i.toNat)),
 ((19 : Nat), SV.int IntKind.i64 i), ((20 : Nat), SV.bool (decide ((0 : Int) < i))),
 ((21 : Nat), SV.bool false), ((35 : Nat), SV.bool false),
 ((38 : Nat), SV.win true (Sh.int IntKind.i64) (11 : Nat) (0 : Nat) r.length),
 ((39 : Nat), SV.int IntKind.i64 (gt (Sh.int IntKind.i64) o i.toNat)),
 ((40 : Nat), SV.int IntKind.i64 c),
 ((41 : Nat),
 SV.elp (Sh.int IntKind.i64) (11 : Nat)
 ((0 : Nat) + Int.toNat (gt (Sh.int IntKind.i64) o i.toNat)) (0 : Nat)),
 ((42 : Nat), SV.int IntKind.i64 (IntKind.i64.wrap (i + (1 : Int))))],
 blk :=
 [((11 : Nat),
 LB.row (3 : Nat) (Sh.int IntKind.i64)
 (r.set ((0 : Nat) + Int.toNat (gt (Sh.int IntKind.i64) o i.toNat)) c))] }))
 (Q [SV.win true (Sh.int IntKind.i64) (11 : Nat) (0 : Nat) r.length]
 [((11 : Nat), LB.row (3 : Nat) (Sh.int IntKind.i64) r)])) := by kernel_rfl
theorem vc_pb (i j : Int) (p : List (List Int)) (Q : List SV → List (Nat × LB) → Prop) (R : List Item → PS → Prop) : sy tt G0 D1 Try.f24.ntmps Try.f24.results.toList Q R 1000 [.code (bodyOf Try.f24)] (entryI K24 (i, j, (p, ()), ())) =
    ((0 : Int) ≤ i ∧
 i < (↑p.length : Int) ∧
 (0 : Nat) + i.toNat < p.length ∧
 (0 : Int) ≤ j ∧
 j < (↑p.length : Int) ∧
 (0 : Nat) + j.toNat < p.length ∧
 ctBef.pre
 (gt (Sh.arr (2 : Nat) (Sh.int IntKind.i64)) p ((0 : Nat) + i.toNat),
 gt (Sh.arr (2 : Nat) (Sh.int IntKind.i64)) p ((0 : Nat) + j.toNat), ()) ∧
 Q
 [SV.bool
 (pBef (gt (Sh.arr (2 : Nat) (Sh.int IntKind.i64)) p ((0 : Nat) + i.toNat))
 (gt (Sh.arr (2 : Nat) (Sh.int IntKind.i64)) p ((0 : Nat) + j.toNat)))]
 [((1099511627776 : Nat),
 LB.var
 [SV.win true (Sh.arr (2 : Nat) (Sh.int IntKind.i64)) (1099511627777 : Nat) (0 : Nat) p.length]),
 ((1099511627777 : Nat), LB.row (45 : Nat) (Sh.arr (2 : Nat) (Sh.int IntKind.i64)) p)]) := by kernel_rfl
end Go.Proofs.Ytijeaicbnfiegaa
