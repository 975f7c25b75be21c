/-
  A part of the proof: what a piece of the program gives; conditions: those of each theorem.
-/
import Derived.Test.YtijeaicbnfiegaaSc5
import Derived.Test.YtijeaicbnfiegaaHD
set_option linter.unusedVariables false
namespace Go.Proofs.Ytijeaicbnfiegaa
open Go.Px Go.Ax
abbrev capK : List AK := [.ptr [.dat slB], .ptr [.dat slI], .ptr [.dat slB], .ptr [.dat (.int .i64)]]
abbrev K28 : List AK := .dat (.int .i64) :: capK
abbrev fn28 : AK := .fn 28 [] capK
set_option maxRecDepth 100000
theorem vc_leastL (l : List Int) (m x i : Int) (Q : List SV → List (Nat × LB) → Prop) (R : List Item → PS → Prop) : sy tt G0 [] Try.f33.ntmps Try.f33.results.toList Q R 1000 (hd Try.f33 0) ⟨[(0, .sl (.int .i64) l), (3, .int .i64 m), (9, .sl (.int .i64) l), (10, .int .i64 l.length), (11, .int .i64 i)], []⟩ =
    (bc (decide (i < (↑l.length : Int)))
 ((0 : Int) ≤ i ∧
 i < (↑l.length : Int) ∧
 R (hd Try.f33 (0 : Nat))
 {
 env :=
 [((0 : Nat), SV.sl (Sh.int IntKind.i64) l),
 ((3 : Nat), SV.int IntKind.i64 (min m (gt (Sh.int IntKind.i64) l i.toNat))),
 ((5 : Nat), SV.int IntKind.i64 (gt (Sh.int IntKind.i64) l i.toNat)),
 ((9 : Nat), SV.sl (Sh.int IntKind.i64) l), ((10 : Nat), SV.int IntKind.i64 (↑l.length : Int)),
 ((11 : Nat), SV.int IntKind.i64 (IntKind.i64.wrap (i + (1 : Int)))),
 ((12 : Nat), SV.bool (decide (i < (↑l.length : Int)))),
 ((13 : Nat), SV.elv (Sh.int IntKind.i64) (gt (Sh.int IntKind.i64) l i.toNat)),
 ((14 : Nat), SV.int IntKind.i64 (gt (Sh.int IntKind.i64) l i.toNat)), ((15 : Nat), SV.int IntKind.i64 m),
 ((16 : Nat), SV.int IntKind.i64 (gt (Sh.int IntKind.i64) l i.toNat)),
 ((17 : Nat), SV.int IntKind.i64 (min m (gt (Sh.int IntKind.i64) l i.toNat))),
 ((18 : Nat), SV.int IntKind.i64 (IntKind.i64.wrap (i + (1 : Int))))],
 blk := [] })
 (Q [SV.int IntKind.i64 m] [])) := by kernel_rfl
theorem vc_st (k : Int) (b o s : List Int) (n : Int) (Q : List SV → List (Nat × LB) → Prop) (R : List Item → PS → Prop) : sy tt G0 C4 Try.f28.ntmps Try.f28.results.toList Q R 1000 [.code (bodyOf Try.f28)] (entryI K28 (k, (b, ()), (o, ()), (s, ()), (n, ()), ())) =
    ((0 : Int) ≤ k ∧
 k < (↑o.length : Int) ∧
 ctAt.pre (b, gt (Sh.int IntKind.i64) o k.toNat, ()) ∧
 (0 : Int) ≤ n ∧
 n ≤ (↑s.length : Int) ∧
 ctLcp.pre (sfx b (gt (Sh.int IntKind.i64) o k.toNat), List.take n.toNat s, ()) ∧
 Q [SV.bool (decide ((↑(lcp (sfx b (gt (Sh.int IntKind.i64) o k.toNat)) (List.take n.toNat s)) : Int) = n))]
 [((1099511627776 : Nat), LB.var [SV.sl (Sh.int IntKind.u8) b]),
 ((1099511627777 : Nat), LB.var [SV.sl (Sh.int IntKind.i64) o]),
 ((1099511627778 : Nat), LB.var [SV.sl (Sh.int IntKind.u8) s]),
 ((1099511627779 : Nat), LB.var [SV.int IntKind.i64 n])]) := by kernel_rfl
theorem vc_clo (b o s : List Int) (Q : List SV → List (Nat × LB) → Prop) (R : List Item → PS → Prop) : sy tt G0 C4 Try.f27.ntmps Try.f27.results.toList Q R 1000 [.code (bodyOf Try.f27)] (entry [slB, slI, slB] (b, o, s, ())) =
    (R (hd Try.f27 (0 : Nat))
 {
 env :=
 [((0 : Nat), SV.sl (Sh.int IntKind.u8) b), ((1 : Nat), SV.sl (Sh.int IntKind.i64) o),
 ((2 : Nat), SV.sl (Sh.int IntKind.u8) s), ((6 : Nat), SV.int IntKind.i64 (0 : Int)),
 ((7 : Nat), SV.int IntKind.i64 (0 : Int)), ((8 : Nat), SV.int IntKind.i64 (0 : Int)),
 ((9 : Nat), SV.int IntKind.i64 (↑o.length : Int)), ((13 : Nat), SV.sl (Sh.int IntKind.i64) o),
 ((14 : Nat), SV.int IntKind.i64 (↑o.length : Int))],
 blk := [] }) := by kernel_rfl
theorem vc_cloL (b o s : List Int) (best n low high : Int) (Q : List SV → List (Nat × LB) → Prop) (R : List Item → PS → Prop) : sy tt G0 C4 Try.f27.ntmps Try.f27.results.toList Q R 1000 (hd Try.f27 0) ⟨[(0, .sl (.int .u8) b), (1, .sl (.int .i64) o), (2, .sl (.int .u8) s), (6, .int .i64 best), (7, .int .i64 n), (8, .int .i64 low), (9, .int .i64 high)], []⟩ =
    (bc (decide (low < high))
 ((2 : Int) ≠ (0 : Int) ∧
 (0 : Int) ≤ IntKind.i64.wrap (low + IntKind.i64.wrap ((IntKind.i64.wrap (high - low)).tdiv (2 : Int))) ∧
 IntKind.i64.wrap (low + IntKind.i64.wrap ((IntKind.i64.wrap (high - low)).tdiv (2 : Int))) < (↑o.length : Int) ∧
 ctAt.pre
 (b,
 gt (Sh.int IntKind.i64) o
 (IntKind.i64.wrap (low + IntKind.i64.wrap ((IntKind.i64.wrap (high - low)).tdiv (2 : Int)))).toNat,
 ()) ∧
 ctLcp.pre
 (sfx b
 (gt (Sh.int IntKind.i64) o
 (IntKind.i64.wrap (low + IntKind.i64.wrap ((IntKind.i64.wrap (high - low)).tdiv (2 : Int)))).toNat),
 s, ()) ∧
 bc
 (decide
 (n <
 (↑(lcp
 (sfx b
 (gt (Sh.int IntKind.i64) o
 (IntKind.i64.wrap
 (low + IntKind.i64.wrap ((IntKind.i64.wrap (high - low)).tdiv (2 : Int)))).toNat))
 s) :
 Int)))
 (bc
 (decide
 ((↑(lcp
 (sfx b
 (gt (Sh.int IntKind.i64) o
 (IntKind.i64.wrap
 (low + IntKind.i64.wrap ((IntKind.i64.wrap (high - low)).tdiv (2 : Int)))).toNat))
 s) :
 Int) =
 (↑s.length : Int)))
 (Q
 [SV.int IntKind.i64
 (IntKind.i64.wrap (low + IntKind.i64.wrap ((IntKind.i64.wrap (high - low)).tdiv (2 : Int)))),
 SV.int IntKind.i64
 (↑(lcp
 (sfx b
 (gt (Sh.int IntKind.i64) o
 (IntKind.i64.wrap
 (low + IntKind.i64.wrap ((IntKind.i64.wrap (high - low)).tdiv (2 : Int)))).toNat))
 s) :
 Int)]
 [])
 (bc
 (decide
 ((↑(lcp
 (sfx b
 (gt (Sh.int IntKind.i64) o
 (IntKind.i64.wrap
 (low + IntKind.i64.wrap ((IntKind.i64.wrap (high - low)).tdiv (2 : Int)))).toNat))
 s) :
 Int) =
 (↑(sfx b
 (gt (Sh.int IntKind.i64) o
 (IntKind.i64.wrap
 (low +
 IntKind.i64.wrap
 ((IntKind.i64.wrap (high - low)).tdiv (2 : Int)))).toNat)).length :
 Int)))
 (true = true ∧
 R (hd Try.f27 (0 : Nat))
 {
 env :=
 [((0 : Nat), SV.sl (Sh.int IntKind.u8) b), ((1 : Nat), SV.sl (Sh.int IntKind.i64) o),
 ((2 : Nat), SV.sl (Sh.int IntKind.u8) s),
 ((6 : Nat),
 SV.int IntKind.i64
 (IntKind.i64.wrap
 (low + IntKind.i64.wrap ((IntKind.i64.wrap (high - low)).tdiv (2 : Int))))),
 ((7 : Nat),
 SV.int IntKind.i64
 (↑(lcp
 (sfx b
 (gt (Sh.int IntKind.i64) o
 (IntKind.i64.wrap
 (low +
 IntKind.i64.wrap
 ((IntKind.i64.wrap (high - low)).tdiv (2 : Int)))).toNat))
 s) :
 Int)),
 ((8 : Nat),
 SV.int IntKind.i64
 (IntKind.i64.wrap
 (IntKind.i64.wrap
 (low + IntKind.i64.wrap ((IntKind.i64.wrap (high - low)).tdiv (2 : Int))) +
 (1 : Int)))),
 ((9 : Nat), SV.int IntKind.i64 high),
 ((10 : Nat),
 SV.int IntKind.i64
 (IntKind.i64.wrap
 (low + IntKind.i64.wrap ((IntKind.i64.wrap (high - low)).tdiv (2 : Int))))),
 ((11 : Nat),
 SV.sl (Sh.int IntKind.u8)
 (sfx b
 (gt (Sh.int IntKind.i64) o
 (IntKind.i64.wrap
 (low +
 IntKind.i64.wrap ((IntKind.i64.wrap (high - low)).tdiv (2 : Int)))).toNat))),
 ((12 : Nat),
 SV.int IntKind.i64
 (↑(lcp
 (sfx b
 (gt (Sh.int IntKind.i64) o
 (IntKind.i64.wrap
 (low +
 IntKind.i64.wrap
 ((IntKind.i64.wrap (high - low)).tdiv (2 : Int)))).toNat))
 s) :
 Int)),
 ((15 : Nat), SV.int IntKind.i64 low), ((16 : Nat), SV.int IntKind.i64 high),
 ((17 : Nat), SV.bool (decide (low < high))), ((18 : Nat), SV.int IntKind.i64 low),
 ((19 : Nat), SV.int IntKind.i64 high), ((20 : Nat), SV.int IntKind.i64 low),
 ((21 : Nat), SV.int IntKind.i64 (IntKind.i64.wrap (high - low))),
 ((22 : Nat),
 SV.int IntKind.i64 (IntKind.i64.wrap ((IntKind.i64.wrap (high - low)).tdiv (2 : Int)))),
 ((23 : Nat),
 SV.int IntKind.i64
 (IntKind.i64.wrap
 (low + IntKind.i64.wrap ((IntKind.i64.wrap (high - low)).tdiv (2 : Int))))),
 ((24 : Nat), SV.sl (Sh.int IntKind.u8) b), ((25 : Nat), SV.sl (Sh.int IntKind.i64) o),
 ((26 : Nat),
 SV.int IntKind.i64
 (IntKind.i64.wrap
 (low + IntKind.i64.wrap ((IntKind.i64.wrap (high - low)).tdiv (2 : Int))))),
 ((27 : Nat),
 SV.elv (Sh.int IntKind.i64)
 (gt (Sh.int IntKind.i64) o
 (IntKind.i64.wrap
 (low +
 IntKind.i64.wrap ((IntKind.i64.wrap (high - low)).tdiv (2 : Int)))).toNat)),
 ((28 : Nat),
 SV.int IntKind.i64
 (gt (Sh.int IntKind.i64) o
 (IntKind.i64.wrap
 (low +
 IntKind.i64.wrap ((IntKind.i64.wrap (high - low)).tdiv (2 : Int)))).toNat)),
 ((29 : Nat),
 SV.sl (Sh.int IntKind.u8)
 (sfx b
 (gt (Sh.int IntKind.i64) o
 (IntKind.i64.wrap
 (low +
 IntKind.i64.wrap ((IntKind.i64.wrap (high - low)).tdiv (2 : Int)))).toNat))),
 ((30 : Nat),
 SV.sl (Sh.int IntKind.u8)
 (sfx b
 (gt (Sh.int IntKind.i64) o
 (IntKind.i64.wrap
 (low +
 IntKind.i64.wrap ((IntKind.i64.wrap (high - low)).tdiv (2 : Int)))).toNat))),
 ((31 : Nat), SV.sl (Sh.int IntKind.u8) s),
 ((32 : Nat),
 SV.int IntKind.i64
 (↑(lcp
 (sfx b
 (gt (Sh.int IntKind.i64) o
 (IntKind.i64.wrap
 (low +
 IntKind.i64.wrap
 ((IntKind.i64.wrap (high - low)).tdiv (2 : Int)))).toNat))
 s) :
 Int)),
 ((33 : Nat),
 SV.int IntKind.i64
 (↑(lcp
 (sfx b
 (gt (Sh.int IntKind.i64) o
 (IntKind.i64.wrap
 (low +
 IntKind.i64.wrap
 ((IntKind.i64.wrap (high - low)).tdiv (2 : Int)))).toNat))
 s) :
 Int)),
 ((34 : Nat), SV.int IntKind.i64 n),
 ((35 : Nat),
 SV.bool
 (decide
 (n <
 (↑(lcp
 (sfx b
 (gt (Sh.int IntKind.i64) o
 (IntKind.i64.wrap
 (low +
 IntKind.i64.wrap
 ((IntKind.i64.wrap (high - low)).tdiv (2 : Int)))).toNat))
 s) :
 Int)))),
 ((36 : Nat),
 SV.int IntKind.i64
 (IntKind.i64.wrap
 (low + IntKind.i64.wrap ((IntKind.i64.wrap (high - low)).tdiv (2 : Int))))),
 ((37 : Nat),
 SV.int IntKind.i64
 (↑(lcp
 (sfx b
 (gt (Sh.int IntKind.i64) o
 (IntKind.i64.wrap
 (low +
 IntKind.i64.wrap
 ((IntKind.i64.wrap (high - low)).tdiv (2 : Int)))).toNat))
 s) :
 Int)),
 ((39 : Nat),
 SV.bool
 (decide
 ((↑(lcp
 (sfx b
 (gt (Sh.int IntKind.i64) o
 (IntKind.i64.wrap
 (low +
 IntKind.i64.wrap
 ((IntKind.i64.wrap (high - low)).tdiv (2 : Int)))).toNat))
 s) :
 Int) =
 (↑s.length : Int)))),
 ((40 : Nat),
 SV.int IntKind.i64
 (↑(lcp
 (sfx b
 (gt (Sh.int IntKind.i64) o
 (IntKind.i64.wrap
 (low +
 IntKind.i64.wrap
 ((IntKind.i64.wrap (high - low)).tdiv (2 : Int)))).toNat))
 s) :
 Int)),
 ((41 : Nat), SV.sl (Sh.int IntKind.u8) s),
 ((42 : Nat), SV.int IntKind.i64 (↑s.length : Int)),
 ((43 : Nat),
 SV.bool
 (decide
 ((↑(lcp
 (sfx b
 (gt (Sh.int IntKind.i64) o
 (IntKind.i64.wrap
 (low +
 IntKind.i64.wrap
 ((IntKind.i64.wrap (high - low)).tdiv (2 : Int)))).toNat))
 s) :
 Int) =
 (↑s.length : Int)))),
 ((44 : Nat), SV.bool true),
 ((45 : Nat),
 SV.int IntKind.i64
 (↑(lcp
 (sfx b
 (gt (Sh.int IntKind.i64) o
 (IntKind.i64.wrap
 (low +
 IntKind.i64.wrap
 ((IntKind.i64.wrap (high - low)).tdiv (2 : Int)))).toNat))
 s) :
 Int)),
 ((46 : Nat),
 SV.sl (Sh.int IntKind.u8)
 (sfx b
 (gt (Sh.int IntKind.i64) o
 (IntKind.i64.wrap
 (low +
 IntKind.i64.wrap ((IntKind.i64.wrap (high - low)).tdiv (2 : Int)))).toNat))),
 ((47 : Nat),
 SV.int IntKind.i64
 (↑(sfx b
 (gt (Sh.int IntKind.i64) o
 (IntKind.i64.wrap
 (low +
 IntKind.i64.wrap
 ((IntKind.i64.wrap (high - low)).tdiv (2 : Int)))).toNat)).length :
 Int)),
 ((48 : Nat),
 SV.bool
 (decide
 ((↑(lcp
 (sfx b
 (gt (Sh.int IntKind.i64) o
 (IntKind.i64.wrap
 (low +
 IntKind.i64.wrap
 ((IntKind.i64.wrap (high - low)).tdiv (2 : Int)))).toNat))
 s) :
 Int) =
 (↑(sfx b
 (gt (Sh.int IntKind.i64) o
 (IntKind.i64.wrap
 (low +
 IntKind.i64.wrap
 ((IntKind.i64.wrap (high - low)).tdiv
 (2 : Int)))).toNat)).length :
 Int)))),
 ((49 : Nat), SV.bool true), ((59 : Nat), SV.bool true),
 ((60 : Nat),
 SV.int IntKind.i64
 (IntKind.i64.wrap
 (low + IntKind.i64.wrap ((IntKind.i64.wrap (high - low)).tdiv (2 : Int))))),
 ((61 : Nat),
 SV.int IntKind.i64
 (IntKind.i64.wrap
 (IntKind.i64.wrap
 (low + IntKind.i64.wrap ((IntKind.i64.wrap (high - low)).tdiv (2 : Int))) +
 (1 : Int))))],
 blk := [] })
 ((0 : Int) ≤
 (↑(lcp
 (sfx b
 (gt (Sh.int IntKind.i64) o
 (IntKind.i64.wrap
 (low + IntKind.i64.wrap ((IntKind.i64.wrap (high - low)).tdiv (2 : Int)))).toNat))
 s) :
 Int) ∧
 (↑(lcp
 (sfx b
 (gt (Sh.int IntKind.i64) o
 (IntKind.i64.wrap
 (low + IntKind.i64.wrap ((IntKind.i64.wrap (high - low)).tdiv (2 : Int)))).toNat))
 s) :
 Int) <
 (↑(sfx b
 (gt (Sh.int IntKind.i64) o
 (IntKind.i64.wrap
 (low +
 IntKind.i64.wrap
 ((IntKind.i64.wrap (high - low)).tdiv (2 : Int)))).toNat)).length :
 Int) ∧
 (0 : Int) ≤
 (↑(lcp
 (sfx b
 (gt (Sh.int IntKind.i64) o
 (IntKind.i64.wrap
 (low +
 IntKind.i64.wrap ((IntKind.i64.wrap (high - low)).tdiv (2 : Int)))).toNat))
 s) :
 Int) ∧
 (↑(lcp
 (sfx b
 (gt (Sh.int IntKind.i64) o
 (IntKind.i64.wrap
 (low +
 IntKind.i64.wrap ((IntKind.i64.wrap (high - low)).tdiv (2 : Int)))).toNat))
 s) :
 Int) <
 (↑s.length : Int) ∧
 bc
 (bif false then true
 else
 decide
 (gt (Sh.int IntKind.u8)
 (sfx b
 (gt (Sh.int IntKind.i64) o
 (IntKind.i64.wrap
 (low +
 IntKind.i64.wrap
 ((IntKind.i64.wrap (high - low)).tdiv (2 : Int)))).toNat))
 (↑(lcp
 (sfx b
 (gt (Sh.int IntKind.i64) o
 (IntKind.i64.wrap
 (low +
 IntKind.i64.wrap
 ((IntKind.i64.wrap (high - low)).tdiv (2 : Int)))).toNat))
 s) :
 Int).toNat <
 gt (Sh.int IntKind.u8) s
 (↑(lcp
 (sfx b
 (gt (Sh.int IntKind.i64) o
 (IntKind.i64.wrap
 (low +
 IntKind.i64.wrap
 ((IntKind.i64.wrap (high - low)).tdiv (2 : Int)))).toNat))
 s) :
 Int).toNat))
 (R (hd Try.f27 (0 : Nat))
 {
 env :=
 [((0 : Nat), SV.sl (Sh.int IntKind.u8) b), ((1 : Nat), SV.sl (Sh.int IntKind.i64) o),
 ((2 : Nat), SV.sl (Sh.int IntKind.u8) s),
 ((6 : Nat),
 SV.int IntKind.i64
 (IntKind.i64.wrap
 (low + IntKind.i64.wrap ((IntKind.i64.wrap (high - low)).tdiv (2 : Int))))),
 ((7 : Nat),
 SV.int IntKind.i64
 (↑(lcp
 (sfx b
 (gt (Sh.int IntKind.i64) o
 (IntKind.i64.wrap
 (low +
 IntKind.i64.wrap
 ((IntKind.i64.wrap (high - low)).tdiv (2 : Int)))).toNat))
 s) :
 Int)),
 ((8 : Nat),
 SV.int IntKind.i64
 (IntKind.i64.wrap
 (IntKind.i64.wrap
 (low +
 IntKind.i64.wrap ((IntKind.i64.wrap (high - low)).tdiv (2 : Int))) +
 (1 : Int)))),
 ((9 : Nat), SV.int IntKind.i64 high),
 ((10 : Nat),
 SV.int IntKind.i64
 (IntKind.i64.wrap
 (low + IntKind.i64.wrap ((IntKind.i64.wrap (high - low)).tdiv (2 : Int))))),
 ((11 : Nat),
 SV.sl (Sh.int IntKind.u8)
 (sfx b
 (gt (Sh.int IntKind.i64) o
 (IntKind.i64.wrap
 (low +
 IntKind.i64.wrap
 ((IntKind.i64.wrap (high - low)).tdiv (2 : Int)))).toNat))),
 ((12 : Nat),
 SV.int IntKind.i64
 (↑(lcp
 (sfx b
 (gt (Sh.int IntKind.i64) o
 (IntKind.i64.wrap
 (low +
 IntKind.i64.wrap
 ((IntKind.i64.wrap (high - low)).tdiv (2 : Int)))).toNat))
 s) :
 Int)),
 ((15 : Nat), SV.int IntKind.i64 low), ((16 : Nat), SV.int IntKind.i64 high),
 ((17 : Nat), SV.bool (decide (low < high))), ((18 : Nat), SV.int IntKind.i64 low),
 ((19 : Nat), SV.int IntKind.i64 high), ((20 : Nat), SV.int IntKind.i64 low),
 ((21 : Nat), SV.int IntKind.i64 (IntKind.i64.wrap (high - low))),
 ((22 : Nat),
 SV.int IntKind.i64
 (IntKind.i64.wrap ((IntKind.i64.wrap (high - low)).tdiv (2 : Int)))),
 ((23 : Nat),
 SV.int IntKind.i64
 (IntKind.i64.wrap
 (low + IntKind.i64.wrap ((IntKind.i64.wrap (high - low)).tdiv (2 : Int))))),
 ((24 : Nat), SV.sl (Sh.int IntKind.u8) b),
 ((25 : Nat), SV.sl (Sh.int IntKind.i64) o),
 ((26 : Nat),
 SV.int IntKind.i64
 (IntKind.i64.wrap
 (low + IntKind.i64.wrap ((IntKind.i64.wrap (high - low)).tdiv (2 : Int))))),
 ((27 : Nat),
 SV.elv (Sh.int IntKind.i64)
 (gt (Sh.int IntKind.i64) o
 (IntKind.i64.wrap
 (low +
 IntKind.i64.wrap
 ((IntKind.i64.wrap (high - low)).tdiv (2 : Int)))).toNat)),
 ((28 : Nat),
 SV.int IntKind.i64
 (gt (Sh.int IntKind.i64) o
 (IntKind.i64.wrap
 (low +
 IntKind.i64.wrap
 ((IntKind.i64.wrap (high - low)).tdiv (2 : Int)))).toNat)),
 ((29 : Nat),
 SV.sl (Sh.int IntKind.u8)
 (sfx b
 (gt (Sh.int IntKind.i64) o
 (IntKind.i64.wrap
 (low +
 IntKind.i64.wrap
 ((IntKind.i64.wrap (high - low)).tdiv (2 : Int)))).toNat))),
 ((30 : Nat),
 SV.sl (Sh.int IntKind.u8)
 (sfx b
 (gt (Sh.int IntKind.i64) o
 (IntKind.i64.wrap
 (low +
 IntKind.i64.wrap
 ((IntKind.i64.wrap (high - low)).tdiv (2 : Int)))).toNat))),
 ((31 : Nat), SV.sl (Sh.int IntKind.u8) s),
 ((32 : Nat),
 SV.int IntKind.i64
 (↑(lcp
 (sfx b
 (gt (Sh.int IntKind.i64) o
 (IntKind.i64.wrap
 (low +
 IntKind.i64.wrap
 ((IntKind.i64.wrap (high - low)).tdiv (2 : Int)))).toNat))
 s) :
 Int)),
 ((33 : Nat),
 SV.int IntKind.i64
 (↑(lcp
 (sfx b
 (gt (Sh.int IntKind.i64) o
 (IntKind.i64.wrap
 (low +
 IntKind.i64.wrap
 ((IntKind.i64.wrap (high - low)).tdiv (2 : Int)))).toNat))
 s) :
 Int)),
 ((34 : Nat), SV.int IntKind.i64 n),
 ((35 : Nat),
 SV.bool
 (decide
 (n <
 (↑(lcp
 (sfx b
 (gt (Sh.int IntKind.i64) o
 (IntKind.i64.wrap
 (low +
 IntKind.i64.wrap
 ((IntKind.i64.wrap (high - low)).tdiv (2 : Int)))).toNat))
 s) :
 Int)))),
 ((36 : Nat),
 SV.int IntKind.i64
 (IntKind.i64.wrap
 (low + IntKind.i64.wrap ((IntKind.i64.wrap (high - low)).tdiv (2 : Int))))),
 ((37 : Nat),
 SV.int IntKind.i64
 (↑(lcp
 (sfx b
 (gt (Sh.int IntKind.i64) o
 (IntKind.i64.wrap
 (low +
 IntKind.i64.wrap
 ((IntKind.i64.wrap (high - low)).tdiv (2 : Int)))).toNat))
 s) :
 Int)),
 ((39 : Nat),
 SV.bool
 (decide
 ((↑(lcp
 (sfx b
 (gt (Sh.int IntKind.i64) o
 (IntKind.i64.wrap
 (low +
 IntKind.i64.wrap
 ((IntKind.i64.wrap (high - low)).tdiv (2 : Int)))).toNat))
 s) :
 Int) =
 (↑s.length : Int)))),
 ((40 : Nat),
 SV.int IntKind.i64
 (↑(lcp
 (sfx b
 (gt (Sh.int IntKind.i64) o
 (IntKind.i64.wrap
 (low +
 IntKind.i64.wrap
 ((IntKind.i64.wrap (high - low)).tdiv (2 : Int)))).toNat))
 s) :
 Int)),
 ((41 : Nat), SV.sl (Sh.int IntKind.u8) s),
 ((42 : Nat), SV.int IntKind.i64 (↑s.length : Int)),
 ((43 : Nat),
 SV.bool
 (decide
 ((↑(lcp
 (sfx b
 (gt (Sh.int IntKind.i64) o
 (IntKind.i64.wrap
 (low +
 IntKind.i64.wrap
 ((IntKind.i64.wrap (high - low)).tdiv (2 : Int)))).toNat))
 s) :
 Int) =
 (↑s.length : Int)))),
 ((44 : Nat),
 SV.bool
 (bif false then true
 else
 decide
 (gt (Sh.int IntKind.u8)
 (sfx b
 (gt (Sh.int IntKind.i64) o
 (IntKind.i64.wrap
 (low +
 IntKind.i64.wrap
 ((IntKind.i64.wrap (high - low)).tdiv (2 : Int)))).toNat))
 (↑(lcp
 (sfx b
 (gt (Sh.int IntKind.i64) o
 (IntKind.i64.wrap
 (low +
 IntKind.i64.wrap
 ((IntKind.i64.wrap (high - low)).tdiv
 (2 : Int)))).toNat))
 s) :
 Int).toNat <
 gt (Sh.int IntKind.u8) s
 (↑(lcp
 (sfx b
 (gt (Sh.int IntKind.i64) o
 (IntKind.i64.wrap
 (low +
 IntKind.i64.wrap
 ((IntKind.i64.wrap (high - low)).tdiv
 (2 : Int)))).toNat))
 s) :
 Int).toNat))),
 ((45 : Nat),
 SV.int IntKind.i64
 (↑(lcp
 (sfx b
 (gt (Sh.int IntKind.i64) o
 (IntKind.i64.wrap
 (low +
 IntKind.i64.wrap
 ((IntKind.i64.wrap (high - low)).tdiv (2 : Int)))).toNat))
 s) :
 Int)),
 ((46 : Nat),
 SV.sl (Sh.int IntKind.u8)
 (sfx b
 (gt (Sh.int IntKind.i64) o
 (IntKind.i64.wrap
 (low +
 IntKind.i64.wrap
 ((IntKind.i64.wrap (high - low)).tdiv (2 : Int)))).toNat))),
 ((47 : Nat),
 SV.int IntKind.i64
 (↑(sfx b
 (gt (Sh.int IntKind.i64) o
 (IntKind.i64.wrap
 (low +
 IntKind.i64.wrap
 ((IntKind.i64.wrap (high - low)).tdiv
 (2 : Int)))).toNat)).length :
 Int)),
 ((48 : Nat),
 SV.bool
 (decide
 ((↑(lcp
 (sfx b
 (gt (Sh.int IntKind.i64) o
 (IntKind.i64.wrap
 (low +
 IntKind.i64.wrap
 ((IntKind.i64.wrap (high - low)).tdiv (2 : Int)))).toNat))
 s) :
 Int) =
 (↑(sfx b
 (gt (Sh.int IntKind.i64) o
 (IntKind.i64.wrap
 (low +
 IntKind.i64.wrap
 ((IntKind.i64.wrap (high - low)).tdiv
 (2 : Int)))).toNat)).length :
 Int)))),
 ((49 : Nat), SV.bool false),
 ((50 : Nat),
 SV.sl (Sh.int IntKind.u8)
 (sfx b
 (gt (Sh.int IntKind.i64) o
 (IntKind.i64.wrap
 (low +
 IntKind.i64.wrap
 ((IntKind.i64.wrap (high - low)).tdiv (2 : Int)))).toNat))),
 ((51 : Nat),
 SV.int IntKind.i64
 (↑(lcp
 (sfx b
 (gt (Sh.int IntKind.i64) o
 (IntKind.i64.wrap
 (low +
 IntKind.i64.wrap
 ((IntKind.i64.wrap (high - low)).tdiv (2 : Int)))).toNat))
 s) :
 Int)),
 ((52 : Nat),
 SV.elv (Sh.int IntKind.u8)
 (gt (Sh.int IntKind.u8)
 (sfx b
 (gt (Sh.int IntKind.i64) o
 (IntKind.i64.wrap
 (low +
 IntKind.i64.wrap
 ((IntKind.i64.wrap (high - low)).tdiv (2 : Int)))).toNat))
 (↑(lcp
 (sfx b
 (gt (Sh.int IntKind.i64) o
 (IntKind.i64.wrap
 (low +
 IntKind.i64.wrap
 ((IntKind.i64.wrap (high - low)).tdiv (2 : Int)))).toNat))
 s) :
 Int).toNat)),
 ((53 : Nat),
 SV.int IntKind.u8
 (gt (Sh.int IntKind.u8)
 (sfx b
 (gt (Sh.int IntKind.i64) o
 (IntKind.i64.wrap
 (low +
 IntKind.i64.wrap
 ((IntKind.i64.wrap (high - low)).tdiv (2 : Int)))).toNat))
 (↑(lcp
 (sfx b
 (gt (Sh.int IntKind.i64) o
 (IntKind.i64.wrap
 (low +
 IntKind.i64.wrap
 ((IntKind.i64.wrap (high - low)).tdiv (2 : Int)))).toNat))
 s) :
 Int).toNat)),
 ((54 : Nat), SV.sl (Sh.int IntKind.u8) s),
 ((55 : Nat),
 SV.int IntKind.i64
 (↑(lcp
 (sfx b
 (gt (Sh.int IntKind.i64) o
 (IntKind.i64.wrap
 (low +
 IntKind.i64.wrap
 ((IntKind.i64.wrap (high - low)).tdiv (2 : Int)))).toNat))
 s) :
 Int)),
 ((56 : Nat),
 SV.elv (Sh.int IntKind.u8)
 (gt (Sh.int IntKind.u8) s
 (↑(lcp
 (sfx b
 (gt (Sh.int IntKind.i64) o
 (IntKind.i64.wrap
 (low +
 IntKind.i64.wrap
 ((IntKind.i64.wrap (high - low)).tdiv (2 : Int)))).toNat))
 s) :
 Int).toNat)),
 ((57 : Nat),
 SV.int IntKind.u8
 (gt (Sh.int IntKind.u8) s
 (↑(lcp
 (sfx b
 (gt (Sh.int IntKind.i64) o
 (IntKind.i64.wrap
 (low +
 IntKind.i64.wrap
 ((IntKind.i64.wrap (high - low)).tdiv (2 : Int)))).toNat))
 s) :
 Int).toNat)),
 ((58 : Nat),
 SV.bool
 (decide
 (gt (Sh.int IntKind.u8)
 (sfx b
 (gt (Sh.int IntKind.i64) o
 (IntKind.i64.wrap
 (low +
 IntKind.i64.wrap
 ((IntKind.i64.wrap (high - low)).tdiv (2 : Int)))).toNat))
 (↑(lcp
 (sfx b
 (gt (Sh.int IntKind.i64) o
 (IntKind.i64.wrap
 (low +
 IntKind.i64.wrap
 ((IntKind.i64.wrap (high - low)).tdiv
 (2 : Int)))).toNat))
 s) :
 Int).toNat <
 gt (Sh.int IntKind.u8) s
 (↑(lcp
 (sfx b
 (gt (Sh.int IntKind.i64) o
 (IntKind.i64.wrap
 (low +
 IntKind.i64.wrap
 ((IntKind.i64.wrap (high - low)).tdiv
 (2 : Int)))).toNat))
 s) :
 Int).toNat))),
 ((59 : Nat),
 SV.bool
 (bif false then true
 else
 decide
 (gt (Sh.int IntKind.u8)
 (sfx b
 (gt (Sh.int IntKind.i64) o
 (IntKind.i64.wrap
 (low +
 IntKind.i64.wrap
 ((IntKind.i64.wrap (high - low)).tdiv (2 : Int)))).toNat))
 (↑(lcp
 (sfx b
 (gt (Sh.int IntKind.i64) o
 (IntKind.i64.wrap
 (low +
 IntKind.i64.wrap
 ((IntKind.i64.wrap (high - low)).tdiv
 (2 : Int)))).toNat))
 s) :
 Int).toNat <
 gt (Sh.int IntKind.u8) s
 (↑(lcp
 (sfx b
 (gt (Sh.int IntKind.i64) o
 (IntKind.i64.wrap
 (low +
 IntKind.i64.wrap
 ((IntKind.i64.wrap (high - low)).tdiv
 (2 : Int)))).toNat))
 s) :
 Int).toNat))),
 ((60 : Nat),
 SV.int IntKind.i64
 (IntKind.i64.wrap
 (low + IntKind.i64.wrap ((IntKind.i64.wrap (high - low)).tdiv (2 : Int))))),
 ((61 : Nat),
 SV.int IntKind.i64
 (IntKind.i64.wrap
 (IntKind.i64.wrap
 (low +
 IntKind.i64.wrap ((IntKind.i64.wrap (high - low)).tdiv (2 : Int))) +
 (1 : Int))))],
 blk := [] })
 (R (hd Try.f27 (0 : Nat))
 {
 env :=
 [((0 : Nat), SV.sl (Sh.int IntKind.u8) b), ((1 : Nat), SV.sl (Sh.int IntKind.i64) o),
 ((2 : Nat), SV.sl (Sh.int IntKind.u8) s),
 ((6 : Nat),
 SV.int IntKind.i64
 (IntKind.i64.wrap
 (low + IntKind.i64.wrap ((IntKind.i64.wrap (high - low)).tdiv (2 : Int))))),
 ((7 : Nat),
 SV.int IntKind.i64
 (↑(lcp
 (sfx b
 (gt (Sh.int IntKind.i64) o
 (IntKind.i64.wrap
 (low +
 IntKind.i64.wrap
 ((IntKind.i64.wrap (high - low)).tdiv (2 : Int)))).toNat))
 s) :
 Int)),
 ((8 : Nat), SV.int IntKind.i64 low),
 ((9 : Nat),
 SV.int IntKind.i64
 (IntKind.i64.wrap
 (low + IntKind.i64.wrap ((IntKind.i64.wrap (high - low)).tdiv (2 : Int))))),
 ((10 : Nat),
 SV.int IntKind.i64
 (IntKind.i64.wrap
 (low + IntKind.i64.wrap ((IntKind.i64.wrap (high - low)).tdiv (2 : Int))))),
 ((11 : Nat),
 SV.sl (Sh.int IntKind.u8)
 (sfx b
 (gt (Sh.int IntKind.i64) o
 (IntKind.i64.wrap
 (low +
 IntKind.i64.wrap
 ((IntKind.i64.wrap (high - low)).tdiv (2 : Int)))).toNat))),
 ((12 : Nat),
 SV.int IntKind.i64
 (↑(lcp
 (sfx b
 (gt (Sh.int IntKind.i64) o
 (IntKind.i64.wrap
 (low +
 IntKind.i64.wrap
 ((IntKind.i64.wrap (high - low)).tdiv (2 : Int)))).toNat))
 s) :
 Int)),
 ((15 : Nat), SV.int IntKind.i64 low), ((16 : Nat), SV.int IntKind.i64 high),
 ((17 : Nat), SV.bool (decide (low < high))), ((18 : Nat), SV.int IntKind.i64 low),
 ((19 : Nat), SV.int IntKind.i64 high), ((20 : Nat), SV.int IntKind.i64 low),
 ((21 : Nat), SV.int IntKind.i64 (IntKind.i64.wrap (high - low))),
 ((22 : Nat),
 SV.int IntKind.i64
 (IntKind.i64.wrap ((IntKind.i64.wrap (high - low)).tdiv (2 : Int)))),
 ((23 : Nat),
 SV.int IntKind.i64
 (IntKind.i64.wrap
 (low + IntKind.i64.wrap ((IntKind.i64.wrap (high - low)).tdiv (2 : Int))))),
 ((24 : Nat), SV.sl (Sh.int IntKind.u8) b),
 ((25 : Nat), SV.sl (Sh.int IntKind.i64) o),
 ((26 : Nat),
 SV.int IntKind.i64
 (IntKind.i64.wrap
 (low + IntKind.i64.wrap ((IntKind.i64.wrap (high - low)).tdiv (2 : Int))))),
 ((27 : Nat),
 SV.elv (Sh.int IntKind.i64)
 (gt (Sh.int IntKind.i64) o
 (IntKind.i64.wrap
 (low +
 IntKind.i64.wrap
 ((IntKind.i64.wrap (high - low)).tdiv (2 : Int)))).toNat)),
 ((28 : Nat),
 SV.int IntKind.i64
 (gt (Sh.int IntKind.i64) o
 (IntKind.i64.wrap
 (low +
 IntKind.i64.wrap
 ((IntKind.i64.wrap (high - low)).tdiv (2 : Int)))).toNat)),
 ((29 : Nat),
 SV.sl (Sh.int IntKind.u8)
 (sfx b
 (gt (Sh.int IntKind.i64) o
 (IntKind.i64.wrap
 (low +
 IntKind.i64.wrap
 ((IntKind.i64.wrap (high - low)).tdiv (2 : Int)))).toNat))),
 ((30 : Nat),
 SV.sl (Sh.int IntKind.u8)
 (sfx b
 (gt (Sh.int IntKind.i64) o
 (IntKind.i64.wrap
 (low +
 IntKind.i64.wrap
 ((IntKind.i64.wrap (high - low)).tdiv (2 : Int)))).toNat))),
 ((31 : Nat), SV.sl (Sh.int IntKind.u8) s),
 ((32 : Nat),
 SV.int IntKind.i64
 (↑(lcp
 (sfx b
 (gt (Sh.int IntKind.i64) o
 (IntKind.i64.wrap
 (low +
 IntKind.i64.wrap
 ((IntKind.i64.wrap (high - low)).tdiv (2 : Int)))).toNat))
 s) :
 Int)),
 ((33 : Nat),
 SV.int IntKind.i64
 (↑(lcp
 (sfx b
 (gt (Sh.int IntKind.i64) o
 (IntKind.i64.wrap
 (low +
 IntKind.i64.wrap
 ((IntKind.i64.wrap (high - low)).tdiv (2 : Int)))).toNat))
 s) :
 Int)),
 ((34 : Nat), SV.int IntKind.i64 n),
 ((35 : Nat),
 SV.bool
 (decide
 (n <
 (↑(lcp
 (sfx b
 (gt (Sh.int IntKind.i64) o
 (IntKind.i64.wrap
 (low +
 IntKind.i64.wrap
 ((IntKind.i64.wrap (high - low)).tdiv (2 : Int)))).toNat))
 s) :
 Int)))),
 ((36 : Nat),
 SV.int IntKind.i64
 (IntKind.i64.wrap
 (low + IntKind.i64.wrap ((IntKind.i64.wrap (high - low)).tdiv (2 : Int))))),
 ((37 : Nat),
 SV.int IntKind.i64
 (↑(lcp
 (sfx b
 (gt (Sh.int IntKind.i64) o
 (IntKind.i64.wrap
 (low +
 IntKind.i64.wrap
 ((IntKind.i64.wrap (high - low)).tdiv (2 : Int)))).toNat))
 s) :
 Int)),
 ((38 : Nat),
 SV.int IntKind.i64
 (IntKind.i64.wrap
 (low + IntKind.i64.wrap ((IntKind.i64.wrap (high - low)).tdiv (2 : Int))))),
 ((39 : Nat),
 SV.bool
 (decide
 ((↑(lcp
 (sfx b
 (gt (Sh.int IntKind.i64) o
 (IntKind.i64.wrap
 (low +
 IntKind.i64.wrap
 ((IntKind.i64.wrap (high - low)).tdiv (2 : Int)))).toNat))
 s) :
 Int) =
 (↑s.length : Int)))),
 ((40 : Nat),
 SV.int IntKind.i64
 (↑(lcp
 (sfx b
 (gt (Sh.int IntKind.i64) o
 (IntKind.i64.wrap
 (low +
 IntKind.i64.wrap
 ((IntKind.i64.wrap (high - low)).tdiv (2 : Int)))).toNat))
 s) :
 Int)),
 ((41 : Nat), SV.sl (Sh.int IntKind.u8) s),
 ((42 : Nat), SV.int IntKind.i64 (↑s.length : Int)),
 ((43 : Nat),
 SV.bool
 (decide
 ((↑(lcp
 (sfx b
 (gt (Sh.int IntKind.i64) o
 (IntKind.i64.wrap
 (low +
 IntKind.i64.wrap
 ((IntKind.i64.wrap (high - low)).tdiv (2 : Int)))).toNat))
 s) :
 Int) =
 (↑s.length : Int)))),
 ((44 : Nat),
 SV.bool
 (bif false then true
 else
 decide
 (gt (Sh.int IntKind.u8)
 (sfx b
 (gt (Sh.int IntKind.i64) o
 (IntKind.i64.wrap
 (low +
 IntKind.i64.wrap
 ((IntKind.i64.wrap (high - low)).tdiv (2 : Int)))).toNat))
 (↑(lcp
 (sfx b
 (gt (Sh.int IntKind.i64) o
 (IntKind.i64.wrap
 (low +
 IntKind.i64.wrap
 ((IntKind.i64.wrap (high - low)).tdiv
 (2 : Int)))).toNat))
 s) :
 Int).toNat <
 gt (Sh.int IntKind.u8) s
 (↑(lcp
 (sfx b
 (gt (Sh.int IntKind.i64) o
 (IntKind.i64.wrap
 (low +
 IntKind.i64.wrap
 ((IntKind.i64.wrap (high - low)).tdiv
 (2 : Int)))).toNat))
 s) :
 Int).toNat))),
 ((45 : Nat),
 SV.int IntKind.i64
 (↑(lcp
 (sfx b
 (gt (Sh.int IntKind.i64) o
 (IntKind.i64.wrap
 (low +
 IntKind.i64.wrap
 ((IntKind.i64.wrap (high - low)).tdiv (2 : Int)))).toNat))
 s) :
 Int)),
 ((46 : Nat),
 SV.sl (Sh.int IntKind.u8)
 (sfx b
 (gt (Sh.int IntKind.i64) o
 (IntKind.i64.wrap
 (low +
 IntKind.i64.wrap
 ((IntKind.i64.wrap (high - low)).tdiv (2 : Int)))).toNat))),
 ((47 : Nat),
 SV.int IntKind.i64
 (↑(sfx b
 (gt (Sh.int IntKind.i64) o
 (IntKind.i64.wrap
 (low +
 IntKind.i64.wrap
 ((IntKind.i64.wrap (high - low)).tdiv
 (2 : Int)))).toNat)).length :
 Int)),
 ((48 : Nat),
 SV.bool
 (decide
 ((↑(lcp
 (sfx b
 (gt (Sh.int IntKind.i64) o
 (IntKind.i64.wrap
 (low +
 IntKind.i64.wrap
 ((IntKind.i64.wrap (high - low)).tdiv (2 : Int)))).toNat))
 s) :
 Int) =
 (↑(sfx b
 (gt (Sh.int IntKind.i64) o
 (IntKind.i64.wrap
 (low +
 IntKind.i64.wrap
 ((IntKind.i64.wrap (high - low)).tdiv
 (2 : Int)))).toNat)).length :
 Int)))),
 ((49 : Nat), SV.bool false),
 ((50 : Nat),
 SV.sl (Sh.int IntKind.u8)
 (sfx b
 (gt (Sh.int IntKind.i64) o
 (IntKind.i64.wrap
 (low +
 IntKind.i64.wrap
 ((IntKind.i64.wrap (high - low)).tdiv (2 : Int)))).toNat))),
 ((51 : Nat),
 SV.int IntKind.i64
 (↑(lcp
 (sfx b
 (gt (Sh.int IntKind.i64) o
 (IntKind.i64.wrap
 (low +
 IntKind.i64.wrap
 ((IntKind.i64.wrap (high - low)).tdiv (2 : Int)))).toNat))
 s) :
 Int)),
 ((52 : Nat),
 SV.elv (Sh.int IntKind.u8)
 (gt (Sh.int IntKind.u8)
 (sfx b
 (gt (Sh.int IntKind.i64) o
 (IntKind.i64.wrap
 (low +
 IntKind.i64.wrap
 ((IntKind.i64.wrap (high - low)).tdiv (2 : Int)))).toNat))
 (↑(lcp
 (sfx b
 (gt (Sh.int IntKind.i64) o
 (IntKind.i64.wrap
 (low +
 IntKind.i64.wrap
 ((IntKind.i64.wrap (high - low)).tdiv (2 : Int)))).toNat))
 s) :
 Int).toNat)),
 ((53 : Nat),
 SV.int IntKind.u8
 (gt (Sh.int IntKind.u8)
 (sfx b
 (gt (Sh.int IntKind.i64) o
 (IntKind.i64.wrap
 (low +
 IntKind.i64.wrap
 ((IntKind.i64.wrap (high - low)).tdiv (2 : Int)))).toNat))
 (↑(lcp
 (sfx b
 (gt (Sh.int IntKind.i64) o
 (IntKind.i64.wrap
 (low +
 IntKind.i64.wrap
 ((IntKind.i64.wrap (high - low)).tdiv (2 : Int)))).toNat))
 s) :
 Int).toNat)),
 ((54 : Nat), SV.sl (Sh.int IntKind.u8) s),
 ((55 : Nat),
 SV.int IntKind.i64
 (↑(lcp
 (sfx b
 (gt (Sh.int IntKind.i64) o
 (IntKind.i64.wrap
 (low +
 IntKind.i64.wrap
 ((IntKind.i64.wrap (high - low)).tdiv (2 : Int)))).toNat))
 s) :
 Int)),
 ((56 : Nat),
 SV.elv (Sh.int IntKind.u8)
 (gt (Sh.int IntKind.u8) s
 (↑(lcp
 (sfx b
 (gt (Sh.int IntKind.i64) o
 (IntKind.i64.wrap
 (low +
 IntKind.i64.wrap
 ((IntKind.i64.wrap (high - low)).tdiv (2 : Int)))).toNat))
 s) :
 Int).toNat)),
 ((57 : Nat),
 SV.int IntKind.u8
 (gt (Sh.int IntKind.u8) s
 (↑(lcp
 (sfx b
 (gt (Sh.int IntKind.i64) o
 (IntKind.i64.wrap
 (low +
 IntKind.i64.wrap
 ((IntKind.i64.wrap (high - low)).tdiv (2 : Int)))).toNat))
 s) :
 Int).toNat)),
 ((58 : Nat),
 SV.bool
 (decide
 (gt (Sh.int IntKind.u8)
 (sfx b
 (gt (Sh.int IntKind.i64) o
 (IntKind.i64.wrap
 (low +
 IntKind.i64.wrap
 ((IntKind.i64.wrap (high - low)).tdiv (2 : Int)))).toNat))
 (↑(lcp
 (sfx b
 (gt (Sh.int IntKind.i64) o
 (IntKind.i64.wrap
 (low +
 IntKind.i64.wrap
 ((IntKind.i64.wrap (high - low)).tdiv
 (2 : Int)))).toNat))
 s) :
 Int).toNat <
 gt (Sh.int IntKind.u8) s
 (↑(lcp
 (sfx b
 (gt (Sh.int IntKind.i64) o
 (IntKind.i64.wrap
 (low +
 IntKind.i64.wrap
 ((IntKind.i64.wrap (high - low)).tdiv
 (2 : Int)))).toNat))
 s) :
 Int).toNat))),
 ((59 : Nat),
 SV.bool
 (bif false then true
 else
 decide
 (gt (Sh.int IntKind.u8)
 (sfx b
 (gt (Sh.int IntKind.i64) o
 (IntKind.i64.wrap
 (low +
 IntKind.i64.wrap
 ((IntKind.i64.wrap (high - low)).tdiv (2 : Int)))).toNat))
 (↑(lcp
 (sfx b
 (gt (Sh.int IntKind.i64) o
 (IntKind.i64.wrap
 (low +
 IntKind.i64.wrap
 ((IntKind.i64.wrap (high - low)).tdiv
 (2 : Int)))).toNat))
 s) :
 Int).toNat <
 gt (Sh.int IntKind.u8) s
 (↑(lcp
 (sfx b
 (gt (Sh.int IntKind.i64) o
 (IntKind.i64.wrap
 (low +
 IntKind.i64.wrap
 ((IntKind.i64.wrap (high - low)).tdiv
 (2 : Int)))).toNat))
 s) :
 Int).toNat)))],
 blk := [] }))))
 (bc
 (decide
 ((↑(lcp
 (sfx b
 (gt (Sh.int IntKind.i64) o
 (IntKind.i64.wrap
 (low + IntKind.i64.wrap ((IntKind.i64.wrap (high - low)).tdiv (2 : Int)))).toNat))
 s) :
 Int) =
 (↑s.length : Int)))
 (Q [SV.int IntKind.i64 best, SV.int IntKind.i64 n] [])
 (bc
 (decide
 ((↑(lcp
 (sfx b
 (gt (Sh.int IntKind.i64) o
 (IntKind.i64.wrap
 (low + IntKind.i64.wrap ((IntKind.i64.wrap (high - low)).tdiv (2 : Int)))).toNat))
 s) :
 Int) =
 (↑(sfx b
 (gt (Sh.int IntKind.i64) o
 (IntKind.i64.wrap
 (low +
 IntKind.i64.wrap
 ((IntKind.i64.wrap (high - low)).tdiv (2 : Int)))).toNat)).length :
 Int)))
 (true = true ∧
 R (hd Try.f27 (0 : Nat))
 {
 env :=
 [((0 : Nat), SV.sl (Sh.int IntKind.u8) b), ((1 : Nat), SV.sl (Sh.int IntKind.i64) o),
 ((2 : Nat), SV.sl (Sh.int IntKind.u8) s), ((6 : Nat), SV.int IntKind.i64 best),
 ((7 : Nat), SV.int IntKind.i64 n),
 ((8 : Nat),
 SV.int IntKind.i64
 (IntKind.i64.wrap
 (IntKind.i64.wrap
 (low + IntKind.i64.wrap ((IntKind.i64.wrap (high - low)).tdiv (2 : Int))) +
 (1 : Int)))),
 ((9 : Nat), SV.int IntKind.i64 high),
 ((10 : Nat),
 SV.int IntKind.i64
 (IntKind.i64.wrap
 (low + IntKind.i64.wrap ((IntKind.i64.wrap (high - low)).tdiv (2 : Int))))),
 ((11 : Nat),
 SV.sl (Sh.int IntKind.u8)
 (sfx b
 (gt (Sh.int IntKind.i64) o
 (IntKind.i64.wrap
 (low +
 IntKind.i64.wrap ((IntKind.i64.wrap (high - low)).tdiv (2 : Int)))).toNat))),
 ((12 : Nat),
 SV.int IntKind.i64
 (↑(lcp
 (sfx b
 (gt (Sh.int IntKind.i64) o
 (IntKind.i64.wrap
 (low +
 IntKind.i64.wrap
 ((IntKind.i64.wrap (high - low)).tdiv (2 : Int)))).toNat))
 s) :
 Int)),
 ((15 : Nat), SV.int IntKind.i64 low), ((16 : Nat), SV.int IntKind.i64 high),
 ((17 : Nat), SV.bool (decide (low < high))), ((18 : Nat), SV.int IntKind.i64 low),
 ((19 : Nat), SV.int IntKind.i64 high), ((20 : Nat), SV.int IntKind.i64 low),
 ((21 : Nat), SV.int IntKind.i64 (IntKind.i64.wrap (high - low))),
 ((22 : Nat),
 SV.int IntKind.i64 (IntKind.i64.wrap ((IntKind.i64.wrap (high - low)).tdiv (2 : Int)))),
 ((23 : Nat),
 SV.int IntKind.i64
 (IntKind.i64.wrap
 (low + IntKind.i64.wrap ((IntKind.i64.wrap (high - low)).tdiv (2 : Int))))),
 ((24 : Nat), SV.sl (Sh.int IntKind.u8) b), ((25 : Nat), SV.sl (Sh.int IntKind.i64) o),
 ((26 : Nat),
 SV.int IntKind.i64
 (IntKind.i64.wrap
 (low + IntKind.i64.wrap ((IntKind.i64.wrap (high - low)).tdiv (2 : Int))))),
 ((27 : Nat),
 SV.elv (Sh.int IntKind.i64)
 (gt (Sh.int IntKind.i64) o
 (IntKind.i64.wrap
 (low +
 IntKind.i64.wrap ((IntKind.i64.wrap (high - low)).tdiv (2 : Int)))).toNat)),
 ((28 : Nat),
 SV.int IntKind.i64
 (gt (Sh.int IntKind.i64) o
 (IntKind.i64.wrap
 (low +
 IntKind.i64.wrap ((IntKind.i64.wrap (high - low)).tdiv (2 : Int)))).toNat)),
 ((29 : Nat),
 SV.sl (Sh.int IntKind.u8)
 (sfx b
 (gt (Sh.int IntKind.i64) o
 (IntKind.i64.wrap
 (low +
 IntKind.i64.wrap ((IntKind.i64.wrap (high - low)).tdiv (2 : Int)))).toNat))),
 ((30 : Nat),
 SV.sl (Sh.int IntKind.u8)
 (sfx b
 (gt (Sh.int IntKind.i64) o
 (IntKind.i64.wrap
 (low +
 IntKind.i64.wrap ((IntKind.i64.wrap (high - low)).tdiv (2 : Int)))).toNat))),
 ((31 : Nat), SV.sl (Sh.int IntKind.u8) s),
 ((32 : Nat),
 SV.int IntKind.i64
 (↑(lcp
 (sfx b
 (gt (Sh.int IntKind.i64) o
 (IntKind.i64.wrap
 (low +
 IntKind.i64.wrap
 ((IntKind.i64.wrap (high - low)).tdiv (2 : Int)))).toNat))
 s) :
 Int)),
 ((33 : Nat),
 SV.int IntKind.i64
 (↑(lcp
 (sfx b
 (gt (Sh.int IntKind.i64) o
 (IntKind.i64.wrap
 (low +
 IntKind.i64.wrap
 ((IntKind.i64.wrap (high - low)).tdiv (2 : Int)))).toNat))
 s) :
 Int)),
 ((34 : Nat), SV.int IntKind.i64 n),
 ((35 : Nat),
 SV.bool
 (decide
 (n <
 (↑(lcp
 (sfx b
 (gt (Sh.int IntKind.i64) o
 (IntKind.i64.wrap
 (low +
 IntKind.i64.wrap
 ((IntKind.i64.wrap (high - low)).tdiv (2 : Int)))).toNat))
 s) :
 Int)))),
 ((39 : Nat),
 SV.bool
 (decide
 ((↑(lcp
 (sfx b
 (gt (Sh.int IntKind.i64) o
 (IntKind.i64.wrap
 (low +
 IntKind.i64.wrap
 ((IntKind.i64.wrap (high - low)).tdiv (2 : Int)))).toNat))
 s) :
 Int) =
 (↑s.length : Int)))),
 ((40 : Nat),
 SV.int IntKind.i64
 (↑(lcp
 (sfx b
 (gt (Sh.int IntKind.i64) o
 (IntKind.i64.wrap
 (low +
 IntKind.i64.wrap
 ((IntKind.i64.wrap (high - low)).tdiv (2 : Int)))).toNat))
 s) :
 Int)),
 ((41 : Nat), SV.sl (Sh.int IntKind.u8) s),
 ((42 : Nat), SV.int IntKind.i64 (↑s.length : Int)),
 ((43 : Nat),
 SV.bool
 (decide
 ((↑(lcp
 (sfx b
 (gt (Sh.int IntKind.i64) o
 (IntKind.i64.wrap
 (low +
 IntKind.i64.wrap
 ((IntKind.i64.wrap (high - low)).tdiv (2 : Int)))).toNat))
 s) :
 Int) =
 (↑s.length : Int)))),
 ((44 : Nat), SV.bool true),
 ((45 : Nat),
 SV.int IntKind.i64
 (↑(lcp
 (sfx b
 (gt (Sh.int IntKind.i64) o
 (IntKind.i64.wrap
 (low +
 IntKind.i64.wrap
 ((IntKind.i64.wrap (high - low)).tdiv (2 : Int)))).toNat))
 s) :
 Int)),
 ((46 : Nat),
 SV.sl (Sh.int IntKind.u8)
 (sfx b
 (gt (Sh.int IntKind.i64) o
 (IntKind.i64.wrap
 (low +
 IntKind.i64.wrap ((IntKind.i64.wrap (high - low)).tdiv (2 : Int)))).toNat))),
 ((47 : Nat),
 SV.int IntKind.i64
 (↑(sfx b
 (gt (Sh.int IntKind.i64) o
 (IntKind.i64.wrap
 (low +
 IntKind.i64.wrap
 ((IntKind.i64.wrap (high - low)).tdiv (2 : Int)))).toNat)).length :
 Int)),
 ((48 : Nat),
 SV.bool
 (decide
 ((↑(lcp
 (sfx b
 (gt (Sh.int IntKind.i64) o
 (IntKind.i64.wrap
 (low +
 IntKind.i64.wrap
 ((IntKind.i64.wrap (high - low)).tdiv (2 : Int)))).toNat))
 s) :
 Int) =
 (↑(sfx b
 (gt (Sh.int IntKind.i64) o
 (IntKind.i64.wrap
 (low +
 IntKind.i64.wrap
 ((IntKind.i64.wrap (high - low)).tdiv
 (2 : Int)))).toNat)).length :
 Int)))),
 ((49 : Nat), SV.bool true), ((59 : Nat), SV.bool true),
 ((60 : Nat),
 SV.int IntKind.i64
 (IntKind.i64.wrap
 (low + IntKind.i64.wrap ((IntKind.i64.wrap (high - low)).tdiv (2 : Int))))),
 ((61 : Nat),
 SV.int IntKind.i64
 (IntKind.i64.wrap
 (IntKind.i64.wrap
 (low + IntKind.i64.wrap ((IntKind.i64.wrap (high - low)).tdiv (2 : Int))) +
 (1 : Int))))],
 blk := [] })
 ((0 : Int) ≤
 (↑(lcp
 (sfx b
 (gt (Sh.int IntKind.i64) o
 (IntKind.i64.wrap
 (low + IntKind.i64.wrap ((IntKind.i64.wrap (high - low)).tdiv (2 : Int)))).toNat))
 s) :
 Int) ∧
 (↑(lcp
 (sfx b
 (gt (Sh.int IntKind.i64) o
 (IntKind.i64.wrap
 (low + IntKind.i64.wrap ((IntKind.i64.wrap (high - low)).tdiv (2 : Int)))).toNat))
 s) :
 Int) <
 (↑(sfx b
 (gt (Sh.int IntKind.i64) o
 (IntKind.i64.wrap
 (low +
 IntKind.i64.wrap
 ((IntKind.i64.wrap (high - low)).tdiv (2 : Int)))).toNat)).length :
 Int) ∧
 (0 : Int) ≤
 (↑(lcp
 (sfx b
 (gt (Sh.int IntKind.i64) o
 (IntKind.i64.wrap
 (low +
 IntKind.i64.wrap ((IntKind.i64.wrap (high - low)).tdiv (2 : Int)))).toNat))
 s) :
 Int) ∧
 (↑(lcp
 (sfx b
 (gt (Sh.int IntKind.i64) o
 (IntKind.i64.wrap
 (low +
 IntKind.i64.wrap ((IntKind.i64.wrap (high - low)).tdiv (2 : Int)))).toNat))
 s) :
 Int) <
 (↑s.length : Int) ∧
 bc
 (bif false then true
 else
 decide
 (gt (Sh.int IntKind.u8)
 (sfx b
 (gt (Sh.int IntKind.i64) o
 (IntKind.i64.wrap
 (low +
 IntKind.i64.wrap
 ((IntKind.i64.wrap (high - low)).tdiv (2 : Int)))).toNat))
 (↑(lcp
 (sfx b
 (gt (Sh.int IntKind.i64) o
 (IntKind.i64.wrap
 (low +
 IntKind.i64.wrap
 ((IntKind.i64.wrap (high - low)).tdiv (2 : Int)))).toNat))
 s) :
 Int).toNat <
 gt (Sh.int IntKind.u8) s
 (↑(lcp
 (sfx b
 (gt (Sh.int IntKind.i64) o
 (IntKind.i64.wrap
 (low +
 IntKind.i64.wrap
 ((IntKind.i64.wrap (high - low)).tdiv (2 : Int)))).toNat))
 s) :
 Int).toNat))
 (R (hd Try.f27 (0 : Nat))
 {
 env :=
 [((0 : Nat), SV.sl (Sh.int IntKind.u8) b), ((1 : Nat), SV.sl (Sh.int IntKind.i64) o),
 ((2 : Nat), SV.sl (Sh.int IntKind.u8) s), ((6 : Nat), SV.int IntKind.i64 best),
 ((7 : Nat), SV.int IntKind.i64 n),
 ((8 : Nat),
 SV.int IntKind.i64
 (IntKind.i64.wrap
 (IntKind.i64.wrap
 (low +
 IntKind.i64.wrap ((IntKind.i64.wrap (high - low)).tdiv (2 : Int))) +
 (1 : Int)))),
 ((9 : Nat), SV.int IntKind.i64 high),
 ((10 : Nat),
 SV.int IntKind.i64
 (IntKind.i64.wrap
 (low + IntKind.i64.wrap ((IntKind.i64.wrap (high - low)).tdiv (2 : Int))))),
 ((11 : Nat),
 SV.sl (Sh.int IntKind.u8)
 (sfx b
 (gt (Sh.int IntKind.i64) o
 (IntKind.i64.wrap
 (low +
 IntKind.i64.wrap
 ((IntKind.i64.wrap (high - low)).tdiv (2 : Int)))).toNat))),
 ((12 : Nat),
 SV.int IntKind.i64
 (↑(lcp
 (sfx b
 (gt (Sh.int IntKind.i64) o
 (IntKind.i64.wrap
 (low +
 IntKind.i64.wrap
 ((IntKind.i64.wrap (high - low)).tdiv (2 : Int)))).toNat))
 s) :
 Int)),
 ((15 : Nat), SV.int IntKind.i64 low), ((16 : Nat), SV.int IntKind.i64 high),
 ((17 : Nat), SV.bool (decide (low < high))), ((18 : Nat), SV.int IntKind.i64 low),
 ((19 : Nat), SV.int IntKind.i64 high), ((20 : Nat), SV.int IntKind.i64 low),
 ((21 : Nat), SV.int IntKind.i64 (IntKind.i64.wrap (high - low))),
 ((22 : Nat),
 SV.int IntKind.i64
 (IntKind.i64.wrap ((IntKind.i64.wrap (high - low)).tdiv (2 : Int)))),
 ((23 : Nat),
 SV.int IntKind.i64
 (IntKind.i64.wrap
 (low + IntKind.i64.wrap ((IntKind.i64.wrap (high - low)).tdiv (2 : Int))))),
 ((24 : Nat), SV.sl (Sh.int IntKind.u8) b),
 ((25 : Nat), SV.sl (Sh.int IntKind.i64) o),
 ((26 : Nat),
 SV.int IntKind.i64
 (IntKind.i64.wrap
 (low + IntKind.i64.wrap ((IntKind.i64.wrap (high - low)).tdiv (2 : Int))))),
 ((27 : Nat),
 SV.elv (Sh.int IntKind.i64)
 (gt (Sh.int IntKind.i64) o
 (IntKind.i64.wrap
 (low +
 IntKind.i64.wrap
 ((IntKind.i64.wrap (high - low)).tdiv (2 : Int)))).toNat)),
 ((28 : Nat),
 SV.int IntKind.i64
 (gt (Sh.int IntKind.i64) o
 (IntKind.i64.wrap
 (low +
 IntKind.i64.wrap
 ((IntKind.i64.wrap (high - low)).tdiv (2 : Int)))).toNat)),
 ((29 : Nat),
 SV.sl (Sh.int IntKind.u8)
 (sfx b
 (gt (Sh.int IntKind.i64) o
 (IntKind.i64.wrap
 (low +
 IntKind.i64.wrap
 ((IntKind.i64.wrap (high - low)).tdiv (2 : Int)))).toNat))),
 ((30 : Nat),
 SV.sl (Sh.int IntKind.u8)
 (sfx b
 (gt (Sh.int IntKind.i64) o
 (IntKind.i64.wrap
 (low +
 IntKind.i64.wrap
 ((IntKind.i64.wrap (high - low)).tdiv (2 : Int)))).toNat))),
 ((31 : Nat), SV.sl (Sh.int IntKind.u8) s),
 ((32 : Nat),
 SV.int IntKind.i64
 (↑(lcp
 (sfx b
 (gt (Sh.int IntKind.i64) o
 (IntKind.i64.wrap
 (low +
 IntKind.i64.wrap
 ((IntKind.i64.wrap (high - low)).tdiv (2 : Int)))).toNat))
 s) :
 Int)),
 ((33 : Nat),
 SV.int IntKind.i64
 (↑(lcp
 (sfx b
 (gt (Sh.int IntKind.i64) o
 (IntKind.i64.wrap
 (low +
 IntKind.i64.wrap
 ((IntKind.i64.wrap (high - low)).tdiv (2 : Int)))).toNat))
 s) :
 Int)),
 ((34 : Nat), SV.int IntKind.i64 n),
 ((35 : Nat),
 SV.bool
 (decide
 (n <
 (↑(lcp
 (sfx b
 (gt (Sh.int IntKind.i64) o
 (IntKind.i64.wrap
 (low +
 IntKind.i64.wrap
 ((IntKind.i64.wrap (high - low)).tdiv (2 : Int)))).toNat))
 s) :
 Int)))),
 ((39 : Nat),
 SV.bool
 (decide
 ((↑(lcp
 (sfx b
 (gt (Sh.int IntKind.i64) o
 (IntKind.i64.wrap
 (low +
 IntKind.i64.wrap
 ((IntKind.i64.wrap (high - low)).tdiv (2 : Int)))).toNat))
 s) :
 Int) =
 (↑s.length : Int)))),
 ((40 : Nat),
 SV.int IntKind.i64
 (↑(lcp
 (sfx b
 (gt (Sh.int IntKind.i64) o
 (IntKind.i64.wrap
 (low +
 IntKind.i64.wrap
 ((IntKind.i64.wrap (high - low)).tdiv (2 : Int)))).toNat))
 s) :
 Int)),
 ((41 : Nat), SV.sl (Sh.int IntKind.u8) s),
 ((42 : Nat), SV.int IntKind.i64 (↑s.length : Int)),
 ((43 : Nat),
 SV.bool
 (decide
 ((↑(lcp
 (sfx b
 (gt (Sh.int IntKind.i64) o
 (IntKind.i64.wrap
 (low +
 IntKind.i64.wrap
 ((IntKind.i64.wrap (high - low)).tdiv (2 : Int)))).toNat))
 s) :
 Int) =
 (↑s.length : Int)))),
 ((44 : Nat),
 SV.bool
 (bif false then true
 else
 decide
 (gt (Sh.int IntKind.u8)
 (sfx b
 (gt (Sh.int IntKind.i64) o
 (IntKind.i64.wrap
 (low +
 IntKind.i64.wrap
 ((IntKind.i64.wrap (high - low)).tdiv (2 : Int)))).toNat))
 (↑(lcp
 (sfx b
 (gt (Sh.int IntKind.i64) o
 (IntKind.i64.wrap
 (low +
 IntKind.i64.wrap
 ((IntKind.i64.wrap (high - low)).tdiv
 (2 : Int)))).toNat))
 s) :
 Int).toNat <
 gt (Sh.int IntKind.u8) s
 (↑(lcp
 (sfx b
 (gt (Sh.int IntKind.i64) o
 (IntKind.i64.wrap
 (low +
 IntKind.i64.wrap
 ((IntKind.i64.wrap (high - low)).tdiv
 (2 : Int)))).toNat))
 s) :
 Int).toNat))),
 ((45 : Nat),
 SV.int IntKind.i64
 (↑(lcp
 (sfx b
 (gt (Sh.int IntKind.i64) o
 (IntKind.i64.wrap
 (low +
 IntKind.i64.wrap
 ((IntKind.i64.wrap (high - low)).tdiv (2 : Int)))).toNat))
 s) :
 Int)),
 ((46 : Nat),
 SV.sl (Sh.int IntKind.u8)
 (sfx b
 (gt (Sh.int IntKind.i64) o
 (IntKind.i64.wrap
 (low +
 IntKind.i64.wrap
 ((IntKind.i64.wrap (high - low)).tdiv (2 : Int)))).toNat))),
 ((47 : Nat),
 SV.int IntKind.i64
 (↑(sfx b
 (gt (Sh.int IntKind.i64) o
 (IntKind.i64.wrap
 (low +
 IntKind.i64.wrap
 ((IntKind.i64.wrap (high - low)).tdiv
 (2 : Int)))).toNat)).length :
 Int)),
 ((48 : Nat),
 SV.bool
 (decide
 ((↑(lcp
 (sfx b
 (gt (Sh.int IntKind.i64) o
 (IntKind.i64.wrap
 (low +
 IntKind.i64.wrap
 ((IntKind.i64.wrap (high - low)).tdiv (2 : Int)))).toNat))
 s) :
 Int) =
 (↑(sfx b
 (gt (Sh.int IntKind.i64) o
 (IntKind.i64.wrap
 (low +
 IntKind.i64.wrap
 ((IntKind.i64.wrap (high - low)).tdiv
 (2 : Int)))).toNat)).length :
 Int)))),
 ((49 : Nat), SV.bool false),
 ((50 : Nat),
 SV.sl (Sh.int IntKind.u8)
 (sfx b
 (gt (Sh.int IntKind.i64) o
 (IntKind.i64.wrap
 (low +
 IntKind.i64.wrap
 ((IntKind.i64.wrap (high - low)).tdiv (2 : Int)))).toNat))),
 ((51 : Nat),
 SV.int IntKind.i64
 (↑(lcp
 (sfx b
 (gt (Sh.int IntKind.i64) o
 (IntKind.i64.wrap
 (low +
 IntKind.i64.wrap
 ((IntKind.i64.wrap (high - low)).tdiv (2 : Int)))).toNat))
 s) :
 Int)),
 ((52 : Nat),
 SV.elv (Sh.int IntKind.u8)
 (gt (Sh.int IntKind.u8)
 (sfx b
 (gt (Sh.int IntKind.i64) o
 (IntKind.i64.wrap
 (low +
 IntKind.i64.wrap
 ((IntKind.i64.wrap (high - low)).tdiv (2 : Int)))).toNat))
 (↑(lcp
 (sfx b
 (gt (Sh.int IntKind.i64) o
 (IntKind.i64.wrap
 (low +
 IntKind.i64.wrap
 ((IntKind.i64.wrap (high - low)).tdiv (2 : Int)))).toNat))
 s) :
 Int).toNat)),
 ((53 : Nat),
 SV.int IntKind.u8
 (gt (Sh.int IntKind.u8)
 (sfx b
 (gt (Sh.int IntKind.i64) o
 (IntKind.i64.wrap
 (low +
 IntKind.i64.wrap
 ((IntKind.i64.wrap (high - low)).tdiv (2 : Int)))).toNat))
 (↑(lcp
 (sfx b
 (gt (Sh.int IntKind.i64) o
 (IntKind.i64.wrap
 (low +
 IntKind.i64.wrap
 ((IntKind.i64.wrap (high - low)).tdiv (2 : Int)))).toNat))
 s) :
 Int).toNat)),
 ((54 : Nat), SV.sl (Sh.int IntKind.u8) s),
 ((55 : Nat),
 SV.int IntKind.i64
 (↑(lcp
 (sfx b
 (gt (Sh.int IntKind.i64) o
 (IntKind.i64.wrap
 (low +
 IntKind.i64.wrap
 ((IntKind.i64.wrap (high - low)).tdiv (2 : Int)))).toNat))
 s) :
 Int)),
 ((56 : Nat),
 SV.elv (Sh.int IntKind.u8)
 (gt (Sh.int IntKind.u8) s
 (↑(lcp
 (sfx b
 (gt (Sh.int IntKind.i64) o
 (IntKind.i64.wrap
 (low +
 IntKind.i64.wrap
 ((IntKind.i64.wrap (high - low)).tdiv (2 : Int)))).toNat))
 s) :
 Int).toNat)),
 ((57 : Nat),
 SV.int IntKind.u8
 (gt (Sh.int IntKind.u8) s
 (↑(lcp
 (sfx b
 (gt (Sh.int IntKind.i64) o
 (IntKind.i64.wrap
 (low +
 IntKind.i64.wrap
 ((IntKind.i64.wrap (high - low)).tdiv (2 : Int)))).toNat))
 s) :
 Int).toNat)),
 ((58 : Nat),
 SV.bool
 (decide
 (gt (Sh.int IntKind.u8)
 (sfx b
 (gt (Sh.int IntKind.i64) o
 (IntKind.i64.wrap
 (low +
 IntKind.i64.wrap
 ((IntKind.i64.wrap (high - low)).tdiv (2 : Int)))).toNat))
 (↑(lcp
 (sfx b
 (gt (Sh.int IntKind.i64) o
 (IntKind.i64.wrap
 (low +
 IntKind.i64.wrap
 ((IntKind.i64.wrap (high - low)).tdiv
 (2 : Int)))).toNat))
 s) :
 Int).toNat <
 gt (Sh.int IntKind.u8) s
 (↑(lcp
 (sfx b
 (gt (Sh.int IntKind.i64) o
 (IntKind.i64.wrap
 (low +
 IntKind.i64.wrap
 ((IntKind.i64.wrap (high - low)).tdiv
 (2 : Int)))).toNat))
 s) :
 Int).toNat))),
 ((59 : Nat),
 SV.bool
 (bif false then true
 else
 decide
 (gt (Sh.int IntKind.u8)
 (sfx b
 (gt (Sh.int IntKind.i64) o
 (IntKind.i64.wrap
 (low +
 IntKind.i64.wrap
 ((IntKind.i64.wrap (high - low)).tdiv (2 : Int)))).toNat))
 (↑(lcp
 (sfx b
 (gt (Sh.int IntKind.i64) o
 (IntKind.i64.wrap
 (low +
 IntKind.i64.wrap
 ((IntKind.i64.wrap (high - low)).tdiv
 (2 : Int)))).toNat))
 s) :
 Int).toNat <
 gt (Sh.int IntKind.u8) s
 (↑(lcp
 (sfx b
 (gt (Sh.int IntKind.i64) o
 (IntKind.i64.wrap
 (low +
 IntKind.i64.wrap
 ((IntKind.i64.wrap (high - low)).tdiv
 (2 : Int)))).toNat))
 s) :
 Int).toNat))),
 ((60 : Nat),
 SV.int IntKind.i64
 (IntKind.i64.wrap
 (low + IntKind.i64.wrap ((IntKind.i64.wrap (high - low)).tdiv (2 : Int))))),
 ((61 : Nat),
 SV.int IntKind.i64
 (IntKind.i64.wrap
 (IntKind.i64.wrap
 (low +
 IntKind.i64.wrap ((IntKind.i64.wrap (high - low)).tdiv (2 : Int))) +
 (1 : Int))))],
 blk := [] })
 (R (hd Try.f27 (0 : Nat))
 {
 env :=
 [((0 : Nat), SV.sl (Sh.int IntKind.u8) b), ((1 : Nat), SV.sl (Sh.int IntKind.i64) o),
 ((2 : Nat), SV.sl (Sh.int IntKind.u8) s), ((6 : Nat), SV.int IntKind.i64 best),
 ((7 : Nat), SV.int IntKind.i64 n), ((8 : Nat), SV.int IntKind.i64 low),
 ((9 : Nat),
 SV.int IntKind.i64
 (IntKind.i64.wrap
 (low + IntKind.i64.wrap ((IntKind.i64.wrap (high - low)).tdiv (2 : Int))))),
 ((10 : Nat),
 SV.int IntKind.i64
 (IntKind.i64.wrap
 (low + IntKind.i64.wrap ((IntKind.i64.wrap (high - low)).tdiv (2 : Int))))),
 ((11 : Nat),
 SV.sl (Sh.int IntKind.u8)
 (sfx b
 (gt (Sh.int IntKind.i64) o
 (IntKind.i64.wrap
 (low +
 IntKind.i64.wrap
 ((IntKind.i64.wrap (high - low)).tdiv (2 : Int)))).toNat))),
 ((12 : Nat),
 SV.int IntKind.i64
 (↑(lcp
 (sfx b
 (gt (Sh.int IntKind.i64) o
 (IntKind.i64.wrap
 (low +
 IntKind.i64.wrap
 ((IntKind.i64.wrap (high - low)).tdiv (2 : Int)))).toNat))
 s) :
 Int)),
 ((15 : Nat), SV.int IntKind.i64 low), ((16 : Nat), SV.int IntKind.i64 high),
 ((17 : Nat), SV.bool (decide (low < high))), ((18 : Nat), SV.int IntKind.i64 low),
 ((19 : Nat), SV.int IntKind.i64 high), ((20 : Nat), SV.int IntKind.i64 low),
 ((21 : Nat), SV.int IntKind.i64 (IntKind.i64.wrap (high - low))),
 ((22 : Nat),
 SV.int IntKind.i64
 (IntKind.i64.wrap ((IntKind.i64.wrap (high - low)).tdiv (2 : Int)))),
 ((23 : Nat),
 SV.int IntKind.i64
 (IntKind.i64.wrap
 (low + IntKind.i64.wrap ((IntKind.i64.wrap (high - low)).tdiv (2 : Int))))),
 ((24 : Nat), SV.sl (Sh.int IntKind.u8) b),
 ((25 : Nat), SV.sl (Sh.int IntKind.i64) o),
 ((26 : Nat),
 SV.int IntKind.i64
 (IntKind.i64.wrap
 (low + IntKind.i64.wrap ((IntKind.i64.wrap (high - low)).tdiv (2 : Int))))),
 ((27 : Nat),
 SV.elv (Sh.int IntKind.i64)
 (gt (Sh.int IntKind.i64) o
 (IntKind.i64.wrap
 (low +
 IntKind.i64.wrap
 ((IntKind.i64.wrap (high - low)).tdiv (2 : Int)))).toNat)),
 ((28 : Nat),
 SV.int IntKind.i64
 (gt (Sh.int IntKind.i64) o
 (IntKind.i64.wrap
 (low +
 IntKind.i64.wrap
 ((IntKind.i64.wrap (high - low)).tdiv (2 : Int)))).toNat)),
 ((29 : Nat),
 SV.sl (Sh.int IntKind.u8)
 (sfx b
 (gt (Sh.int IntKind.i64) o
 (IntKind.i64.wrap
 (low +
 IntKind.i64.wrap
 ((IntKind.i64.wrap (high - low)).tdiv (2 : Int)))).toNat))),
 ((30 : Nat),
 SV.sl (Sh.int IntKind.u8)
 (sfx b
 (gt (Sh.int IntKind.i64) o
 (IntKind.i64.wrap
 (low +
 IntKind.i64.wrap
 ((IntKind.i64.wrap (high - low)).tdiv (2 : Int)))).toNat))),
 ((31 : Nat), SV.sl (Sh.int IntKind.u8) s),
 ((32 : Nat),
 SV.int IntKind.i64
 (↑(lcp
 (sfx b
 (gt (Sh.int IntKind.i64) o
 (IntKind.i64.wrap
 (low +
 IntKind.i64.wrap
 ((IntKind.i64.wrap (high - low)).tdiv (2 : Int)))).toNat))
 s) :
 Int)),
 ((33 : Nat),
 SV.int IntKind.i64
 (↑(lcp
 (sfx b
 (gt (Sh.int IntKind.i64) o
 (IntKind.i64.wrap
 (low +
 IntKind.i64.wrap
 ((IntKind.i64.wrap (high - low)).tdiv (2 : Int)))).toNat))
 s) :
 Int)),
 ((34 : Nat), SV.int IntKind.i64 n),
 ((35 : Nat),
 SV.bool
 (decide
 (n <
 (↑(lcp
 (sfx b
 (gt (Sh.int IntKind.i64) o
 (IntKind.i64.wrap
 (low +
 IntKind.i64.wrap
 ((IntKind.i64.wrap (high - low)).tdiv (2 : Int)))).toNat))
 s) :
 Int)))),
 ((38 : Nat),
 SV.int IntKind.i64
 (IntKind.i64.wrap
 (low + IntKind.i64.wrap ((IntKind.i64.wrap (high - low)).tdiv (2 : Int))))),
 ((39 : Nat),
 SV.bool
 (decide
 ((↑(lcp
 (sfx b
 (gt (Sh.int IntKind.i64) o
 (IntKind.i64.wrap
 (low +
 IntKind.i64.wrap
 ((IntKind.i64.wrap (high - low)).tdiv (2 : Int)))).toNat))
 s) :
 Int) =
 (↑s.length : Int)))),
 ((40 : Nat),
 SV.int IntKind.i64
 (↑(lcp
 (sfx b
 (gt (Sh.int IntKind.i64) o
 (IntKind.i64.wrap
 (low +
 IntKind.i64.wrap
 ((IntKind.i64.wrap (high - low)).tdiv (2 : Int)))).toNat))
 s) :
 Int)),
 ((41 : Nat), SV.sl (Sh.int IntKind.u8) s),
 ((42 : Nat), SV.int IntKind.i64 (↑s.length : Int)),
 ((43 : Nat),
 SV.bool
 (decide
 ((↑(lcp
 (sfx b
 (gt (Sh.int IntKind.i64) o
 (IntKind.i64.wrap
 (low +
 IntKind.i64.wrap
 ((IntKind.i64.wrap (high - low)).tdiv (2 : Int)))).toNat))
 s) :
 Int) =
 (↑s.length : Int)))),
 ((44 : Nat),
 SV.bool
 (bif false then true
 else
 decide
 (gt (Sh.int IntKind.u8)
 (sfx b
 (gt (Sh.int IntKind.i64) o
 (IntKind.i64.wrap
 (low +
 IntKind.i64.wrap
 ((IntKind.i64.wrap (high - low)).tdiv (2 : Int)))).toNat))
 (↑(lcp
 (sfx b
 (gt (Sh.int IntKind.i64) o
 (IntKind.i64.wrap
 (low +
 IntKind.i64.wrap
 ((IntKind.i64.wrap (high - low)).tdiv
 (2 : Int)))).toNat))
 s) :
 Int).toNat <
 gt (Sh.int IntKind.u8) s
 (↑(lcp
 (sfx b
 (gt (Sh.int IntKind.i64) o
 (IntKind.i64.wrap
 (low +
 IntKind.i64.wrap
 ((IntKind.i64.wrap (high - low)).tdiv
 (2 : Int)))).toNat))
 s) :
 Int).toNat))),
 ((45 : Nat),
 SV.int IntKind.i64
 (↑(lcp
 (sfx b
 (gt (Sh.int IntKind.i64) o
 (IntKind.i64.wrap
 (low +
 IntKind.i64.wrap
 ((IntKind.i64.wrap (high - low)).tdiv (2 : Int)))).toNat))
 s) :
 Int)),
 ((46 : Nat),
 SV.sl (Sh.int IntKind.u8)
 (sfx b
 (gt (Sh.int IntKind.i64) o
 (IntKind.i64.wrap
 (low +
 IntKind.i64.wrap
 ((IntKind.i64.wrap (high - low)).tdiv (2 : Int)))).toNat))),
 ((47 : Nat),
 SV.int IntKind.i64
 (↑(sfx b
 (gt (Sh.int IntKind.i64) o
 (IntKind.i64.wrap
 (low +
 IntKind.i64.wrap
 ((IntKind.i64.wrap (high - low)).tdiv
 (2 : Int)))).toNat)).length :
 Int)),
 ((48 : Nat),
 SV.bool
 (decide
 ((↑(lcp
 (sfx b
 (gt (Sh.int IntKind.i64) o
 (IntKind.i64.wrap
 (low +
 IntKind.i64.wrap
 ((IntKind.i64.wrap (high - low)).tdiv (2 : Int)))).toNat))
 s) :
 Int) =
 (↑(sfx b
 (gt (Sh.int IntKind.i64) o
 (IntKind.i64.wrap
 (low +
 IntKind.i64.wrap
 ((IntKind.i64.wrap (high - low)).tdiv
 (2 : Int)))).toNat)).length :
 Int)))),
 ((49 : Nat), SV.bool false),
 ((50 : Nat),
 SV.sl (Sh.int IntKind.u8)
 (sfx b
 (gt (Sh.int IntKind.i64) o
 (IntKind.i64.wrap
 (low +
 IntKind.i64.wrap
 ((IntKind.i64.wrap (high - low)).tdiv (2 : Int)))).toNat))),
 ((51 : Nat),
 SV.int IntKind.i64
 (↑(lcp
 (sfx b
 (gt (Sh.int IntKind.i64) o
 (IntKind.i64.wrap
 (low +
 IntKind.i64.wrap
 ((IntKind.i64.wrap (high - low)).tdiv (2 : Int)))).toNat))
 s) :
 Int)),
 ((52 : Nat),
 SV.elv (Sh.int IntKind.u8)
 (gt (Sh.int IntKind.u8)
 (sfx b
 (gt (Sh.int IntKind.i64) o
 (IntKind.i64.wrap
 (low +
 IntKind.i64.wrap
 ((IntKind.i64.wrap (high - low)).tdiv (2 : Int)))).toNat))
 (↑(lcp
 (sfx b
 (gt (Sh.int IntKind.i64) o
 (IntKind.i64.wrap
 (low +
 IntKind.i64.wrap
 ((IntKind.i64.wrap (high - low)).tdiv (2 : Int)))).toNat))
 s) :
 Int).toNat)),
 ((53 : Nat),
 SV.int IntKind.u8
 (gt (Sh.int IntKind.u8)
 (sfx b
 (gt (Sh.int IntKind.i64) o
 (IntKind.i64.wrap
 (low +
 IntKind.i64.wrap
 ((IntKind.i64.wrap (high - low)).tdiv (2 : Int)))).toNat))
 (↑(lcp
 (sfx b
 (gt (Sh.int IntKind.i64) o
 (IntKind.i64.wrap
 (low +
 IntKind.i64.wrap
 ((IntKind.i64.wrap (high - low)).tdiv (2 : Int)))).toNat))
 s) :
 Int).toNat)),
 ((54 : Nat), SV.sl (Sh.int IntKind.u8) s),
 ((55 : Nat),
 SV.int IntKind.i64
 (↑(lcp
 (sfx b
 (gt (Sh.int IntKind.i64) o
 (IntKind.i64.wrap
 (low +
 IntKind.i64.wrap
 ((IntKind.i64.wrap (high - low)).tdiv (2 : Int)))).toNat))
 s) :
 Int)),
 ((56 : Nat),
 SV.elv (Sh.int IntKind.u8)
 (gt (Sh.int IntKind.u8) s
 (↑(lcp
 (sfx b
 (gt (Sh.int IntKind.i64) o
 (IntKind.i64.wrap
 (low +
 IntKind.i64.wrap
 ((IntKind.i64.wrap (high - low)).tdiv (2 : Int)))).toNat))
 s) :
 Int).toNat)),
 ((57 : Nat),
 SV.int IntKind.u8
 (gt (Sh.int IntKind.u8) s
 (↑(lcp
 (sfx b
 (gt (Sh.int IntKind.i64) o
 (IntKind.i64.wrap
 (low +
 IntKind.i64.wrap
 ((IntKind.i64.wrap (high - low)).tdiv (2 : Int)))).toNat))
 s) :
 Int).toNat)),
 ((58 : Nat),
 SV.bool
 (decide
 (gt (Sh.int IntKind.u8)
 (sfx b
 (gt (Sh.int IntKind.i64) o
 (IntKind.i64.wrap
 (low +
 IntKind.i64.wrap
 ((IntKind.i64.wrap (high - low)).tdiv (2 : Int)))).toNat))
 (↑(lcp
 (sfx b
 (gt (Sh.int IntKind.i64) o
 (IntKind.i64.wrap
 (low +
 IntKind.i64.wrap
 ((IntKind.i64.wrap (high - low)).tdiv
 (2 : Int)))).toNat))
 s) :
 Int).toNat <
 gt (Sh.int IntKind.u8) s
 (↑(lcp
 (sfx b
 (gt (Sh.int IntKind.i64) o
 (IntKind.i64.wrap
 (low +
 IntKind.i64.wrap
 ((IntKind.i64.wrap (high - low)).tdiv
 (2 : Int)))).toNat))
 s) :
 Int).toNat))),
 ((59 : Nat),
 SV.bool
 (bif false then true
 else
 decide
 (gt (Sh.int IntKind.u8)
 (sfx b
 (gt (Sh.int IntKind.i64) o
 (IntKind.i64.wrap
 (low +
 IntKind.i64.wrap
 ((IntKind.i64.wrap (high - low)).tdiv (2 : Int)))).toNat))
 (↑(lcp
 (sfx b
 (gt (Sh.int IntKind.i64) o
 (IntKind.i64.wrap
 (low +
 IntKind.i64.wrap
 ((IntKind.i64.wrap (high - low)).tdiv
 (2 : Int)))).toNat))
 s) :
 Int).toNat <
 gt (Sh.int IntKind.u8) s
 (↑(lcp
 (sfx b
 (gt (Sh.int IntKind.i64) o
 (IntKind.i64.wrap
 (low +
 IntKind.i64.wrap
 ((IntKind.i64.wrap (high - low)).tdiv
 (2 : Int)))).toNat))
 s) :
 Int).toNat)))],
 blk := [] })))))
 (Q [SV.int IntKind.i64 best, SV.int IntKind.i64 n] [])) := by kernel_rfl
end Go.Proofs.Ytijeaicbnfiegaa
