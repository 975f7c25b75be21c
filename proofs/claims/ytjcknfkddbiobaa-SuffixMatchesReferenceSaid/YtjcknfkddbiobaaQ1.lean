/-
  A part of the proof: what pieces of the program give; conditions: those of each theorem.
-/
import Derived.Test.YtjcknfkddbiobaaQ0
import Derived.Test.YtjcknfkddbiobaaHD
set_option linter.unusedVariables false
namespace Go.Proofs.Ytjcknfkddbiobaa
open Go.Px Go.Ax
abbrev capK : List AK := [.ptr [.dat slB], .ptr [.dat slI], .ptr [.dat slB], .ptr [.dat (.int .i64)]]
abbrev K28 : List AK := .dat (.int .i64) :: capK
abbrev fn28 : AK := .fn 28 [] capK
set_option maxRecDepth 100000
theorem vc_leastL (l : List Int) (m x i : Int) (Q : List SV → List (Nat × LB) → Prop) (R : List Item → PS → Prop) : sy tt G0 [] Try.f33.ntmps Try.f33.results.toList Q R 1000 (hd Try.f33 0) ⟨[(0, .sl (.int .i64) l), (3, .int .i64 m), (9, .sl (.int .i64) l), (10, .int .i64 l.length), (11, .int .i64 i)], []⟩ =
    (bc (decide (i < (↑l.length : Int)))
 ((0 : Int) ≤ i ∧
 i < (↑l.length : Int) ∧
 R (hd Try.f33 (0 : Nat))
 {
 env :=
 [((0 : Nat), SV.sl (Sh.int IntKind.i64) l),
 ((3 : Nat), SV.int IntKind.i64 (min m (gt (Sh.int IntKind.i64) l i.toNat))),
 ((5 : Nat), SV.int IntKind.i64 (gt (Sh.int IntKind.i64) l i.toNat)),
 ((9 : Nat), SV.sl (Sh.int IntKind.i64) l), ((10 : Nat), SV.int IntKind.i64 (↑l.length : Int)),
 ((11 : Nat), SV.int IntKind.i64 (IntKind.i64.wrap (i + (1 : Int)))),
 ((12 : Nat), SV.bool (decide (i < (↑l.length : Int)))),
 ((13 : Nat), SV.elv (Sh.int IntKind.i64) (gt (Sh.int IntKind.i64) l i.toNat)),
 ((14 : Nat), SV.int IntKind.i64 (gt (Sh.int IntKind.i64) l i.toNat)), ((15 : Nat), SV.int IntKind.i64 m),
 ((16 : Nat), SV.int IntKind.i64 (gt (Sh.int IntKind.i64) l i.toNat)),
 ((17 : Nat), SV.int IntKind.i64 (min m (gt (Sh.int IntKind.i64) l i.toNat))),
 ((18 : Nat), SV.int IntKind.i64 (IntKind.i64.wrap (i + (1 : Int))))],
 blk := [] })
 (Q [SV.int IntKind.i64 m] [])) := by kernel_rfl
theorem vc_st (k : Int) (b o s : List Int) (n : Int) (Q : List SV → List (Nat × LB) → Prop) (R : List Item → PS → Prop) : sy tt G0 C4 Try.f28.ntmps Try.f28.results.toList Q R 1000 [.code (bodyOf Try.f28)] (entryI K28 (k, (b, ()), (o, ()), (s, ()), (n, ()), ())) =
    ((0 : Int) ≤ k ∧
 k < (↑o.length : Int) ∧
 ctAt.pre (b, gt (Sh.int IntKind.i64) o k.toNat, ()) ∧
 (0 : Int) ≤ n ∧
 n ≤ (↑s.length : Int) ∧
 ctLcp.pre (sfx b (gt (Sh.int IntKind.i64) o k.toNat), List.take n.toNat s, ()) ∧
 Q [SV.bool (decide ((↑(lcp (sfx b (gt (Sh.int IntKind.i64) o k.toNat)) (List.take n.toNat s)) : Int) = n))]
 [((1099511627776 : Nat), LB.var [SV.sl (Sh.int IntKind.u8) b]),
 ((1099511627777 : Nat), LB.var [SV.sl (Sh.int IntKind.i64) o]),
 ((1099511627778 : Nat), LB.var [SV.sl (Sh.int IntKind.u8) s]),
 ((1099511627779 : Nat), LB.var [SV.int IntKind.i64 n])]) := by kernel_rfl
theorem vc_clo (b o s : List Int) (Q : List SV → List (Nat × LB) → Prop) (R : List Item → PS → Prop) : sy tt G0 C4 Try.f27.ntmps Try.f27.results.toList Q R 1000 [.code (bodyOf Try.f27)] (entry [slB, slI, slB] (b, o, s, ())) =
    (R (hd Try.f27 (0 : Nat))
 {
 env :=
 [((0 : Nat), SV.sl (Sh.int IntKind.u8) b), ((1 : Nat), SV.sl (Sh.int IntKind.i64) o),
 ((2 : Nat), SV.sl (Sh.int IntKind.u8) s), ((6 : Nat), SV.int IntKind.i64 (0 : Int)),
 ((7 : Nat), SV.int IntKind.i64 (0 : Int)), ((8 : Nat), SV.int IntKind.i64 (0 : Int)),
 ((9 : Nat), SV.int IntKind.i64 (↑o.length : Int)), ((13 : Nat), SV.sl (Sh.int IntKind.i64) o),
 ((14 : Nat), SV.int IntKind.i64 (↑o.length : Int))],
 blk := [] }) := by kernel_rfl
theorem vc_cloL (b o s : List Int) (best n low high : Int) (Q : List SV → List (Nat × LB) → Prop) (R : List Item → PS → Prop) : sy tt G0 C4 Try.f27.ntmps Try.f27.results.toList Q R 1000 (hd Try.f27 0) ⟨[(0, .sl (.int .u8) b), (1, .sl (.int .i64) o), (2, .sl (.int .u8) s), (6, .int .i64 best), (7, .int .i64 n), (8, .int .i64 low), (9, .int .i64 high)], []⟩ =
    (bc (decide (low < high))
 ((2 : Int) ≠ (0 : Int) ∧
 (0 : Int) ≤ IntKind.i64.wrap (low + IntKind.i64.wrap ((IntKind.i64.wrap (high - low)).tdiv (2 : Int))) ∧
 IntKind.i64.wrap (low + IntKind.i64.wrap ((IntKind.i64.wrap (high - low)).tdiv (2 : Int))) < (↑o.length : Int) ∧
 ctAt.pre
 (b,
 gt (Sh.int IntKind.i64) o
 (IntKind.i64.wrap (low + IntKind.i64.wrap ((IntKind.i64.wrap (high - low)).tdiv (2 : Int)))).toNat,
 ()) ∧
 ctLcp.pre
 (sfx b
 (gt (Sh.int IntKind.i64) o
 (IntKind.i64.wrap (low + IntKind.i64.wrap ((IntKind.i64.wrap (high - low)).tdiv (2 : Int)))).toNat),
 s, ()) ∧
 bc
 (decide
 (n <
 (↑(lcp
 (sfx b
 (gt (Sh.int IntKind.i64) o
 (IntKind.i64.wrap
 (low + IntKind.i64.wrap ((IntKind.i64.wrap (high - low)).tdiv (2 : Int)))).toNat))
 s) :
 Int)))
 (bc
 (decide
 ((↑(lcp
 (sfx b
 (gt (Sh.int IntKind.i64) o
 (IntKind.i64.wrap
 (low + IntKind.i64.wrap ((IntKind.i64.wrap (high - low)).tdiv (2 : Int)))).toNat))
 s) :
 Int) =
 (↑s.length : Int)))
 (Q
 [SV.int IntKind.i64
 (IntKind.i64.wrap (low + IntKind.i64.wrap ((IntKind.i64.wrap (high - low)).tdiv (2 : Int)))),
 SV.int IntKind.i64
 (↑(lcp
 (sfx b
 (gt (Sh.int IntKind.i64) o
 (IntKind.i64.wrap
 (low + IntKind.i64.wrap ((IntKind.i64.wrap (high - low)).tdiv (2 : Int)))).toNat))
 s) :
 Int)]
 [])
 (bc
 (decide
 ((↑(lcp
 (sfx b
 (gt (Sh.int IntKind.i64) o
 (IntKind.i64.wrap
 (low + IntKind.i64.wrap ((IntKind.i64.wrap (high - low)).tdiv (2 : Int)))).toNat))
 s) :
 Int) =
 (↑(sfx b
 (gt (Sh.int IntKind.i64) o
 (IntKind.i64.wrap
 (low +
 IntKind.i64.wrap
 ((IntKind.i64.wrap (high - low)).tdiv (2 : Int)))).toNat)).length :
 Int)))
 (true = true ∧
 R (hd Try.f27 (0 : Nat))
 {
 env :=
 [((0 : Nat), SV.sl (Sh.int IntKind.u8) b), ((1 : Nat), SV.sl (Sh.int IntKind.i64) o),
 ((2 : Nat), SV.sl (Sh.int IntKind.u8) s),
 ((6 : Nat),
 SV.int IntKind.i64
 (IntKind.i64.wrap
 (low + IntKind.i64.wrap ((IntKind.i64.wrap (high - low)).tdiv (2 : Int))))),
 ((7 : Nat),
 SV.int IntKind.i64
 (↑(lcp
 (sfx b
 (gt (Sh.int IntKind.i64) o
 (IntKind.i64.wrap
 (low +
 IntKind.i64.wrap
 ((IntKind.i64.wrap (high - low)).tdiv (2 : Int)))).toNat))
 s) :
 Int)),
 ((8 : Nat),
 SV.int IntKind.i64
 (IntKind.i64.wrap
 (IntKind.i64.wrap
 (low + IntKind.i64.wrap ((IntKind.i64.wrap (high - low)).tdiv (2 : Int))) +
 (1 : Int)))),
 ((9 : Nat), SV.int IntKind.i64 high),
 ((10 : Nat),
 SV.int IntKind.i64
 (IntKind.i64.wrap
 (low + IntKind.i64.wrap ((IntKind.i64.wrap (high - low)).tdiv (2 : Int))))),
 ((11 : Nat),
 SV.sl (Sh.int IntKind.u8)
 (sfx b
 (gt (Sh.int IntKind.i64) o
 (IntKind.i64.wrap
 (low +
 IntKind.i64.wrap ((IntKind.i64.wrap (high - low)).tdiv (2 : Int)))).toNat))),
 ((12 : Nat),
 SV.int IntKind.i64
 (↑(lcp
 (sfx b
 (gt (Sh.int IntKind.i64) o
 (IntKind.i64.wrap
 (low +
 IntKind.i64.wrap
 ((IntKind.i64.wrap (high - low)).tdiv (2 : Int)))).toNat))
 s) :
 Int)),
 ((15 : Nat), SV.int IntKind.i64 low), ((16 : Nat), SV.int IntKind.i64 high),
 ((17 : Nat), SV.bool (decide (low < high))), ((18 : Nat), SV.int IntKind.i64 low),
 ((19 : Nat), SV.int IntKind.i64 high), ((20 : Nat), SV.int IntKind.i64 low),
 ((21 : Nat), SV.int IntKind.i64 (IntKind.i64.wrap (high - low))),
 ((22 : Nat),
 SV.int IntKind.i64 (IntKind.i64.wrap ((IntKind.i64.wrap (high - low)).tdiv (2 : Int)))),
 ((23 : Nat),
 SV.int IntKind.i64
 (IntKind.i64.wrap
 (low + IntKind.i64.wrap ((IntKind.i64.wrap (high - low)).tdiv (2 : Int))))),
 ((24 : Nat), SV.sl (Sh.int IntKind.u8) b), ((25 : Nat), SV.sl (Sh.int IntKind.i64) o),
 ((26 : Nat),
 SV.int IntKind.i64
 (IntKind.i64.wrap
 (low + IntKind.i64.wrap ((IntKind.i64.wrap (high - low)).tdiv (2 : Int))))),
 ((27 : Nat),
 SV.elv (Sh.int IntKind.i64)
 (gt (Sh.int IntKind.i64) o
 (IntKind.i64.wrap
 (low +
 IntKind.i64.wrap ((IntKind.i64.wrap (high - low)).tdiv (2 : Int)))).toNat)),
 ((28 : Nat),
 SV.int IntKind.i64
 (gt (Sh.int IntKind.i64) o
 (IntKind.i64.wrap
 (low +
 IntKind.i64.wrap ((IntKind.i64.wrap (high - low)).tdiv (2 : Int)))).toNat)),
 ((29 : Nat),
 SV.sl (Sh.int IntKind.u8)
 (sfx b
 (gt (Sh.int IntKind.i64) o
 (IntKind.i64.wrap
 (low +
 IntKind.i64.wrap ((IntKind.i64.wrap (high - low)).tdiv (2 : Int)))).toNat))),
 ((30 : Nat),
 SV.sl (Sh.int IntKind.u8)
 (sfx b
 (gt (Sh.int IntKind.i64) o
 (IntKind.i64.wrap
 (low +
 IntKind.i64.wrap ((IntKind.i64.wrap (high - low)).tdiv (2 : Int)))).toNat))),
 ((31 : Nat), SV.sl (Sh.int IntKind.u8) s),
 ((32 : Nat),
 SV.int IntKind.i64
 (↑(lcp
 (sfx b
 (gt (Sh.int IntKind.i64) o
 (IntKind.i64.wrap
 (low +
 IntKind.i64.wrap
 ((IntKind.i64.wrap (high - low)).tdiv (2 : Int)))).toNat))
 s) :
 Int)),
 ((33 : Nat),
 SV.int IntKind.i64
 (↑(lcp
 (sfx b
 (gt (Sh.int IntKind.i64) o
 (IntKind.i64.wrap
 (low +
 IntKind.i64.wrap
 ((IntKind.i64.wrap (high - low)).tdiv (2 : Int)))).toNat))
 s) :
 Int)),
 ((34 : Nat), SV.int IntKind.i64 n),
 ((35 : Nat),
 SV.bool
 (decide
 (n <
 (↑(lcp
 (sfx b
 (gt (Sh.int IntKind.i64) o
 (IntKind.i64.wrap
 (low +
 IntKind.i64.wrap
 ((IntKind.i64.wrap (high - low)).tdiv (2 : Int)))).toNat))
 s) :
 Int)))),
 ((36 : Nat),
 SV.int IntKind.i64
 (IntKind.i64.wrap
 (low + IntKind.i64.wrap ((IntKind.i64.wrap (high - low)).tdiv (2 : Int))))),
 ((37 : Nat),
 SV.int IntKind.i64
 (↑(lcp
 (sfx b
 (gt (Sh.int IntKind.i64) o
 (IntKind.i64.wrap
 (low +
 IntKind.i64.wrap
 ((IntKind.i64.wrap (high - low)).tdiv (2 : Int)))).toNat))
 s) :
 Int)),
 ((39 : Nat),
 SV.bool
 (decide
 ((↑(lcp
 (sfx b
 (gt (Sh.int IntKind.i64) o
 (IntKind.i64.wrap
 (low +
 IntKind.i64.wrap
 ((IntKind.i64.wrap (high - low)).tdiv (2 : Int)))).toNat))
 s) :
 Int) =
 (↑s.length : Int)))),
 ((40 : Nat),
 SV.int IntKind.i64
 (↑(lcp
 (sfx b
 (gt (Sh.int IntKind.i64) o
 (IntKind.i64.wrap
 (low +
 IntKind.i64.wrap
 ((IntKind.i64.wrap (high - low)).tdiv (2 : Int)))).toNat))
 s) :
 Int)),
 ((41 : Nat), SV.sl (Sh.int IntKind.u8) s),
 ((42 : Nat), SV.int IntKind.i64 (↑s.length : Int)),
 ((43 : Nat),
 SV.bool
 (decide
 ((↑(lcp
 (sfx b
 (gt (Sh.int IntKind.i64) o
 (IntKind.i64.wrap
 (low +
 IntKind.i64.wrap
 ((IntKind.i64.wrap (high - low)).tdiv (2 : Int)))).toNat))
 s) :
 Int) =
 (↑s.length : Int)))),
 ((44 : Nat), SV.bool true),
 ((45 : Nat),
 SV.int IntKind.i64
 (↑(lcp
 (sfx b
 (gt (Sh.int IntKind.i64) o
 (IntKind.i64.wrap
 (low +
 IntKind.i64.wrap
 ((IntKind.i64.wrap (high - low)).tdiv (2 : Int)))).toNat))
 s) :
 Int)),
 ((46 : Nat),
 SV.sl (Sh.int IntKind.u8)
 (sfx b
 (gt (Sh.int IntKind.i64) o
 (IntKind.i64.wrap
 (low +
 IntKind.i64.wrap ((IntKind.i64.wrap (high - low)).tdiv (2 : Int)))).toNat))),
 ((47 : Nat),
 SV.int IntKind.i64
 (↑(sfx b
 (gt (Sh.int IntKind.i64) o
 (IntKind.i64.wrap
 (low +
 IntKind.i64.wrap
 ((IntKind.i64.wrap (high - low)).tdiv (2 : Int)))).toNat)).length :
 Int)),
 ((48 : Nat),
 SV.bool
 (decide
 ((↑(lcp
 (sfx b
 (gt (Sh.int IntKind.i64) o
 (IntKind.i64.wrap
 (low +
 IntKind.i64.wrap
 ((IntKind.i64.wrap (high - low)).tdiv (2 : Int)))).toNat))
 s) :
 Int) =
 (↑(sfx b
 (gt (Sh.int IntKind.i64) o
 (IntKind.i64.wrap
 (low +
 IntKind.i64.wrap
 ((IntKind.i64.wrap (high - low)).tdiv
 (2 : Int)))).toNat)).length :
 Int)))),
 ((49 : Nat), SV.bool true), ((59 : Nat), SV.bool true),
 ((60 : Nat),
 SV.int IntKind.i64
 (IntKind.i64.wrap
 (low + IntKind.i64.wrap ((IntKind.i64.wrap (high - low)).tdiv (2 : Int))))),
 ((61 : Nat),
 SV.int IntKind.i64
 (IntKind.i64.wrap
 (IntKind.i64.wrap
 (low + IntKind.i64.wrap ((IntKind.i64.wrap (high - low)).tdiv (2 : Int))) +
 (1 : Int))))],
 blk := [] })
 ((0 : Int) ≤
 (↑(lcp
 (sfx b
 (gt (Sh.int IntKind.i64) o
 (IntKind.i64.wrap
 (low + IntKind.i64.wrap ((IntKind.i64.wrap (high - low)).tdiv (2 : Int)))).toNat))
 s) :
 Int) ∧
 (↑(lcp
 (sfx b
 (gt (Sh.int IntKind.i64) o
 (IntKind.i64.wrap
 (low + IntKind.i64.wrap ((IntKind.i64.wrap (high - low)).tdiv (2 : Int)))).toNat))
 s) :
 Int) <
 (↑(sfx b
 (gt (Sh.int IntKind.i64) o
 (IntKind.i64.wrap
 (low +
 IntKind.i64.wrap
 ((IntKind.i64.wrap (high - low)).tdiv (2 : Int)))).toNat)).length :
 Int) ∧
 (0 : Int) ≤
 (↑(lcp
 (sfx b
 (gt (Sh.int IntKind.i64) o
 (IntKind.i64.wrap
 (low +
 IntKind.i64.wrap ((IntKind.i64.wrap (high - low)).tdiv (2 : Int)))).toNat))
 s) :
 Int) ∧
 (↑(lcp
 (sfx b
 (gt (Sh.int IntKind.i64) o
 (IntKind.i64.wrap
 (low +
 IntKind.i64.wrap ((IntKind.i64.wrap (high - low)).tdiv (2 : Int)))).toNat))
 s) :
 Int) <
 (↑s.length : Int) ∧
 bc
 (bif false then true
 else
 decide
 (gt (Sh.int IntKind.u8)
 (sfx b
 (gt (Sh.int IntKind.i64) o
 (IntKind.i64.wrap
 (low +
 IntKind.i64.wrap
 ((IntKind.i64.wrap (high - low)).tdiv (2 : Int)))).toNat))
 (↑(lcp
 (sfx b
 (gt (Sh.int IntKind.i64) o
 (IntKind.i64.wrap
 (low +
 IntKind.i64.wrap
 ((IntKind.i64.wrap (high - low)).tdiv (2 : Int)))).toNat))
 s) :
 Int).toNat <
 gt (Sh.int IntKind.u8) s
 (↑(lcp
 (sfx b
 (gt (Sh.int IntKind.i64) o
 (IntKind.i64.wrap
 (low +
 IntKind.i64.wrap
 ((IntKind.i64.wrap (high - low)).tdiv (2 : Int)))).toNat))
 s) :
 Int).toNat))
 (R (hd Try.f27 (0 : Nat))
 {
 env :=
 [((0 : Nat), SV.sl (Sh.int IntKind.u8) b), ((1 : Nat), SV.sl (Sh.int IntKind.i64) o),
 ((2 : Nat), SV.sl (Sh.int IntKind.u8) s),
 ((6 : Nat),
 SV.int IntKind.i64
 (IntKind.i64.wrap
 (low + IntKind.i64.wrap ((IntKind.i64.wrap (high - low)).tdiv (2 : Int))))),
 ((7 : Nat),
 SV.int IntKind.i64
 (↑(lcp
 (sfx b
 (gt (Sh.int IntKind.i64) o
 (IntKind.i64.wrap
 (low +
 IntKind.i64.wrap
 ((IntKind.i64.wrap (high - low)).tdiv (2 : Int)))).toNat))
 s) :
 Int)),
 ((8 : Nat),
 SV.int IntKind.i64
 (IntKind.i64.wrap
 (IntKind.i64.wrap
 (low +
 IntKind.i64.wrap ((IntKind.i64.wrap (high - low)).tdiv (2 : Int))) +
 (1 : Int)))),
 ((9 : Nat), SV.int IntKind.i64 high),
 ((10 : Nat),
 SV.int IntKind.i64
 (IntKind.i64.wrap
 (low + IntKind.i64.wrap ((IntKind.i64.wrap (high - low)).tdiv (2 : Int))))),
 ((11 : Nat),
 SV.sl (Sh.int IntKind.u8)
 (sfx b
 (gt (Sh.int IntKind.i64) o
 (IntKind.i64.wrap
 (low +
 IntKind.i64.wrap
 ((IntKind.i64.wrap (high - low)).tdiv (2 : Int)))).toNat))),
 ((12 : Nat),
 SV.int IntKind.i64
 (↑(lcp
 (sfx b
 (gt (Sh.int IntKind.i64) o
 (IntKind.i64.wrap
 (low +
 IntKind.i64.wrap
 ((IntKind.i64.wrap (high - low)).tdiv (2 : Int)))).toNat))
 s) :
 Int)),
 ((15 : Nat), SV.int IntKind.i64 low), ((16 : Nat), SV.int IntKind.i64 high),
 ((17 : Nat), SV.bool (decide (low < high))), ((18 : Nat), SV.int IntKind.i64 low),
 ((19 : Nat), SV.int IntKind.i64 high), ((20 : Nat), SV.int IntKind.i64 low),
 ((21 : Nat), SV.int IntKind.i64 (IntKind.i64.wrap (high - low))),
 ((22 : Nat),
 SV.int IntKind.i64
 (IntKind.i64.wrap ((IntKind.i64.wrap (high - low)).tdiv (2 : Int)))),
 ((23 : Nat),
 SV.int IntKind.i64
 (IntKind.i64.wrap
 (low + IntKind.i64.wrap ((IntKind.i64.wrap (high - low)).tdiv (2 : Int))))),
 ((24 : Nat), SV.sl (Sh.int IntKind.u8) b),
 ((25 : Nat), SV.sl (Sh.int IntKind.i64) o),
 ((26 : Nat),
 SV.int IntKind.i64
 (IntKind.i64.wrap
 (low + IntKind.i64.wrap ((IntKind.i64.wrap (high - low)).tdiv (2 : Int))))),
 ((27 : Nat),
 SV.elv (Sh.int IntKind.i64)
 (gt (Sh.int IntKind.i64) o
 (IntKind.i64.wrap
 (low +
 IntKind.i64.wrap
 ((IntKind.i64.wrap (high - low)).tdiv (2 : Int)))).toNat)),
 ((28 : Nat),
 SV.int IntKind.i64
 (gt (Sh.int IntKind.i64) o
 (IntKind.i64.wrap
 (low +
 IntKind.i64.wrap
 ((IntKind.i64.wrap (high - low)).tdiv (2 : Int)))).toNat)),
 ((29 : Nat),
 SV.sl (Sh.int IntKind.u8)
 (sfx b
 (gt (Sh.int IntKind.i64) o
 (IntKind.i64.wrap
 (low +
 IntKind.i64.wrap
 ((IntKind.i64.wrap (high - low)).tdiv (2 : Int)))).toNat))),
 ((30 : Nat),
 SV.sl (Sh.int IntKind.u8)
 (sfx b
 (gt (Sh.int IntKind.i64) o
 (IntKind.i64.wrap
 (low +
 IntKind.i64.wrap
 ((IntKind.i64.wrap (high - low)).tdiv (2 : Int)))).toNat))),
 ((31 : Nat), SV.sl (Sh.int IntKind.u8) s),
 ((32 : Nat),
 SV.int IntKind.i64
 (↑(lcp
 (sfx b
 (gt (Sh.int IntKind.i64) o
 (IntKind.i64.wrap
 (low +
 IntKind.i64.wrap
 ((IntKind.i64.wrap (high - low)).tdiv (2 : Int)))).toNat))
 s) :
 Int)),
 ((33 : Nat),
 SV.int IntKind.i64
 (↑(lcp
 (sfx b
 (gt (Sh.int IntKind.i64) o
 (IntKind.i64.wrap
 (low +
 IntKind.i64.wrap
 ((IntKind.i64.wrap (high - low)).tdiv (2 : Int)))).toNat))
 s) :
 Int)),
 ((34 : Nat), SV.int IntKind.i64 n),
 ((35 : Nat),
 SV.bool
 (decide
 (n <
 (↑(lcp
 (sfx b
 (gt (Sh.int IntKind.i64) o
 (IntKind.i64.wrap
 (low +
 IntKind.i64.wrap
 ((IntKind.i64.wrap (high - low)).tdiv (2 : Int)))).toNat))
 s) :
 Int)))),
 ((36 : Nat),
 SV.int IntKind.i64
 (IntKind.i64.wrap
 (low + IntKind.i64.wrap ((IntKind.i64.wrap (high - low)).tdiv (2 : Int))))),
 ((37 : Nat),
 SV.int IntKind.i64
 (↑(lcp
 (sfx b
 (gt (Sh.int IntKind.i64) o
 (IntKind.i64.wrap
 (low +
 IntKind.i64.wrap
 ((IntKind.i64.wrap (high - low)).tdiv (2 : Int)))).toNat))
 s) :
 Int)),
 ((39 : Nat),
 SV.bool
 (decide
 ((↑(lcp
 (sfx b
 (gt (Sh.int IntKind.i64) o
 (IntKind.i64.wrap
 (low +
 IntKind.i64.wrap
 ((IntKind.i64.wrap (high - low)).tdiv (2 : Int)))).toNat))
 s) :
 Int) =
 (↑s.length : Int)))),
 ((40 : Nat),
 SV.int IntKind.i64
 (↑(lcp
 (sfx b
 (gt (Sh.int IntKind.i64) o
 (IntKind.i64.wrap
 (low +
 IntKind.i64.wrap
 ((IntKind.i64.wrap (high - low)).tdiv (2 : Int)))).toNat))
 s) :
 Int)),
 ((41 : Nat), SV.sl (Sh.int IntKind.u8) s),
 ((42 : Nat), SV.int IntKind.i64 (↑s.length : Int)),
 ((43 : Nat),
 SV.bool
 (decide
 ((↑(lcp
 (sfx b
 (gt (Sh.int IntKind.i64) o
 (IntKind.i64.wrap
 (low +
 IntKind.i64.wrap
 ((IntKind.i64.wrap (high - low)).tdiv (2 : Int)))).toNat))
 s) :
 Int) =
 (↑s.length : Int)))),
 ((44 : Nat),
 SV.bool
 (bif false then true
 else
 decide
 (gt (Sh.int IntKind.u8)
 (sfx b
 (gt (Sh.int IntKind.i64) o
 (IntKind.i64.wrap
 (low +
 IntKind.i64.wrap
 ((IntKind.i64.wrap (high - low)).tdiv (2 : Int)))).toNat))
 (↑(lcp
 (sfx b
 (gt (Sh.int IntKind.i64) o
 (IntKind.i64.wrap
 (low +
 IntKind.i64.wrap
 ((IntKind.i64.wrap (high - low)).tdiv
 (2 : Int)))).toNat))
 s) :
 Int).toNat <
 gt (Sh.int IntKind.u8) s
 (↑(lcp
 (sfx b
 (gt (Sh.int IntKind.i64) o
 (IntKind.i64.wrap
 (low +
 IntKind.i64.wrap
 ((IntKind.i64.wrap (high - low)).tdiv
 (2 : Int)))).toNat))
 s) :
 Int).toNat))),
 ((45 : Nat),
 SV.int IntKind.i64
 (↑(lcp
 (sfx b
 (gt (Sh.int IntKind.i64) o
 (IntKind.i64.wrap
 (low +
 IntKind.i64.wrap
 ((IntKind.i64.wrap (high - low)).tdiv (2 : Int)))).toNat))
 s) :
 Int)),
 ((46 : Nat),
 SV.sl (Sh.int IntKind.u8)
 (sfx b
 (gt (Sh.int IntKind.i64) o
 (IntKind.i64.wrap
 (low +
 IntKind.i64.wrap
 ((IntKind.i64.wrap (high - low)).tdiv (2 : Int)))).toNat))),
 ((47 : Nat),
 SV.int IntKind.i64
 (↑(sfx b
 (gt (Sh.int IntKind.i64) o
 (IntKind.i64.wrap
 (low +
 IntKind.i64.wrap
 ((IntKind.i64.wrap (high - low)).tdiv
 (2 : Int)))).toNat)).length :
 Int)),
 ((48 : Nat),
 SV.bool
 (decide
 ((↑(lcp
 (sfx b
 (gt (Sh.int IntKind.i64) o
 (IntKind.i64.wrap
 (low +
 IntKind.i64.wrap
 ((IntKind.i64.wrap (high - low)).tdiv (2 : Int)))).toNat))
 s) :
 Int) =
 (↑(sfx b
 (gt (Sh.int IntKind.i64) o
 (IntKind.i64.wrap
 (low +
 IntKind.i64.wrap
 ((IntKind.i64.wrap (high - low)).tdiv
 (2 : Int)))).toNat)).length :
 Int)))),
 ((49 : Nat), SV.bool false),
 ((50 : Nat),
 SV.sl (Sh.int IntKind.u8)
 (sfx b
 (gt (Sh.int IntKind.i64) o
 (IntKind.i64.wrap
 (low +
 IntKind.i64.wrap
 ((IntKind.i64.wrap (high - low)).tdiv (2 : Int)))).toNat))),
 ((51 : Nat),
 SV.int IntKind.i64
 (↑(lcp
 (sfx b
 (gt (Sh.int IntKind.i64) o
 (IntKind.i64.wrap
 (low +
 IntKind.i64.wrap
 ((IntKind.i64.wrap (high - low)).tdiv (2 : Int)))).toNat))
 s) :
 Int)),
 ((52 : Nat),
 SV.elv (Sh.int IntKind.u8)
 (gt (Sh.int IntKind.u8)
 (sfx b
 (gt (Sh.int IntKind.i64) o
 (IntKind.i64.wrap
 (low +
 IntKind.i64.wrap
 ((IntKind.i64.wrap (high - low)).tdiv (2 : Int)))).toNat))
 (↑(lcp
 (sfx b
 (gt (Sh.int IntKind.i64) o
 (IntKind.i64.wrap
 (low +
 IntKind.i64.wrap
 ((IntKind.i64.wrap (high - low)).tdiv (2 : Int)))).toNat))
 s) :
 Int).toNat)),
 ((53 : Nat),
 SV.int IntKind.u8
 (gt (Sh.int IntKind.u8)
 (sfx b
 (gt (Sh.int IntKind.i64) o
 (IntKind.i64.wrap
 (low +
 IntKind.i64.wrap
 ((IntKind.i64.wrap (high - low)).tdiv (2 : Int)))).toNat))
 (↑(lcp
 (sfx b
 (gt (Sh.int IntKind.i64) o
 (IntKind.i64.wrap
 (low +
 IntKind.i64.wrap
 ((IntKind.i64.wrap (high - low)).tdiv (2 : Int)))).toNat))
 s) :
 Int).toNat)),
 ((54 : Nat), SV.sl (Sh.int IntKind.u8) s),
 ((55 : Nat),
 SV.int IntKind.i64
 (↑(lcp
 (sfx b
 (gt (Sh.int IntKind.i64) o
 (IntKind.i64.wrap
 (low +
 IntKind.i64.wrap
 ((IntKind.i64.wrap (high - low)).tdiv (2 : Int)))).toNat))
 s) :
 Int)),
 ((56 : Nat),
 SV.elv (Sh.int IntKind.u8)
 (gt (Sh.int IntKind.u8) s
 (↑(lcp
 (sfx b
 (gt (Sh.int IntKind.i64) o
 (IntKind.i64.wrap
 (low +
 IntKind.i64.wrap
 ((IntKind.i64.wrap (high - low)).tdiv (2 : Int)))).toNat))
 s) :
 Int).toNat)),
 ((57 : Nat),
 SV.int IntKind.u8
 (gt (Sh.int IntKind.u8) s
 (↑(lcp
 (sfx b
 (gt (Sh.int IntKind.i64) o
 (IntKind.i64.wrap
 (low +
 IntKind.i64.wrap
 ((IntKind.i64.wrap (high - low)).tdiv (2 : Int)))).toNat))
 s) :
 Int).toNat)),
 ((58 : Nat),
 SV.bool
 (decide
 (gt (Sh.int IntKind.u8)
 (sfx b
 (gt (Sh.int IntKind.i64) o
 (IntKind.i64.wrap
 (low +
 IntKind.i64.wrap
 ((IntKind.i64.wrap (high - low)).tdiv (2 : Int)))).toNat))
 (↑(lcp
 (sfx b
 (gt (Sh.int IntKind.i64) o
 (IntKind.i64.wrap
 (low +
 IntKind.i64.wrap
 ((IntKind.i64.wrap (high - low)).tdiv
 (2 : Int)))).toNat))
 s) :
 Int).toNat <
 gt (Sh.int IntKind.u8) s
 (↑(lcp
 (sfx b
 (gt (Sh.int IntKind.i64) o
 (IntKind.i64.wrap
 (low +
 IntKind.i64.wrap
 ((IntKind.i64.wrap (high - low)).tdiv
 (2 : Int)))).toNat))
 s) :
 Int).toNat))),
 ((59 : Nat),
 SV.bool
 (bif false then true
 else
 decide
 (gt (Sh.int IntKind.u8)
 (sfx b
 (gt (Sh.int IntKind.i64) o
 (IntKind.i64.wrap
 (low +
 IntKind.i64.wrap
 ((IntKind.i64.wrap (high - low)).tdiv (2 : Int)))).toNat))
 (↑(lcp
 (sfx b
 (gt (Sh.int IntKind.i64) o
 (IntKind.i64.wrap
 (low +
 IntKind.i64.wrap
 ((IntKind.i64.wrap (high - low)).tdiv
 (2 : Int)))).toNat))
 s) :
 Int).toNat <
 gt (Sh.int IntKind.u8) s
 (↑(lcp
 (sfx b
 (gt (Sh.int IntKind.i64) o
 (IntKind.i64.wrap
 (low +
 IntKind.i64.wrap
 ((IntKind.i64.wrap (high - low)).tdiv
 (2 : Int)))).toNat))
 s) :
 Int).toNat))),
 ((60 : Nat),
 SV.int IntKind.i64
 (IntKind.i64.wrap
 (low + IntKind.i64.wrap ((IntKind.i64.wrap (high - low)).tdiv (2 : Int))))),
 ((61 : Nat),
 SV.int IntKind.i64
 (IntKind.i64.wrap
 (IntKind.i64.wrap
 (low +
 IntKind.i64.wrap ((IntKind.i64.wrap (high - low)).tdiv (2 : Int))) +
 (1 : Int))))],
 blk := [] })
 (R (hd Try.f27 (0 : Nat))
 {
 env :=
 [((0 : Nat), SV.sl (Sh.int IntKind.u8) b), ((1 : Nat), SV.sl (Sh.int IntKind.i64) o),
 ((2 : Nat), SV.sl (Sh.int IntKind.u8) s),
 ((6 : Nat),
 SV.int IntKind.i64
 (IntKind.i64.wrap
 (low + IntKind.i64.wrap ((IntKind.i64.wrap (high - low)).tdiv (2 : Int))))),
 ((7 : Nat),
 SV.int IntKind.i64
 (↑(lcp
 (sfx b
 (gt (Sh.int IntKind.i64) o
 (IntKind.i64.wrap
 (low +
 IntKind.i64.wrap
 ((IntKind.i64.wrap (high - low)).tdiv (2 : Int)))).toNat))
 s) :
 Int)),
 ((8 : Nat), SV.int IntKind.i64 low),
 ((9 : Nat),
 SV.int IntKind.i64
 (IntKind.i64.wrap
 (low + IntKind.i64.wrap ((IntKind.i64.wrap (high - low)).tdiv (2 : Int))))),
 ((10 : Nat),
 SV.int IntKind.i64
 (IntKind.i64.wrap
 (low + IntKind.i64.wrap ((IntKind.i64.wrap (high - low)).tdiv (2 : Int))))),
 ((11 : Nat),
 SV.sl (Sh.int IntKind.u8)
 (sfx b
 (gt (Sh.int IntKind.i64) o
 (IntKind.i64.wrap
 (low +
 IntKind.i64.wrap
 ((IntKind.i64.wrap (high - low)).tdiv (2 : Int)))).toNat))),
 ((12 : Nat),
 SV.int IntKind.i64
 (↑(lcp
 (sfx b
 (gt (Sh.int IntKind.i64) o
 (IntKind.i64.wrap
 (low +
 IntKind.i64.wrap
 ((IntKind.i64.wrap (high - low)).tdiv (2 : Int)))).toNat))
 s) :
 Int)),
 ((15 : Nat), SV.int IntKind.i64 low), ((16 : Nat), SV.int IntKind.i64 high),
 ((17 : Nat), SV.bool (decide (low < high))), ((18 : Nat), SV.int IntKind.i64 low),
 ((19 : Nat), SV.int IntKind.i64 high), ((20 : Nat), SV.int IntKind.i64 low),
 ((21 : Nat), SV.int IntKind.i64 (IntKind.i64.wrap (high - low))),
 ((22 : Nat),
 SV.int IntKind.i64
 (IntKind.i64.wrap ((IntKind.i64.wrap (high - low)).tdiv (2 : Int)))),
 ((23 : Nat),
 SV.int IntKind.i64
 (IntKind.i64.wrap
 (low + IntKind.i64.wrap ((IntKind.i64.wrap (high - low)).tdiv (2 : Int))))),
 ((24 : Nat), SV.sl (Sh.int IntKind.u8) b),
 ((25 : Nat), SV.sl (Sh.int IntKind.i64) o),
 ((26 : Nat),
 SV.int IntKind.i64
 (IntKind.i64.wrap
 (low + IntKind.i64.wrap ((IntKind.i64.wrap (high - low)).tdiv (2 : Int))))),
 ((27 : Nat),
 SV.elv (Sh.int IntKind.i64)
 (gt (Sh.int IntKind.i64) o
 (IntKind.i64.wrap
 (low +
 IntKind.i64.wrap
 ((IntKind.i64.wrap (high - low)).tdiv (2 : Int)))).toNat)),
 ((28 : Nat),
 SV.int IntKind.i64
 (gt (Sh.int IntKind.i64) o
 (IntKind.i64.wrap
 (low +
 IntKind.i64.wrap
 ((IntKind.i64.wrap (high - low)).tdiv (2 : Int)))).toNat)),
 ((29 : Nat),
 SV.sl (Sh.int IntKind.u8)
 (sfx b
 (gt (Sh.int IntKind.i64) o
 (IntKind.i64.wrap
 (low +
 IntKind.i64.wrap
 ((IntKind.i64.wrap (high - low)).tdiv (2 : Int)))).toNat))),
 ((30 : Nat),
 SV.sl (Sh.int IntKind.u8)
 (sfx b
 (gt (Sh.int IntKind.i64) o
 (IntKind.i64.wrap
 (low +
 IntKind.i64.wrap
 ((IntKind.i64.wrap (high - low)).tdiv (2 : Int)))).toNat))),
 ((31 : Nat), SV.sl (Sh.int IntKind.u8) s),
 ((32 : Nat),
 SV.int IntKind.i64
 (↑(lcp
 (sfx b
 (gt (Sh.int IntKind.i64) o
 (IntKind.i64.wrap
 (low +
 IntKind.i64.wrap
 ((IntKind.i64.wrap (high - low)).tdiv (2 : Int)))).toNat))
 s) :
 Int)),
 ((33 : Nat),
 SV.int IntKind.i64
 (↑(lcp
 (sfx b
 (gt (Sh.int IntKind.i64) o
 (IntKind.i64.wrap
 (low +
 IntKind.i64.wrap
 ((IntKind.i64.wrap (high - low)).tdiv (2 : Int)))).toNat))
 s) :
 Int)),
 ((34 : Nat), SV.int IntKind.i64 n),
 ((35 : Nat),
 SV.bool
 (decide
 (n <
 (↑(lcp
 (sfx b
 (gt (Sh.int IntKind.i64) o
 (IntKind.i64.wrap
 (low +
 IntKind.i64.wrap
 ((IntKind.i64.wrap (high - low)).tdiv (2 : Int)))).toNat))
 s) :
 Int)))),
 ((36 : Nat),
 SV.int IntKind.i64
 (IntKind.i64.wrap
 (low + IntKind.i64.wrap ((IntKind.i64.wrap (high - low)).tdiv (2 : Int))))),
 ((37 : Nat),
 SV.int IntKind.i64
 (↑(lcp
 (sfx b
 (gt (Sh.int IntKind.i64) o
 (IntKind.i64.wrap
 (low +
 IntKind.i64.wrap
 ((IntKind.i64.wrap (high - low)).tdiv (2 : Int)))).toNat))
 s) :
 Int)),
 ((38 : Nat),
 SV.int IntKind.i64
 (IntKind.i64.wrap
 (low + IntKind.i64.wrap ((IntKind.i64.wrap (high - low)).tdiv (2 : Int))))),
 ((39 : Nat),
 SV.bool
 (decide
 ((↑(lcp
 (sfx b
 (gt (Sh.int IntKind.i64) o
 (IntKind.i64.wrap
 (low +
 IntKind.i64.wrap
 ((IntKind.i64.wrap (high - low)).tdiv (2 : Int)))).toNat))
 s) :
 Int) =
 (↑s.length : Int)))),
 ((40 : Nat),
 SV.int IntKind.i64
 (↑(lcp
 (sfx b
 (gt (Sh.int IntKind.i64) o
 (IntKind.i64.wrap
 (low +
 IntKind.i64.wrap
 ((IntKind.i64.wrap (high - low)).tdiv (2 : Int)))).toNat))
 s) :
 Int)),
 ((41 : Nat), SV.sl (Sh.int IntKind.u8) s),
 ((42 : Nat), SV.int IntKind.i64 (↑s.length : Int)),
 ((43 : Nat),
 SV.bool
 (decide
 ((↑(lcp
 (sfx b
 (gt (Sh.int IntKind.i64) o
 (IntKind.i64.wrap
 (low +
 IntKind.i64.wrap
 ((IntKind.i64.wrap (high - low)).tdiv (2 : Int)))).toNat))
 s) :
 Int) =
 (↑s.length : Int)))),
 ((44 : Nat),
 SV.bool
 (bif false then true
 else
 decide
 (gt (Sh.int IntKind.u8)
 (sfx b
 (gt (Sh.int IntKind.i64) o
 (IntKind.i64.wrap
 (low +
 IntKind.i64.wrap
 ((IntKind.i64.wrap (high - low)).tdiv (2 : Int)))).toNat))
 (↑(lcp
 (sfx b
 (gt (Sh.int IntKind.i64) o
 (IntKind.i64.wrap
 (low +
 IntKind.i64.wrap
 ((IntKind.i64.wrap (high - low)).tdiv
 (2 : Int)))).toNat))
 s) :
 Int).toNat <
 gt (Sh.int IntKind.u8) s
 (↑(lcp
 (sfx b
 (gt (Sh.int IntKind.i64) o
 (IntKind.i64.wrap
 (low +
 IntKind.i64.wrap
 ((IntKind.i64.wrap (high - low)).tdiv
 (2 : Int)))).toNat))
 s) :
 Int).toNat))),
 ((45 : Nat),
 SV.int IntKind.i64
 (↑(lcp
 (sfx b
 (gt (Sh.int IntKind.i64) o
 (IntKind.i64.wrap
 (low +
 IntKind.i64.wrap
 ((IntKind.i64.wrap (high - low)).tdiv (2 : Int)))).toNat))
 s) :
 Int)),
 ((46 : Nat),
 SV.sl (Sh.int IntKind.u8)
 (sfx b
 (gt (Sh.int IntKind.i64) o
 (IntKind.i64.wrap
 (low +
 IntKind.i64.wrap
 ((IntKind.i64.wrap (high - low)).tdiv (2 : Int)))).toNat))),
 ((47 : Nat),
 SV.int IntKind.i64
 (↑(sfx b
 (gt (Sh.int IntKind.i64) o
 (IntKind.i64.wrap
 (low +
 IntKind.i64.wrap
 ((IntKind.i64.wrap (high - low)).tdiv
 (2 : Int)))).toNat)).length :
 Int)),
 ((48 : Nat),
 SV.bool
 (decide
 ((↑(lcp
 (sfx b
 (gt (Sh.int IntKind.i64) o
 (IntKind.i64.wrap
 (low +
 IntKind.i64.wrap
 ((IntKind.i64.wrap (high - low)).tdiv (2 : Int)))).toNat))
 s) :
 Int) =
 (↑(sfx b
 (gt (Sh.int IntKind.i64) o
 (IntKind.i64.wrap
 (low +
 IntKind.i64.wrap
 ((IntKind.i64.wrap (high - low)).tdiv
 (2 : Int)))).toNat)).length :
 Int)))),
 ((49 : Nat), SV.bool false),
 ((50 : Nat),
 SV.sl (Sh.int IntKind.u8)
 (sfx b
 (gt (Sh.int IntKind.i64) o
 (IntKind.i64.wrap
 (low +
 IntKind.i64.wrap
 ((IntKind.i64.wrap (high - low)).tdiv (2 : Int)))).toNat))),
 ((51 : Nat),
 SV.int IntKind.i64
 (↑(lcp
 (sfx b
 (gt (Sh.int IntKind.i64) o
 (IntKind.i64.wrap
 (low +
 IntKind.i64.wrap
 ((IntKind.i64.wrap (high - low)).tdiv (2 : Int)))).toNat))
 s) :
 Int)),
 ((52 : Nat),
 SV.elv (Sh.int IntKind.u8)
 (gt (Sh.int IntKind.u8)
 (sfx b
 (gt (Sh.int IntKind.i64) o
 (IntKind.i64.wrap
 (low +
 IntKind.i64.wrap
 ((IntKind.i64.wrap (high - low)).tdiv (2 : Int)))).toNat))
 (↑(lcp
 (sfx b
 (gt (Sh.int IntKind.i64) o
 (IntKind.i64.wrap
 (low +
 IntKind.i64.wrap
 ((IntKind.i64.wrap (high - low)).tdiv (2 : Int)))).toNat))
 s) :
 Int).toNat)),
 ((53 : Nat),
 SV.int IntKind.u8
 (gt (Sh.int IntKind.u8)
 (sfx b
 (gt (Sh.int IntKind.i64) o
 (IntKind.i64.wrap
 (low +
 IntKind.i64.wrap
 ((IntKind.i64.wrap (high - low)).tdiv (2 : Int)))).toNat))
 (↑(lcp
 (sfx b
 (gt (Sh.int IntKind.i64) o
 (IntKind.i64.wrap
 (low +
 IntKind.i64.wrap
 ((IntKind.i64.wrap (high - low)).tdiv (2 : Int)))).toNat))
 s) :
 Int).toNat)),
 ((54 : Nat), SV.sl (Sh.int IntKind.u8) s),
 ((55 : Nat),
 SV.int IntKind.i64
 (↑(lcp
 (sfx b
 (gt (Sh.int IntKind.i64) o
 (IntKind.i64.wrap
 (low +
 IntKind.i64.wrap
 ((IntKind.i64.wrap (high - low)).tdiv (2 : Int)))).toNat))
 s) :
 Int)),
 ((56 : Nat),
 SV.elv (Sh.int IntKind.u8)
 (gt (Sh.int IntKind.u8) s
 (↑(lcp
 (sfx b
 (gt (Sh.int IntKind.i64) o
 (IntKind.i64.wrap
 (low +
 IntKind.i64.wrap
 ((IntKind.i64.wrap (high - low)).tdiv (2 : Int)))).toNat))
 s) :
 Int).toNat)),
 ((57 : Nat),
 SV.int IntKind.u8
 (gt (Sh.int IntKind.u8) s
 (↑(lcp
 (sfx b
 (gt (Sh.int IntKind.i64) o
 (IntKind.i64.wrap
 (low +
 IntKind.i64.wrap
 ((IntKind.i64.wrap (high - low)).tdiv (2 : Int)))).toNat))
 s) :
 Int).toNat)),
 ((58 : Nat),
 SV.bool
 (decide
 (gt (Sh.int IntKind.u8)
 (sfx b
 (gt (Sh.int IntKind.i64) o
 (IntKind.i64.wrap
 (low +
 IntKind.i64.wrap
 ((IntKind.i64.wrap (high - low)).tdiv (2 : Int)))).toNat))
 (↑(lcp
 (sfx b
 (gt (Sh.int IntKind.i64) o
 (IntKind.i64.wrap
 (low +
 IntKind.i64.wrap
 ((IntKind.i64.wrap (high - low)).tdiv
 (2 : Int)))).toNat))
 s) :
 Int).toNat <
 gt (Sh.int IntKind.u8) s
 (↑(lcp
 (sfx b
 (gt (Sh.int IntKind.i64) o
 (IntKind.i64.wrap
 (low +
 IntKind.i64.wrap
 ((IntKind.i64.wrap (high - low)).tdiv
 (2 : Int)))).toNat))
 s) :
 Int).toNat))),
 ((59 : Nat),
 SV.bool
 (bif false then true
 else
 decide
 (gt (Sh.int IntKind.u8)
 (sfx b
 (gt (Sh.int IntKind.i64) o
 (IntKind.i64.wrap
 (low +
 IntKind.i64.wrap
 ((IntKind.i64.wrap (high - low)).tdiv (2 : Int)))).toNat))
 (↑(lcp
 (sfx b
 (gt (Sh.int IntKind.i64) o
 (IntKind.i64.wrap
 (low +
 IntKind.i64.wrap
 ((IntKind.i64.wrap (high - low)).tdiv
 (2 : Int)))).toNat))
 s) :
 Int).toNat <
 gt (Sh.int IntKind.u8) s
 (↑(lcp
 (sfx b
 (gt (Sh.int IntKind.i64) o
 (IntKind.i64.wrap
 (low +
 IntKind.i64.wrap
 ((IntKind.i64.wrap (high - low)).tdiv
 (2 : Int)))).toNat))
 s) :
 Int).toNat)))],
 blk := [] }))))
 (bc
 (decide
 ((↑(lcp
 (sfx b
 (gt (Sh.int IntKind.i64) o
 (IntKind.i64.wrap
 (low + IntKind.i64.wrap ((IntKind.i64.wrap (high - low)).tdiv (2 : Int)))).toNat))
 s) :
 Int) =
 (↑s.length : Int)))
 (Q [SV.int IntKind.i64 best, SV.int IntKind.i64 n] [])
 (bc
 (decide
 ((↑(lcp
 (sfx b
 (gt (Sh.int IntKind.i64) o
 (IntKind.i64.wrap
 (low + IntKind.i64.wrap ((IntKind.i64.wrap (high - low)).tdiv (2 : Int)))).toNat))
 s) :
 Int) =
 (↑(sfx b
 (gt (Sh.int IntKind.i64) o
 (IntKind.i64.wrap
 (low +
 IntKind.i64.wrap
 ((IntKind.i64.wrap (high - low)).tdiv (2 : Int)))).toNat)).length :
 Int)))
 (true = true ∧
 R (hd Try.f27 (0 : Nat))
 {
 env :=
 [((0 : Nat), SV.sl (Sh.int IntKind.u8) b), ((1 : Nat), SV.sl (Sh.int IntKind.i64) o),
 ((2 : Nat), SV.sl (Sh.int IntKind.u8) s), ((6 : Nat), SV.int IntKind.i64 best),
 ((7 : Nat), SV.int IntKind.i64 n),
 ((8 : Nat),
 SV.int IntKind.i64
 (IntKind.i64.wrap
 (IntKind.i64.wrap
 (low + IntKind.i64.wrap ((IntKind.i64.wrap (high - low)).tdiv (2 : Int))) +
 (1 : Int)))),
 ((9 : Nat), SV.int IntKind.i64 high),
 ((10 : Nat),
 SV.int IntKind.i64
 (IntKind.i64.wrap
 (low + IntKind.i64.wrap ((IntKind.i64.wrap (high - low)).tdiv (2 : Int))))),
 ((11 : Nat),
 SV.sl (Sh.int IntKind.u8)
 (sfx b
 (gt (Sh.int IntKind.i64) o
 (IntKind.i64.wrap
 (low +
 IntKind.i64.wrap ((IntKind.i64.wrap (high - low)).tdiv (2 : Int)))).toNat))),
 ((12 : Nat),
 SV.int IntKind.i64
 (↑(lcp
 (sfx b
 (gt (Sh.int IntKind.i64) o
 (IntKind.i64.wrap
 (low +
 IntKind.i64.wrap
 ((IntKind.i64.wrap (high - low)).tdiv (2 : Int)))).toNat))
 s) :
 Int)),
 ((15 : Nat), SV.int IntKind.i64 low), ((16 : Nat), SV.int IntKind.i64 high),
 ((17 : Nat), SV.bool (decide (low < high))), ((18 : Nat), SV.int IntKind.i64 low),
 ((19 : Nat), SV.int IntKind.i64 high), ((20 : Nat), SV.int IntKind.i64 low),
 ((21 : Nat), SV.int IntKind.i64 (IntKind.i64.wrap (high - low))),
 ((22 : Nat),
 SV.int IntKind.i64 (IntKind.i64.wrap ((IntKind.i64.wrap (high - low)).tdiv (2 : Int)))),
 ((23 : Nat),
 SV.int IntKind.i64
 (IntKind.i64.wrap
 (low + IntKind.i64.wrap ((IntKind.i64.wrap (high - low)).tdiv (2 : Int))))),
 ((24 : Nat), SV.sl (Sh.int IntKind.u8) b), ((25 : Nat), SV.sl (Sh.int IntKind.i64) o),
 ((26 : Nat),
 SV.int IntKind.i64
 (IntKind.i64.wrap
 (low + IntKind.i64.wrap ((IntKind.i64.wrap (high - low)).tdiv (2 : Int))))),
 ((27 : Nat),
 SV.elv (Sh.int IntKind.i64)
 (gt (Sh.int IntKind.i64) o
 (IntKind.i64.wrap
 (low +
 IntKind.i64.wrap ((IntKind.i64.wrap (high - low)).tdiv (2 : Int)))).toNat)),
 ((28 : Nat),
 SV.int IntKind.i64
 (gt (Sh.int IntKind.i64) o
 (IntKind.i64.wrap
 (low +
 IntKind.i64.wrap ((IntKind.i64.wrap (high - low)).tdiv (2 : Int)))).toNat)),
 ((29 : Nat),
 SV.sl (Sh.int IntKind.u8)
 (sfx b
 (gt (Sh.int IntKind.i64) o
 (IntKind.i64.wrap
 (low +
 IntKind.i64.wrap ((IntKind.i64.wrap (high - low)).tdiv (2 : Int)))).toNat))),
 ((30 : Nat),
 SV.sl (Sh.int IntKind.u8)
 (sfx b
 (gt (Sh.int IntKind.i64) o
 (IntKind.i64.wrap
 (low +
 IntKind.i64.wrap ((IntKind.i64.wrap (high - low)).tdiv (2 : Int)))).toNat))),
 ((31 : Nat), SV.sl (Sh.int IntKind.u8) s),
 ((32 : Nat),
 SV.int IntKind.i64
 (↑(lcp
 (sfx b
 (gt (Sh.int IntKind.i64) o
 (IntKind.i64.wrap
 (low +
 IntKind.i64.wrap
 ((IntKind.i64.wrap (high - low)).tdiv (2 : Int)))).toNat))
 s) :
 Int)),
 ((33 : Nat),
 SV.int IntKind.i64
 (↑(lcp
 (sfx b
 (gt (Sh.int IntKind.i64) o
 (IntKind.i64.wrap
 (low +
 IntKind.i64.wrap
 ((IntKind.i64.wrap (high - low)).tdiv (2 : Int)))).toNat))
 s) :
 Int)),
 ((34 : Nat), SV.int IntKind.i64 n),
 ((35 : Nat),
 SV.bool
 (decide
 (n <
 (↑(lcp
 (sfx b
 (gt (Sh.int IntKind.i64) o
 (IntKind.i64.wrap
 (low +
 IntKind.i64.wrap
 ((IntKind.i64.wrap (high - low)).tdiv (2 : Int)))).toNat))
 s) :
 Int)))),
 ((39 : Nat),
 SV.bool
 (decide
 ((↑(lcp
 (sfx b
 (gt (Sh.int IntKind.i64) o
 (IntKind.i64.wrap
 (low +
 IntKind.i64.wrap
 ((IntKind.i64.wrap (high - low)).tdiv (2 : Int)))).toNat))
 s) :
 Int) =
 (↑s.length : Int)))),
 ((40 : Nat),
 SV.int IntKind.i64
 (↑(lcp
 (sfx b
 (gt (Sh.int IntKind.i64) o
 (IntKind.i64.wrap
 (low +
 IntKind.i64.wrap
 ((IntKind.i64.wrap (high - low)).tdiv (2 : Int)))).toNat))
 s) :
 Int)),
 ((41 : Nat), SV.sl (Sh.int IntKind.u8) s),
 ((42 : Nat), SV.int IntKind.i64 (↑s.length : Int)),
 ((43 : Nat),
 SV.bool
 (decide
 ((↑(lcp
 (sfx b
 (gt (Sh.int IntKind.i64) o
 (IntKind.i64.wrap
 (low +
 IntKind.i64.wrap
 ((IntKind.i64.wrap (high - low)).tdiv (2 : Int)))).toNat))
 s) :
 Int) =
 (↑s.length : Int)))),
 ((44 : Nat), SV.bool true),
 ((45 : Nat),
 SV.int IntKind.i64
 (↑(lcp
 (sfx b
 (gt (Sh.int IntKind.i64) o
 (IntKind.i64.wrap
 (low +
 IntKind.i64.wrap
 ((IntKind.i64.wrap (high - low)).tdiv (2 : Int)))).toNat))
 s) :
 Int)),
 ((46 : Nat),
 SV.sl (Sh.int IntKind.u8)
 (sfx b
 (gt (Sh.int IntKind.i64) o
 (IntKind.i64.wrap
 (low +
 IntKind.i64.wrap ((IntKind.i64.wrap (high - low)).tdiv (2 : Int)))).toNat))),
 ((47 : Nat),
 SV.int IntKind.i64
 (↑(sfx b
 (gt (Sh.int IntKind.i64) o
 (IntKind.i64.wrap
 (low +
 IntKind.i64.wrap
 ((IntKind.i64.wrap (high - low)).tdiv (2 : Int)))).toNat)).length :
 Int)),
 ((48 : Nat),
 SV.bool
 (decide
 ((↑(lcp
 (sfx b
 (gt (Sh.int IntKind.i64) o
 (IntKind.i64.wrap
 (low +
 IntKind.i64.wrap
 ((IntKind.i64.wrap (high - low)).tdiv (2 : Int)))).toNat))
 s) :
 Int) =
 (↑(sfx b
 (gt (Sh.int IntKind.i64) o
 (IntKind.i64.wrap
 (low +
 IntKind.i64.wrap
 ((IntKind.i64.wrap (high - low)).tdiv
 (2 : Int)))).toNat)).length :
 Int)))),
 ((49 : Nat), SV.bool true), ((59 : Nat), SV.bool true),
 ((60 : Nat),
 SV.int IntKind.i64
 (IntKind.i64.wrap
 (low + IntKind.i64.wrap ((IntKind.i64.wrap (high - low)).tdiv (2 : Int))))),
 ((61 : Nat),
 SV.int IntKind.i64
 (IntKind.i64.wrap
 (IntKind.i64.wrap
 (low + IntKind.i64.wrap ((IntKind.i64.wrap (high - low)).tdiv (2 : Int))) +
 (1 : Int))))],
 blk := [] })
 ((0 : Int) ≤
 (↑(lcp
 (sfx b
 (gt (Sh.int IntKind.i64) o
 (IntKind.i64.wrap
 (low + IntKind.i64.wrap ((IntKind.i64.wrap (high - low)).tdiv (2 : Int)))).toNat))
 s) :
 Int) ∧
 (↑(lcp
 (sfx b
 (gt (Sh.int IntKind.i64) o
 (IntKind.i64.wrap
 (low + IntKind.i64.wrap ((IntKind.i64.wrap (high - low)).tdiv (2 : Int)))).toNat))
 s) :
 Int) <
 (↑(sfx b
 (gt (Sh.int IntKind.i64) o
 (IntKind.i64.wrap
 (low +
 IntKind.i64.wrap
 ((IntKind.i64.wrap (high - low)).tdiv (2 : Int)))).toNat)).length :
 Int) ∧
 (0 : Int) ≤
 (↑(lcp
 (sfx b
 (gt (Sh.int IntKind.i64) o
 (IntKind.i64.wrap
 (low +
 IntKind.i64.wrap ((IntKind.i64.wrap (high - low)).tdiv (2 : Int)))).toNat))
 s) :
 Int) ∧
 (↑(lcp
 (sfx b
 (gt (Sh.int IntKind.i64) o
 (IntKind.i64.wrap
 (low +
 IntKind.i64.wrap ((IntKind.i64.wrap (high - low)).tdiv (2 : Int)))).toNat))
 s) :
 Int) <
 (↑s.length : Int) ∧
 bc
 (bif false then true
 else
 decide
 (gt (Sh.int IntKind.u8)
 (sfx b
 (gt (Sh.int IntKind.i64) o
 (IntKind.i64.wrap
 (low +
 IntKind.i64.wrap
 ((IntKind.i64.wrap (high - low)).tdiv (2 : Int)))).toNat))
 (↑(lcp
 (sfx b
 (gt (Sh.int IntKind.i64) o
 (IntKind.i64.wrap
 (low +
 IntKind.i64.wrap
 ((IntKind.i64.wrap (high - low)).tdiv (2 : Int)))).toNat))
 s) :
 Int).toNat <
 gt (Sh.int IntKind.u8) s
 (↑(lcp
 (sfx b
 (gt (Sh.int IntKind.i64) o
 (IntKind.i64.wrap
 (low +
 IntKind.i64.wrap
 ((IntKind.i64.wrap (high - low)).tdiv (2 : Int)))).toNat))
 s) :
 Int).toNat))
 (R (hd Try.f27 (0 : Nat))
 {
 env :=
 [((0 : Nat), SV.sl (Sh.int IntKind.u8) b), ((1 : Nat), SV.sl (Sh.int IntKind.i64) o),
 ((2 : Nat), SV.sl (Sh.int IntKind.u8) s), ((6 : Nat), SV.int IntKind.i64 best),
 ((7 : Nat), SV.int IntKind.i64 n),
 ((8 : Nat),
 SV.int IntKind.i64
 (IntKind.i64.wrap
 (IntKind.i64.wrap
 (low +
 IntKind.i64.wrap ((IntKind.i64.wrap (high - low)).tdiv (2 : Int))) +
 (1 : Int)))),
 ((9 : Nat), SV.int IntKind.i64 high),
 ((10 : Nat),
 SV.int IntKind.i64
 (IntKind.i64.wrap
 (low + IntKind.i64.wrap ((IntKind.i64.wrap (high - low)).tdiv (2 : Int))))),
 ((11 : Nat),
 SV.sl (Sh.int IntKind.u8)
 (sfx b
 (gt (Sh.int IntKind.i64) o
 (IntKind.i64.wrap
 (low +
 IntKind.i64.wrap
 ((IntKind.i64.wrap (high - low)).tdiv (2 : Int)))).toNat))),
 ((12 : Nat),
 SV.int IntKind.i64
 (↑(lcp
 (sfx b
 (gt (Sh.int IntKind.i64) o
 (IntKind.i64.wrap
 (low +
 IntKind.i64.wrap
 ((IntKind.i64.wrap (high - low)).tdiv (2 : Int)))).toNat))
 s) :
 Int)),
 ((15 : Nat), SV.int IntKind.i64 low), ((16 : Nat), SV.int IntKind.i64 high),
 ((17 : Nat), SV.bool (decide (low < high))), ((18 : Nat), SV.int IntKind.i64 low),
 ((19 : Nat), SV.int IntKind.i64 high), ((20 : Nat), SV.int IntKind.i64 low),
 ((21 : Nat), SV.int IntKind.i64 (IntKind.i64.wrap (high - low))),
 ((22 : Nat),
 SV.int IntKind.i64
 (IntKind.i64.wrap ((IntKind.i64.wrap (high - low)).tdiv (2 : Int)))),
 ((23 : Nat),
 SV.int IntKind.i64
 (IntKind.i64.wrap
 (low + IntKind.i64.wrap ((IntKind.i64.wrap (high - low)).tdiv (2 : Int))))),
 ((24 : Nat), SV.sl (Sh.int IntKind.u8) b),
 ((25 : Nat), SV.sl (Sh.int IntKind.i64) o),
 ((26 : Nat),
 SV.int IntKind.i64
 (IntKind.i64.wrap
 (low + IntKind.i64.wrap ((IntKind.i64.wrap (high - low)).tdiv (2 : Int))))),
 ((27 : Nat),
 SV.elv (Sh.int IntKind.i64)
 (gt (Sh.int IntKind.i64) o
 (IntKind.i64.wrap
 (low +
 IntKind.i64.wrap
 ((IntKind.i64.wrap (high - low)).tdiv (2 : Int)))).toNat)),
 ((28 : Nat),
 SV.int IntKind.i64
 (gt (Sh.int IntKind.i64) o
 (IntKind.i64.wrap
 (low +
 IntKind.i64.wrap
 ((IntKind.i64.wrap (high - low)).tdiv (2 : Int)))).toNat)),
 ((29 : Nat),
 SV.sl (Sh.int IntKind.u8)
 (sfx b
 (gt (Sh.int IntKind.i64) o
 (IntKind.i64.wrap
 (low +
 IntKind.i64.wrap
 ((IntKind.i64.wrap (high - low)).tdiv (2 : Int)))).toNat))),
 ((30 : Nat),
 SV.sl (Sh.int IntKind.u8)
 (sfx b
 (gt (Sh.int IntKind.i64) o
 (IntKind.i64.wrap
 (low +
 IntKind.i64.wrap
 ((IntKind.i64.wrap (high - low)).tdiv (2 : Int)))).toNat))),
 ((31 : Nat), SV.sl (Sh.int IntKind.u8) s),
 ((32 : Nat),
 SV.int IntKind.i64
 (↑(lcp
 (sfx b
 (gt (Sh.int IntKind.i64) o
 (IntKind.i64.wrap
 (low +
 IntKind.i64.wrap
 ((IntKind.i64.wrap (high - low)).tdiv (2 : Int)))).toNat))
 s) :
 Int)),
 ((33 : Nat),
 SV.int IntKind.i64
 (↑(lcp
 (sfx b
 (gt (Sh.int IntKind.i64) o
 (IntKind.i64.wrap
 (low +
 IntKind.i64.wrap
 ((IntKind.i64.wrap (high - low)).tdiv (2 : Int)))).toNat))
 s) :
 Int)),
 ((34 : Nat), SV.int IntKind.i64 n),
 ((35 : Nat),
 SV.bool
 (decide
 (n <
 (↑(lcp
 (sfx b
 (gt (Sh.int IntKind.i64) o
 (IntKind.i64.wrap
 (low +
 IntKind.i64.wrap
 ((IntKind.i64.wrap (high - low)).tdiv (2 : Int)))).toNat))
 s) :
 Int)))),
 ((39 : Nat),
 SV.bool
 (decide
 ((↑(lcp
 (sfx b
 (gt (Sh.int IntKind.i64) o
 (IntKind.i64.wrap
 (low +
 IntKind.i64.wrap
 ((IntKind.i64.wrap (high - low)).tdiv (2 : Int)))).toNat))
 s) :
 Int) =
 (↑s.length : Int)))),
 ((40 : Nat),
 SV.int IntKind.i64
 (↑(lcp
 (sfx b
 (gt (Sh.int IntKind.i64) o
 (IntKind.i64.wrap
 (low +
 IntKind.i64.wrap
 ((IntKind.i64.wrap (high - low)).tdiv (2 : Int)))).toNat))
 s) :
 Int)),
 ((41 : Nat), SV.sl (Sh.int IntKind.u8) s),
 ((42 : Nat), SV.int IntKind.i64 (↑s.length : Int)),
 ((43 : Nat),
 SV.bool
 (decide
 ((↑(lcp
 (sfx b
 (gt (Sh.int IntKind.i64) o
 (IntKind.i64.wrap
 (low +
 IntKind.i64.wrap
 ((IntKind.i64.wrap (high - low)).tdiv (2 : Int)))).toNat))
 s) :
 Int) =
 (↑s.length : Int)))),
 ((44 : Nat),
 SV.bool
 (bif false then true
 else
 decide
 (gt (Sh.int IntKind.u8)
 (sfx b
 (gt (Sh.int IntKind.i64) o
 (IntKind.i64.wrap
 (low +
 IntKind.i64.wrap
 ((IntKind.i64.wrap (high - low)).tdiv (2 : Int)))).toNat))
 (↑(lcp
 (sfx b
 (gt (Sh.int IntKind.i64) o
 (IntKind.i64.wrap
 (low +
 IntKind.i64.wrap
 ((IntKind.i64.wrap (high - low)).tdiv
 (2 : Int)))).toNat))
 s) :
 Int).toNat <
 gt (Sh.int IntKind.u8) s
 (↑(lcp
 (sfx b
 (gt (Sh.int IntKind.i64) o
 (IntKind.i64.wrap
 (low +
 IntKind.i64.wrap
 ((IntKind.i64.wrap (high - low)).tdiv
 (2 : Int)))).toNat))
 s) :
 Int).toNat))),
 ((45 : Nat),
 SV.int IntKind.i64
 (↑(lcp
 (sfx b
 (gt (Sh.int IntKind.i64) o
 (IntKind.i64.wrap
 (low +
 IntKind.i64.wrap
 ((IntKind.i64.wrap (high - low)).tdiv (2 : Int)))).toNat))
 s) :
 Int)),
 ((46 : Nat),
 SV.sl (Sh.int IntKind.u8)
 (sfx b
 (gt (Sh.int IntKind.i64) o
 (IntKind.i64.wrap
 (low +
 IntKind.i64.wrap
 ((IntKind.i64.wrap (high - low)).tdiv (2 : Int)))).toNat))),
 ((47 : Nat),
 SV.int IntKind.i64
 (↑(sfx b
 (gt (Sh.int IntKind.i64) o
 (IntKind.i64.wrap
 (low +
 IntKind.i64.wrap
 ((IntKind.i64.wrap (high - low)).tdiv
 (2 : Int)))).toNat)).length :
 Int)),
 ((48 : Nat),
 SV.bool
 (decide
 ((↑(lcp
 (sfx b
 (gt (Sh.int IntKind.i64) o
 (IntKind.i64.wrap
 (low +
 IntKind.i64.wrap
 ((IntKind.i64.wrap (high - low)).tdiv (2 : Int)))).toNat))
 s) :
 Int) =
 (↑(sfx b
 (gt (Sh.int IntKind.i64) o
 (IntKind.i64.wrap
 (low +
 IntKind.i64.wrap
 ((IntKind.i64.wrap (high - low)).tdiv
 (2 : Int)))).toNat)).length :
 Int)))),
 ((49 : Nat), SV.bool false),
 ((50 : Nat),
 SV.sl (Sh.int IntKind.u8)
 (sfx b
 (gt (Sh.int IntKind.i64) o
 (IntKind.i64.wrap
 (low +
 IntKind.i64.wrap
 ((IntKind.i64.wrap (high - low)).tdiv (2 : Int)))).toNat))),
 ((51 : Nat),
 SV.int IntKind.i64
 (↑(lcp
 (sfx b
 (gt (Sh.int IntKind.i64) o
 (IntKind.i64.wrap
 (low +
 IntKind.i64.wrap
 ((IntKind.i64.wrap (high - low)).tdiv (2 : Int)))).toNat))
 s) :
 Int)),
 ((52 : Nat),
 SV.elv (Sh.int IntKind.u8)
 (gt (Sh.int IntKind.u8)
 (sfx b
 (gt (Sh.int IntKind.i64) o
 (IntKind.i64.wrap
 (low +
 IntKind.i64.wrap
 ((IntKind.i64.wrap (high - low)).tdiv (2 : Int)))).toNat))
 (↑(lcp
 (sfx b
 (gt (Sh.int IntKind.i64) o
 (IntKind.i64.wrap
 (low +
 IntKind.i64.wrap
 ((IntKind.i64.wrap (high - low)).tdiv (2 : Int)))).toNat))
 s) :
 Int).toNat)),
 ((53 : Nat),
 SV.int IntKind.u8
 (gt (Sh.int IntKind.u8)
 (sfx b
 (gt (Sh.int IntKind.i64) o
 (IntKind.i64.wrap
 (low +
 IntKind.i64.wrap
 ((IntKind.i64.wrap (high - low)).tdiv (2 : Int)))).toNat))
 (↑(lcp
 (sfx b
 (gt (Sh.int IntKind.i64) o
 (IntKind.i64.wrap
 (low +
 IntKind.i64.wrap
 ((IntKind.i64.wrap (high - low)).tdiv (2 : Int)))).toNat))
 s) :
 Int).toNat)),
 ((54 : Nat), SV.sl (Sh.int IntKind.u8) s),
 ((55 : Nat),
 SV.int IntKind.i64
 (↑(lcp
 (sfx b
 (gt (Sh.int IntKind.i64) o
 (IntKind.i64.wrap
 (low +
 IntKind.i64.wrap
 ((IntKind.i64.wrap (high - low)).tdiv (2 : Int)))).toNat))
 s) :
 Int)),
 ((56 : Nat),
 SV.elv (Sh.int IntKind.u8)
 (gt (Sh.int IntKind.u8) s
 (↑(lcp
 (sfx b
 (gt (Sh.int IntKind.i64) o
 (IntKind.i64.wrap
 (low +
 IntKind.i64.wrap
 ((IntKind.i64.wrap (high - low)).tdiv (2 : Int)))).toNat))
 s) :
 Int).toNat)),
 ((57 : Nat),
 SV.int IntKind.u8
 (gt (Sh.int IntKind.u8) s
 (↑(lcp
 (sfx b
 (gt (Sh.int IntKind.i64) o
 (IntKind.i64.wrap
 (low +
 IntKind.i64.wrap
 ((IntKind.i64.wrap (high - low)).tdiv (2 : Int)))).toNat))
 s) :
 Int).toNat)),
 ((58 : Nat),
 SV.bool
 (decide
 (gt (Sh.int IntKind.u8)
 (sfx b
 (gt (Sh.int IntKind.i64) o
 (IntKind.i64.wrap
 (low +
 IntKind.i64.wrap
 ((IntKind.i64.wrap (high - low)).tdiv (2 : Int)))).toNat))
 (↑(lcp
 (sfx b
 (gt (Sh.int IntKind.i64) o
 (IntKind.i64.wrap
 (low +
 IntKind.i64.wrap
 ((IntKind.i64.wrap (high - low)).tdiv
 (2 : Int)))).toNat))
 s) :
 Int).toNat <
 gt (Sh.int IntKind.u8) s
 (↑(lcp
 (sfx b
 (gt (Sh.int IntKind.i64) o
 (IntKind.i64.wrap
 (low +
 IntKind.i64.wrap
 ((IntKind.i64.wrap (high - low)).tdiv
 (2 : Int)))).toNat))
 s) :
 Int).toNat))),
 ((59 : Nat),
 SV.bool
 (bif false then true
 else
 decide
 (gt (Sh.int IntKind.u8)
 (sfx b
 (gt (Sh.int IntKind.i64) o
 (IntKind.i64.wrap
 (low +
 IntKind.i64.wrap
 ((IntKind.i64.wrap (high - low)).tdiv (2 : Int)))).toNat))
 (↑(lcp
 (sfx b
 (gt (Sh.int IntKind.i64) o
 (IntKind.i64.wrap
 (low +
 IntKind.i64.wrap
 ((IntKind.i64.wrap (high - low)).tdiv
 (2 : Int)))).toNat))
 s) :
 Int).toNat <
 gt (Sh.int IntKind.u8) s
 (↑(lcp
 (sfx b
 (gt (Sh.int IntKind.i64) o
 (IntKind.i64.wrap
 (low +
 IntKind.i64.wrap
 ((IntKind.i64.wrap (high - low)).tdiv
 (2 : Int)))).toNat))
 s) :
 Int).toNat))),
 ((60 : Nat),
 SV.int IntKind.i64
 (IntKind.i64.wrap
 (low + IntKind.i64.wrap ((IntKind.i64.wrap (high - low)).tdiv (2 : Int))))),
 ((61 : Nat),
 SV.int IntKind.i64
 (IntKind.i64.wrap
 (IntKind.i64.wrap
 (low +
 IntKind.i64.wrap ((IntKind.i64.wrap (high - low)).tdiv (2 : Int))) +
 (1 : Int))))],
 blk := [] })
 (R (hd Try.f27 (0 : Nat))
 {
 env :=
 [((0 : Nat), SV.sl (Sh.int IntKind.u8) b), ((1 : Nat), SV.sl (Sh.int IntKind.i64) o),
 ((2 : Nat), SV.sl (Sh.int IntKind.u8) s), ((6 : Nat), SV.int IntKind.i64 best),
 ((7 : Nat), SV.int IntKind.i64 n), ((8 : Nat), SV.int IntKind.i64 low),
 ((9 : Nat),
 SV.int IntKind.i64
 (IntKind.i64.wrap
 (low + IntKind.i64.wrap ((IntKind.i64.wrap (high - low)).tdiv (2 : Int))))),
 ((10 : Nat),
 SV.int IntKind.i64
 (IntKind.i64.wrap
 (low + IntKind.i64.wrap ((IntKind.i64.wrap (high - low)).tdiv (2 : Int))))),
 ((11 : Nat),
 SV.sl (Sh.int IntKind.u8)
 (sfx b
 (gt (Sh.int IntKind.i64) o
 (IntKind.i64.wrap
 (low +
 IntKind.i64.wrap
 ((IntKind.i64.wrap (high - low)).tdiv (2 : Int)))).toNat))),
 ((12 : Nat),
 SV.int IntKind.i64
 (↑(lcp
 (sfx b
 (gt (Sh.int IntKind.i64) o
 (IntKind.i64.wrap
 (low +
 IntKind.i64.wrap
 ((IntKind.i64.wrap (high - low)).tdiv (2 : Int)))).toNat))
 s) :
 Int)),
 ((15 : Nat), SV.int IntKind.i64 low), ((16 : Nat), SV.int IntKind.i64 high),
 ((17 : Nat), SV.bool (decide (low < high))), ((18 : Nat), SV.int IntKind.i64 low),
 ((19 : Nat), SV.int IntKind.i64 high), ((20 : Nat), SV.int IntKind.i64 low),
 ((21 : Nat), SV.int IntKind.i64 (IntKind.i64.wrap (high - low))),
 ((22 : Nat),
 SV.int IntKind.i64
 (IntKind.i64.wrap ((IntKind.i64.wrap (high - low)).tdiv (2 : Int)))),
 ((23 : Nat),
 SV.int IntKind.i64
 (IntKind.i64.wrap
 (low + IntKind.i64.wrap ((IntKind.i64.wrap (high - low)).tdiv (2 : Int))))),
 ((24 : Nat), SV.sl (Sh.int IntKind.u8) b),
 ((25 : Nat), SV.sl (Sh.int IntKind.i64) o),
 ((26 : Nat),
 SV.int IntKind.i64
 (IntKind.i64.wrap
 (low + IntKind.i64.wrap ((IntKind.i64.wrap (high - low)).tdiv (2 : Int))))),
 ((27 : Nat),
 SV.elv (Sh.int IntKind.i64)
 (gt (Sh.int IntKind.i64) o
 (IntKind.i64.wrap
 (low +
 IntKind.i64.wrap
 ((IntKind.i64.wrap (high - low)).tdiv (2 : Int)))).toNat)),
 ((28 : Nat),
 SV.int IntKind.i64
 (gt (Sh.int IntKind.i64) o
 (IntKind.i64.wrap
 (low +
 IntKind.i64.wrap
 ((IntKind.i64.wrap (high - low)).tdiv (2 : Int)))).toNat)),
 ((29 : Nat),
 SV.sl (Sh.int IntKind.u8)
 (sfx b
 (gt (Sh.int IntKind.i64) o
 (IntKind.i64.wrap
 (low +
 IntKind.i64.wrap
 ((IntKind.i64.wrap (high - low)).tdiv (2 : Int)))).toNat))),
 ((30 : Nat),
 SV.sl (Sh.int IntKind.u8)
 (sfx b
 (gt (Sh.int IntKind.i64) o
 (IntKind.i64.wrap
 (low +
 IntKind.i64.wrap
 ((IntKind.i64.wrap (high - low)).tdiv (2 : Int)))).toNat))),
 ((31 : Nat), SV.sl (Sh.int IntKind.u8) s),
 ((32 : Nat),
 SV.int IntKind.i64
 (↑(lcp
 (sfx b
 (gt (Sh.int IntKind.i64) o
 (IntKind.i64.wrap
 (low +
 IntKind.i64.wrap
 ((IntKind.i64.wrap (high - low)).tdiv (2 : Int)))).toNat))
 s) :
 Int)),
 ((33 : Nat),
 SV.int IntKind.i64
 (↑(lcp
 (sfx b
 (gt (Sh.int IntKind.i64) o
 (IntKind.i64.wrap
 (low +
 IntKind.i64.wrap
 ((IntKind.i64.wrap (high - low)).tdiv (2 : Int)))).toNat))
 s) :
 Int)),
 ((34 : Nat), SV.int IntKind.i64 n),
 ((35 : Nat),
 SV.bool
 (decide
 (n <
 (↑(lcp
 (sfx b
 (gt (Sh.int IntKind.i64) o
 (IntKind.i64.wrap
 (low +
 IntKind.i64.wrap
 ((IntKind.i64.wrap (high - low)).tdiv (2 : Int)))).toNat))
 s) :
 Int)))),
 ((38 : Nat),
 SV.int IntKind.i64
 (IntKind.i64.wrap
 (low + IntKind.i64.wrap ((IntKind.i64.wrap (high - low)).tdiv (2 : Int))))),
 ((39 : Nat),
 SV.bool
 (decide
 ((↑(lcp
 (sfx b
 (gt (Sh.int IntKind.i64) o
 (IntKind.i64.wrap
 (low +
 IntKind.i64.wrap
 ((IntKind.i64.wrap (high - low)).tdiv (2 : Int)))).toNat))
 s) :
 Int) =
 (↑s.length : Int)))),
 ((40 : Nat),
 SV.int IntKind.i64
 (↑(lcp
 (sfx b
 (gt (Sh.int IntKind.i64) o
 (IntKind.i64.wrap
 (low +
 IntKind.i64.wrap
 ((IntKind.i64.wrap (high - low)).tdiv (2 : Int)))).toNat))
 s) :
 Int)),
 ((41 : Nat), SV.sl (Sh.int IntKind.u8) s),
 ((42 : Nat), SV.int IntKind.i64 (↑s.length : Int)),
 ((43 : Nat),
 SV.bool
 (decide
 ((↑(lcp
 (sfx b
 (gt (Sh.int IntKind.i64) o
 (IntKind.i64.wrap
 (low +
 IntKind.i64.wrap
 ((IntKind.i64.wrap (high - low)).tdiv (2 : Int)))).toNat))
 s) :
 Int) =
 (↑s.length : Int)))),
 ((44 : Nat),
 SV.bool
 (bif false then true
 else
 decide
 (gt (Sh.int IntKind.u8)
 (sfx b
 (gt (Sh.int IntKind.i64) o
 (IntKind.i64.wrap
 (low +
 IntKind.i64.wrap
 ((IntKind.i64.wrap (high - low)).tdiv (2 : Int)))).toNat))
 (↑(lcp
 (sfx b
 (gt (Sh.int IntKind.i64) o
 (IntKind.i64.wrap
 (low +
 IntKind.i64.wrap
 ((IntKind.i64.wrap (high - low)).tdiv
 (2 : Int)))).toNat))
 s) :
 Int).toNat <
 gt (Sh.int IntKind.u8) s
 (↑(lcp
 (sfx b
 (gt (Sh.int IntKind.i64) o
 (IntKind.i64.wrap
 (low +
 IntKind.i64.wrap
 ((IntKind.i64.wrap (high - low)).tdiv
 (2 : Int)))).toNat))
 s) :
 Int).toNat))),
 ((45 : Nat),
 SV.int IntKind.i64
 (↑(lcp
 (sfx b
 (gt (Sh.int IntKind.i64) o
 (IntKind.i64.wrap
 (low +
 IntKind.i64.wrap
 ((IntKind.i64.wrap (high - low)).tdiv (2 : Int)))).toNat))
 s) :
 Int)),
 ((46 : Nat),
 SV.sl (Sh.int IntKind.u8)
 (sfx b
 (gt (Sh.int IntKind.i64) o
 (IntKind.i64.wrap
 (low +
 IntKind.i64.wrap
 ((IntKind.i64.wrap (high - low)).tdiv (2 : Int)))).toNat))),
 ((47 : Nat),
 SV.int IntKind.i64
 (↑(sfx b
 (gt (Sh.int IntKind.i64) o
 (IntKind.i64.wrap
 (low +
 IntKind.i64.wrap
 ((IntKind.i64.wrap (high - low)).tdiv
 (2 : Int)))).toNat)).length :
 Int)),
 ((48 : Nat),
 SV.bool
 (decide
 ((↑(lcp
 (sfx b
 (gt (Sh.int IntKind.i64) o
 (IntKind.i64.wrap
 (low +
 IntKind.i64.wrap
 ((IntKind.i64.wrap (high - low)).tdiv (2 : Int)))).toNat))
 s) :
 Int) =
 (↑(sfx b
 (gt (Sh.int IntKind.i64) o
 (IntKind.i64.wrap
 (low +
 IntKind.i64.wrap
 ((IntKind.i64.wrap (high - low)).tdiv
 (2 : Int)))).toNat)).length :
 Int)))),
 ((49 : Nat), SV.bool false),
 ((50 : Nat),
 SV.sl (Sh.int IntKind.u8)
 (sfx b
 (gt (Sh.int IntKind.i64) o
 (IntKind.i64.wrap
 (low +
 IntKind.i64.wrap
 ((IntKind.i64.wrap (high - low)).tdiv (2 : Int)))).toNat))),
 ((51 : Nat),
 SV.int IntKind.i64
 (↑(lcp
 (sfx b
 (gt (Sh.int IntKind.i64) o
 (IntKind.i64.wrap
 (low +
 IntKind.i64.wrap
 ((IntKind.i64.wrap (high - low)).tdiv (2 : Int)))).toNat))
 s) :
 Int)),
 ((52 : Nat),
 SV.elv (Sh.int IntKind.u8)
 (gt (Sh.int IntKind.u8)
 (sfx b
 (gt (Sh.int IntKind.i64) o
 (IntKind.i64.wrap
 (low +
 IntKind.i64.wrap
 ((IntKind.i64.wrap (high - low)).tdiv (2 : Int)))).toNat))
 (↑(lcp
 (sfx b
 (gt (Sh.int IntKind.i64) o
 (IntKind.i64.wrap
 (low +
 IntKind.i64.wrap
 ((IntKind.i64.wrap (high - low)).tdiv (2 : Int)))).toNat))
 s) :
 Int).toNat)),
 ((53 : Nat),
 SV.int IntKind.u8
 (gt (Sh.int IntKind.u8)
 (sfx b
 (gt (Sh.int IntKind.i64) o
 (IntKind.i64.wrap
 (low +
 IntKind.i64.wrap
 ((IntKind.i64.wrap (high - low)).tdiv (2 : Int)))).toNat))
 (↑(lcp
 (sfx b
 (gt (Sh.int IntKind.i64) o
 (IntKind.i64.wrap
 (low +
 IntKind.i64.wrap
 ((IntKind.i64.wrap (high - low)).tdiv (2 : Int)))).toNat))
 s) :
 Int).toNat)),
 ((54 : Nat), SV.sl (Sh.int IntKind.u8) s),
 ((55 : Nat),
 SV.int IntKind.i64
 (↑(lcp
 (sfx b
 (gt (Sh.int IntKind.i64) o
 (IntKind.i64.wrap
 (low +
 IntKind.i64.wrap
 ((IntKind.i64.wrap (high - low)).tdiv (2 : Int)))).toNat))
 s) :
 Int)),
 ((56 : Nat),
 SV.elv (Sh.int IntKind.u8)
 (gt (Sh.int IntKind.u8) s
 (↑(lcp
 (sfx b
 (gt (Sh.int IntKind.i64) o
 (IntKind.i64.wrap
 (low +
 IntKind.i64.wrap
 ((IntKind.i64.wrap (high - low)).tdiv (2 : Int)))).toNat))
 s) :
 Int).toNat)),
 ((57 : Nat),
 SV.int IntKind.u8
 (gt (Sh.int IntKind.u8) s
 (↑(lcp
 (sfx b
 (gt (Sh.int IntKind.i64) o
 (IntKind.i64.wrap
 (low +
 IntKind.i64.wrap
 ((IntKind.i64.wrap (high - low)).tdiv (2 : Int)))).toNat))
 s) :
 Int).toNat)),
 ((58 : Nat),
 SV.bool
 (decide
 (gt (Sh.int IntKind.u8)
 (sfx b
 (gt (Sh.int IntKind.i64) o
 (IntKind.i64.wrap
 (low +
 IntKind.i64.wrap
 ((IntKind.i64.wrap (high - low)).tdiv (2 : Int)))).toNat))
 (↑(lcp
 (sfx b
 (gt (Sh.int IntKind.i64) o
 (IntKind.i64.wrap
 (low +
 IntKind.i64.wrap
 ((IntKind.i64.wrap (high - low)).tdiv
 (2 : Int)))).toNat))
 s) :
 Int).toNat <
 gt (Sh.int IntKind.u8) s
 (↑(lcp
 (sfx b
 (gt (Sh.int IntKind.i64) o
 (IntKind.i64.wrap
 (low +
 IntKind.i64.wrap
 ((IntKind.i64.wrap (high - low)).tdiv
 (2 : Int)))).toNat))
 s) :
 Int).toNat))),
 ((59 : Nat),
 SV.bool
 (bif false then true
 else
 decide
 (gt (Sh.int IntKind.u8)
 (sfx b
 (gt (Sh.int IntKind.i64) o
 (IntKind.i64.wrap
 (low +
 IntKind.i64.wrap
 ((IntKind.i64.wrap (high - low)).tdiv (2 : Int)))).toNat))
 (↑(lcp
 (sfx b
 (gt (Sh.int IntKind.i64) o
 (IntKind.i64.wrap
 (low +
 IntKind.i64.wrap
 ((IntKind.i64.wrap (high - low)).tdiv
 (2 : Int)))).toNat))
 s) :
 Int).toNat <
 gt (Sh.int IntKind.u8) s
 (↑(lcp
 (sfx b
 (gt (Sh.int IntKind.i64) o
 (IntKind.i64.wrap
 (low +
 IntKind.i64.wrap
 ((IntKind.i64.wrap (high - low)).tdiv
 (2 : Int)))).toNat))
 s) :
 Int).toNat)))],
 blk := [] })))))
 (Q [SV.int IntKind.i64 best, SV.int IntKind.i64 n] [])) := by kernel_rfl
end Go.Proofs.Ytjcknfkddbiobaa
namespace Go.Proofs.Ytjcknfkddbiobaa
/-- How two texts compare where they part. -/
theorem lcp_cmp : ∀ {a s : List Int}, lcp a s < s.length → (lcp a s = a.length → lexLt a s = true) ∧ (∀ (h : lcp a s < a.length) (h2 : lcp a s < s.length), a[lcp a s] ≠ s[lcp a s] ∧ lexLt a s = decide (a[lcp a s] < s[lcp a s]))
  | [], [], h => by simp at h
  | [], _ :: _, _ => ⟨fun _ => rfl, fun h => by simp [lcp] at h⟩
  | _ :: _, [], h => by simp at h
  | x :: a, y :: s, h => by
    by_cases e : x = y
    · subst e
      have hl : lcp (x :: a) (x :: s) = lcp a s + 1 := by simp [lcp]
      have hx : lexLt (x :: a) (x :: s) = lexLt a s := by simp [lexLt]
      rw [hl] at h
      obtain ⟨h1, h2⟩ := lcp_cmp (a := a) (s := s) (by simpa using h)
      refine ⟨fun q => by rw [hx]; exact h1 (by rw [hl] at q; simpa using q), fun q q2 => ?_⟩
      rw [hx]
      have q' := q
      rw [hl] at q'
      have := h2 (by simpa using q') (by simpa using h)
      simp only [hl, List.getElem_cons_succ]
      exact this
    · have hl : lcp (x :: a) (y :: s) = 0 := by simp [lcp, e]
      refine ⟨fun q => by rw [hl] at q; simp at q, fun q q2 => ?_⟩
      simp only [hl, List.getElem_cons_zero]
      exact ⟨e, by simp [lexLt, e]⟩
theorem lcp_ultra : ∀ a b c : List Int, min (lcp a b) (lcp b c) ≤ lcp a c
  | [], _, _ => by simp [lcp]
  | _ :: _, [], _ => by simp [lcp]
  | _ :: _, _ :: _, [] => by simp [lcp]
  | a :: l, b :: m, c :: n => by
    simp only [lcp]
    by_cases h : a = b
    · subst h
      by_cases k : a = c
      · subst k
        simp only [if_true]
        have := lcp_ultra l m n
        omega
      · simp [k]
    · simp [h]
section
variable {b s : List Int} {o : List Nat}
/-- The suffix at an index. -/
def sf (b : List Int) (o : List Nat) (k : Nat) : List Int := b.drop (o.getD k 0)
def lc (b s : List Int) (o : List Nat) (k : Nat) : Nat := lcp (sf b o k) s
theorem sf_lt (h : OrdOK b o) {i j : Nat} (hij : i < j) (hj : j < o.length) : lexLt (sf b o i) (sf b o j) = true := by
  have := h.at_lt hij hj
  unfold sf
  rw [getD_at (by omega), getD_at hj]
  exact this
/-- The search of the program. -/
def clo (b s : List Int) (o : List Nat) : Nat → Nat → Nat → Nat → Nat → Nat × Nat
  | 0, _, _, best, n => (best, n)
  | f + 1, low, high, best, n =>
    if low < high then
      let mid := low + (high - low) / 2
      let e := lc b s o mid
      let r := if n < e then (mid, e) else (best, n)
      if e = s.length then r
      else if lexLt (sf b o mid) s then clo b s o f (mid + 1) high r.1 r.2
      else clo b s o f low mid r.1 r.2
    else (best, n)
/-- What is known in the search. -/
structure CloI (b s : List Int) (o : List Nat) (low high best n : Nat) : Prop where
  le : low ≤ high ∧ high ≤ o.length
  lo : ∀ k, k < low → lexLt (sf b o k) s = true
  hi : ∀ k, high ≤ k → k < o.length → lexLt s (sf b o k) = true
  nl : low = 0 ∨ lc b s o (low - 1) ≤ n
  nh : high = o.length ∨ lc b s o high ≤ n
  at' : 0 < n → best < o.length ∧ lc b s o best = n
  z : n = 0 → best = 0
/-- What the search finds. -/
structure CloR (b s : List Int) (o : List Nat) (best n : Nat) : Prop where
  at' : 0 < n → best < o.length ∧ lc b s o best = n
  max : ∀ k, k < o.length → lc b s o k ≤ n
theorem CloI.done (ho : OrdOK b o) {low best n : Nat} (h : CloI b s o low low best n) : CloR b s o best n where
  at' := h.at'
  max k hk := by
    by_cases hl : k < low
    · have h0 : low ≠ 0 := by omega
      rcases h.nl with e | e
      · exact absurd e h0
      · by_cases q : k = low - 1
        · rw [q]; exact e
        · have g1 := sf_lt ho (i := k) (j := low - 1) (by omega) (by have := h.le; omega)
          have g2 := h.lo (low - 1) (by omega)
          have := lcp_min g1 g2
          unfold lc at e ⊢
          rw [this]
          exact Nat.le_trans (Nat.min_le_right _ _) e
    · rcases h.nh with e | e
      · omega
      · by_cases q : k = low
        · rw [q]; exact e
        · have g1 := h.hi low (Nat.le_refl _) (by omega)
          have g2 := sf_lt ho (i := low) (j := k) (by omega) hk
          have := lcp_min g1 g2
          unfold lc at e ⊢
          rw [lcp_comm (sf b o k), this, lcp_comm s]
          exact Nat.le_trans (Nat.min_le_left _ _) e
theorem clo_ok (ho : OrdOK b o) : ∀ (f low high best n : Nat), high - low ≤ f → CloI b s o low high best n → CloR b s o (clo b s o f low high best n).1 (clo b s o f low high best n).2
  | 0, low, high, best, n, hf, h => by
    obtain rfl : high = low := by have := h.le; omega
    exact h.done ho
  | f + 1, low, high, best, n, hf, h => by
    simp only [clo]
    split
    · rename_i hlt
      have hmid : low ≤ low + (high - low) / 2 ∧ low + (high - low) / 2 < high := by omega
      generalize low + (high - low) / 2 = mid at hmid
      have hle := h.le
      -- the better one
      have hr : (0 < (if n < lc b s o mid then (mid, lc b s o mid) else (best, n)).2 → (if n < lc b s o mid then (mid, lc b s o mid) else (best, n)).1 < o.length ∧ lc b s o (if n < lc b s o mid then (mid, lc b s o mid) else (best, n)).1 = (if n < lc b s o mid then (mid, lc b s o mid) else (best, n)).2) ∧
          n ≤ (if n < lc b s o mid then (mid, lc b s o mid) else (best, n)).2 ∧ lc b s o mid ≤ (if n < lc b s o mid then (mid, lc b s o mid) else (best, n)).2 ∧ ((if n < lc b s o mid then (mid, lc b s o mid) else (best, n)).2 = 0 → (if n < lc b s o mid then (mid, lc b s o mid) else (best, n)).1 = 0) := by
        split
        · rename_i q
          exact ⟨fun _ => ⟨by omega, rfl⟩, by simp only; omega, Nat.le_refl _, fun q2 => by simp only at q2; omega⟩
        · rename_i q
          exact ⟨h.at', Nat.le_refl _, by simp only; omega, h.z⟩
      generalize (if n < lc b s o mid then (mid, lc b s o mid) else (best, n)) = r at hr
      obtain ⟨r1, r2, r3, r4⟩ := hr
      split
      · rename_i hs
        refine ⟨r1, fun k _ => Nat.le_trans ?_ r3⟩
        rw [hs]
        unfold lc
        rw [lcp_comm]
        exact lcp_le _ _
      · rename_i hs
        have hll : lc b s o mid < s.length := by
          have : lc b s o mid ≤ s.length := by unfold lc; rw [lcp_comm]; exact lcp_le _ _
          omega
        split
        · rename_i hx
          refine clo_ok ho f (mid + 1) high r.1 r.2 (by omega) ⟨by omega, fun k hk => ?_, h.hi, .inr (by rw [Nat.add_sub_cancel]; exact r3), h.nh.imp_right (fun q => Nat.le_trans q r2), r1, r4⟩
          by_cases q : k = mid
          · rw [q]; exact hx
          · exact lexLt_trans (sf_lt ho (i := k) (j := mid) (by omega) (by omega)) hx
        · rename_i hx
          have hsm : lexLt s (sf b o mid) = true := by
            rcases lexLt_tri (sf b o mid) s with q | q | q
            · exfalso
              unfold lc at hll
              rw [q, lcp_self] at hll
              omega
            · exact absurd q hx
            · exact q
          refine clo_ok ho f low mid r.1 r.2 (by omega) ⟨by omega, h.lo, fun k hk hkl => ?_, h.nl.imp_right (fun q => Nat.le_trans q r2), .inr r3, r1, r4⟩
          by_cases q : k = mid
          · rw [q]; exact hsm
          · exact lexLt_trans hsm (sf_lt ho (i := mid) (j := k) (by omega) hkl)
    · have hle := h.le
      obtain rfl : high = low := by omega
      exact h.done ho
/-- Once the most is known, those that have it stand together. -/
theorem stands_between (ho : OrdOK b o) {best n : Nat} (hb : best < o.length) (hn : lc b s o best = n) {k l : Nat} (hk : n ≤ lc b s o k) : (k < l → l < best → n ≤ lc b s o l) ∧ (best < l → l < k → k < o.length → n ≤ lc b s o l) := by
  have hkb : n ≤ lcp (sf b o k) (sf b o best) := by
    have := lcp_ultra (sf b o k) s (sf b o best)
    rw [lcp_comm s] at this
    unfold lc at hk hn
    omega
  constructor
  · intro h1 h2
    have := lcp_min (sf_lt ho h1 (by omega)) (sf_lt ho h2 hb)
    have u := lcp_ultra (sf b o l) (sf b o best) s
    unfold lc at hn ⊢
    omega
  · intro h1 h2 h3
    have := lcp_min (sf_lt ho h1 (by omega)) (sf_lt ho h2 h3)
    rw [lcp_comm] at hkb
    have u := lcp_ultra (sf b o l) (sf b o best) s
    rw [lcp_comm (sf b o l)] at u
    unfold lc at hn ⊢
    omega
end
end Go.Proofs.Ytjcknfkddbiobaa
namespace Go.Proofs.Ytjcknfkddbiobaa
open Go.Px Go.Ax
theorem midW {l h : Nat} (hl : l ≤ h) (hb : h < 2 ^ 62) : IntKind.i64.wrap ((l : Int) + IntKind.i64.wrap ((IntKind.i64.wrap ((h : Int) - (l : Int))).tdiv 2)) = ((l + (h - l) / 2 : Nat) : Int) := by
  rw [IntWalk.i64_in ((h : Int) - l) (by omega), Int.tdiv_eq_ediv_of_nonneg (by omega), IntWalk.i64_in (((h : Int) - l) / 2) (by omega), IntWalk.i64_in _ (by omega)]
  omega
theorem sfx_nat (b : List Int) (k : Nat) : sfx b (k : Int) = b.drop k := by
  rw [sfx, if_neg (by omega), Int.toNat_natCast]
def preClo (b o s : List Int) : Prop := preOrd b o ∧ s.length < 1048576
def cloR (b o s : List Int) : Nat × Nat := clo b s (natsOf o) (natsOf o).length 0 (natsOf o).length 0 0
def ctClo : Ctr := ⟨[slB, slI, slB], fun x => preClo x.1 x.2.1 x.2.2.1, fun x => [.int .i64 ((cloR x.1 x.2.1 x.2.2.1).1 : Nat), .int .i64 ((cloR x.1 x.2.1 x.2.2.1).2 : Nat)], fun _ => []⟩
theorem clo_loop {b s : List Int} {o : List Nat} (ho : OrdOK b o) (hb : b.length < 1048576) (hs : s.length < 1048576) : ∀ (f low high best n : Nat), high - low ≤ f → low ≤ high → high ≤ o.length →
    GD 27 Try.f27 (fun rs _ => rs = [.int .i64 ((clo b s o f low high best n).1 : Nat), .int .i64 ((clo b s o f low high best n).2 : Nat)]) (hd Try.f27 0)
      ⟨[(0, .sl (.int .u8) b), (1, .sl (.int .i64) (mapI o)), (2, .sl (.int .u8) s), (6, .int .i64 (best : Nat)), (7, .int .i64 (n : Nat)), (8, .int .i64 (low : Nat)), (9, .int .i64 (high : Nat))], []⟩ := by
  have hol := ho.len
  have hml : (mapI o).length = o.length := mapI_len o
  intro f
  induction f with
  | zero =>
    intro low high best n hf h1 h2
    refine sy_go cx4 (vc_cloL _ _ _ _ _ _ _ _ _) (bc_of (fun h => ?_) (fun h => ?_))
    · have h := of_decide_eq_true h; omega
    · rfl
  | succ f ih =>
    intro low high best n hf h1 h2
    by_cases hlt : low < high
    · have hm1 : low + (high - low) / 2 < high := by omega
      have hm2 : low ≤ low + (high - low) / 2 := by omega
      have hml2 : low + (high - low) / 2 < o.length := by omega
      have g1 : gt (Sh.int .i64) (mapI o) ((low + (high - low) / 2 : Nat) : Int).toNat = ((o[low + (high - low) / 2] : Nat) : Int) := gt_mapI hml2
      have hsf : sfx b ((o[low + (high - low) / 2] : Nat) : Int) = sf b o (low + (high - low) / 2) := by rw [sfx_nat, sf, getD_at hml2]
      have hlen : (sf b o (low + (high - low) / 2)).length < 1048576 := by unfold sf; rw [List.length_drop]; omega
      refine sy_go cx4 (vc_cloL _ _ _ _ _ _ _ _ _) ?_
      simp only [midW h1 (by omega : high < 2 ^ 62), g1, hsf]
      rw [decide_eq_true (show (low : Int) < (high : Int) by omega), bc_t]
      refine ⟨by decide, by omega, by rw [hml]; omega, trivial, ⟨by show List.length (sf b o _) < 2 ^ 62; omega, by show List.length s < 2 ^ 62; omega⟩, ?_⟩
      have hclo : ∀ bb nn, (if n < lc b s o (low + (high - low) / 2) then (low + (high - low) / 2, lc b s o (low + (high - low) / 2)) else (best, n)) = (bb, nn) →
          clo b s o (f + 1) low high best n = if lc b s o (low + (high - low) / 2) = s.length then (bb, nn) else if lexLt (sf b o (low + (high - low) / 2)) s then clo b s o f (low + (high - low) / 2 + 1) high bb nn else clo b s o f low (low + (high - low) / 2) bb nn := by
        intro bb nn e
        rw [clo, if_pos hlt]
        simp only [e]
      have hlc : lc b s o (low + (high - low) / 2) = lcp (sf b o (low + (high - low) / 2)) s := rfl
      rw [hlc] at hclo
      generalize low + (high - low) / 2 = mid at *
      generalize sf b o mid = X at *
      have hle1 := lcp_le X s
      have hle2 := lcp_le s X
      rw [lcp_comm] at hle2
      have e1 : IntKind.i64.wrap ((mid : Int) + 1) = ((mid + 1 : Nat) : Int) := by rw [IntWalk.i64_in _ (by omega)]; omega
      have LO : ∀ bb nn, (if n < lcp X s then (mid, lcp X s) else (best, n)) = (bb, nn) → lcp X s ≠ s.length → lexLt X s = true → GD 27 Try.f27 (fun rs _ => rs = [.int .i64 ((clo b s o (f + 1) low high best n).1 : Nat), .int .i64 ((clo b s o (f + 1) low high best n).2 : Nat)]) (hd Try.f27 0)
            ⟨[(0, .sl (.int .u8) b), (1, .sl (.int .i64) (mapI o)), (2, .sl (.int .u8) s), (6, .int .i64 (bb : Nat)), (7, .int .i64 (nn : Nat)), (8, .int .i64 (mid + 1 : Nat)), (9, .int .i64 (high : Nat))], []⟩ := fun bb nn q1 q2 q3 =>
        (ih (mid + 1) high bb nn (by omega) (by omega) h2).post fun rs blk h => by rw [hclo bb nn q1, if_neg q2, if_pos q3]; exact h
      have HI : ∀ bb nn, (if n < lcp X s then (mid, lcp X s) else (best, n)) = (bb, nn) → lcp X s ≠ s.length → lexLt X s = false → GD 27 Try.f27 (fun rs _ => rs = [.int .i64 ((clo b s o (f + 1) low high best n).1 : Nat), .int .i64 ((clo b s o (f + 1) low high best n).2 : Nat)]) (hd Try.f27 0)
            ⟨[(0, .sl (.int .u8) b), (1, .sl (.int .i64) (mapI o)), (2, .sl (.int .u8) s), (6, .int .i64 (bb : Nat)), (7, .int .i64 (nn : Nat)), (8, .int .i64 (low : Nat)), (9, .int .i64 (mid : Nat))], []⟩ := fun bb nn q1 q2 q3 =>
        (ih low mid bb nn (by omega) (by omega) (by omega)).post fun rs blk h => by rw [hclo bb nn q1, if_neg q2, if_neg (by rw [q3]; decide)]; exact h
      have cmp : lcp X s ≠ s.length → (lcp X s = X.length → lexLt X s = true) ∧ ∀ (h : lcp X s < X.length) (h2 : lcp X s < s.length), lexLt X s = decide (X[lcp X s] < s[lcp X s]) := fun q => ⟨(lcp_cmp (by omega)).1, fun h h2 => ((lcp_cmp (by omega)).2 h h2).2⟩
      simp only [e1]
      refine bc_of (fun h => ?_) (fun h => ?_)
      · have hn := of_decide_eq_true h
        have hr : (if n < lcp X s then (mid, lcp X s) else (best, n)) = (mid, lcp X s) := if_pos (by omega)
        refine bc_of (fun h3 => ?_) (fun h3 => ?_)
        · have h3 := of_decide_eq_true h3
          show [SV.int _ _, SV.int _ _] = [SV.int _ _, SV.int _ _]
          rw [hclo _ _ hr, if_pos (by omega)]
        · have h3 : ¬ ((lcp X s : Nat) : Int) = s.length := of_decide_eq_false h3
          have hne : lcp X s ≠ s.length := by omega
          refine bc_of (fun h4 => ?_) (fun h4 => ?_)
          · have h4 := of_decide_eq_true h4
            exact ⟨trivial, (LO _ _ hr hne ((cmp hne).1 (by omega))).only ⟨rfl, rfl, rfl, rfl, rfl, rfl, rfl, trivial⟩ trivial⟩
          · have h4 : ¬ ((lcp X s : Nat) : Int) = X.length := of_decide_eq_false h4
            have p1 : lcp X s < X.length := by omega
            have p2 : lcp X s < s.length := by omega
            have g2 : gt (Sh.int .u8) X ((lcp X s : Nat) : Int).toNat = X[lcp X s] := gt_eq p1
            have g3 : gt (Sh.int .u8) s ((lcp X s : Nat) : Int).toNat = s[lcp X s] := gt_eq p2
            have hx := (cmp hne).2 p1 p2
            simp only [g2, g3]
            refine ⟨by omega, by omega, by omega, by omega, bc_of (fun h5 => ?_) (fun h5 => ?_)⟩
            · exact (LO _ _ hr hne (by rw [hx]; exact h5)).only ⟨rfl, rfl, rfl, rfl, rfl, rfl, rfl, trivial⟩ trivial
            · exact (HI _ _ hr hne (by rw [hx]; exact h5)).only ⟨rfl, rfl, rfl, rfl, rfl, rfl, rfl, trivial⟩ trivial
      · have hn := of_decide_eq_false h
        have hr : (if n < lcp X s then (mid, lcp X s) else (best, n)) = (best, n) := if_neg (by omega)
        refine bc_of (fun h3 => ?_) (fun h3 => ?_)
        · have h3 := of_decide_eq_true h3
          show [SV.int _ _, SV.int _ _] = [SV.int _ _, SV.int _ _]
          rw [hclo _ _ hr, if_pos (by omega)]
        · have h3 : ¬ ((lcp X s : Nat) : Int) = s.length := of_decide_eq_false h3
          have hne : lcp X s ≠ s.length := by omega
          refine bc_of (fun h4 => ?_) (fun h4 => ?_)
          · have h4 := of_decide_eq_true h4
            exact ⟨trivial, (LO _ _ hr hne ((cmp hne).1 (by omega))).only ⟨rfl, rfl, rfl, rfl, rfl, rfl, rfl, trivial⟩ trivial⟩
          · have h4 : ¬ ((lcp X s : Nat) : Int) = X.length := of_decide_eq_false h4
            have p1 : lcp X s < X.length := by omega
            have p2 : lcp X s < s.length := by omega
            have g2 : gt (Sh.int .u8) X ((lcp X s : Nat) : Int).toNat = X[lcp X s] := gt_eq p1
            have g3 : gt (Sh.int .u8) s ((lcp X s : Nat) : Int).toNat = s[lcp X s] := gt_eq p2
            have hx := (cmp hne).2 p1 p2
            simp only [g2, g3]
            refine ⟨by omega, by omega, by omega, by omega, bc_of (fun h5 => ?_) (fun h5 => ?_)⟩
            · exact (LO _ _ hr hne (by rw [hx]; exact h5)).only ⟨rfl, rfl, rfl, rfl, rfl, rfl, rfl, trivial⟩ trivial
            · exact (HI _ _ hr hne (by rw [hx]; exact h5)).only ⟨rfl, rfl, rfl, rfl, rfl, rfl, rfl, trivial⟩ trivial
    · obtain rfl : low = high := by omega
      refine sy_go cx4 (vc_cloL _ _ _ _ _ _ _ _ _) (bc_of (fun h => ?_) (fun h => ?_))
      · have h := of_decide_eq_true h; omega
      · show [SV.int _ _, SV.int _ _] = [SV.int _ _, SV.int _ _]
        rw [clo, if_neg (by omega)]
theorem clo_run (b o s : List Int) (hp : preClo b o s) : sy tt G0 C4 Try.f27.ntmps Try.f27.results.toList (QC ctClo (b, o, s, ())) (Px.Good Try.prog tt G0 27 Try.f27.ntmps Try.f27.results.toList (QC ctClo (b, o, s, ()))) 1000 [.code (bodyOf Try.f27)] (entry [slB, slI, slB] (b, o, s, ())) := by
  obtain ⟨⟨hb, p, ho, rfl⟩, hs⟩ := hp
  refine (vc_clo _ _ _ _ _).mpr ?_
  refine ((clo_loop ho hb hs p.length 0 p.length 0 0 (by omega) (by omega) (Nat.le_refl _)).post fun rs blk h => QC.flat ?_ rfl (by rw [h]; rfl)).only ⟨rfl, rfl, rfl, rfl, rfl, rfl, ?_, trivial⟩ trivial
  · rw [h]
    simp only [ctClo, cloR, nats_map]
  · rw [mapI_len]; rfl
theorem clo_held : Held Try.prog G0 27 ctClo := Held.run cx4 (fn := Try.f27) rfl rfl ⟨by decide, by decide⟩ fun x hp => clo_run x.1 x.2.1 x.2.2.1 hp
theorem clo_spec {b s : List Int} {o : List Nat} (ho : OrdOK b o) : CloR b s o (clo b s o o.length 0 o.length 0 0).1 (clo b s o o.length 0 o.length 0 0).2 :=
  clo_ok ho _ _ _ _ _ (by omega) ⟨⟨by omega, Nat.le_refl _⟩, fun k h => by omega, fun k h h2 => by omega, .inl rfl, .inl rfl, fun h => by omega, fun _ => rfl⟩
end Go.Proofs.Ytjcknfkddbiobaa
namespace Go.Proofs.Ytjcknfkddbiobaa
open Go.Px Go.Ax
/-- Whether a suffix begins with the first bytes. -/
def stB (b o s : List Int) (n k : Int) : Bool := decide (((lcp (sfx b (gt (Sh.int .i64) o k.toNat)) (List.take n.toNat s) : Nat) : Int) = n)
def preSt (k : Int) (b o s : List Int) (n : Int) : Prop := 0 ≤ k ∧ k < o.length ∧ 0 ≤ n ∧ n ≤ s.length ∧ b.length < 1048576 ∧ s.length < 1048576
def ctSt : CtrI := ⟨K28, fun x => preSt x.1 x.2.1.1 x.2.2.1.1 x.2.2.2.1.1 x.2.2.2.2.1.1, fun x => [.bool (stB x.2.1.1 x.2.2.1.1 x.2.2.2.1.1 x.2.2.2.2.1.1 x.1)], fun x => bkKL 0 K28 x⟩
theorem sfx_len (b : List Int) (k : Int) : (sfx b k).length ≤ b.length := by
  unfold sfx
  split
  · simp
  · rw [List.length_drop]; omega
theorem st_run (k : Int) (b o s : List Int) (n : Int) (hp : preSt k b o s n) (R : List Item → PS → Prop) : sy tt G0 C4 Try.f28.ntmps Try.f28.results.toList (QI ctSt (k, (b, ()), (o, ()), (s, ()), (n, ()), ())) R 1000 [.code (bodyOf Try.f28)] (entryI K28 (k, (b, ()), (o, ()), (s, ()), (n, ()), ())) := by
  obtain ⟨h0, h1, h2, h3, h4, h5⟩ := hp
  refine (vc_st _ _ _ _ _ _ _).mpr ⟨h0, h1, trivial, h2, h3, ⟨?_, ?_⟩, ?_⟩
  · show List.length (sfx b _) < 2 ^ 62
    have := sfx_len b (gt (Sh.int .i64) o k.toNat)
    omega
  · show List.length (List.take _ s) < 2 ^ 62
    rw [List.length_take]; omega
  · exact ⟨[], ⟨_, _, rfl, rfl, rfl⟩, ⟨.inl ⟨_, _, rfl, rfl, _, rfl, _, _, rfl, .inl rfl, rfl⟩, .inl ⟨_, _, rfl, rfl, _, rfl, _, _, rfl, .inl rfl, rfl⟩, .inl ⟨_, _, rfl, rfl, _, rfl, _, _, rfl, .inl rfl, rfl⟩, .inl ⟨_, _, rfl, rfl, _, rfl, _, _, rfl, rfl, rfl⟩, trivial⟩, by decide, by simp⟩
theorem st_held : HeldI Try.prog G0 28 ctSt := HeldI.run cx4 (fn := Try.f28) rfl rfl ⟨by decide, by decide⟩ fun x hp => st_run x.1 x.2.1.1 x.2.2.1.1 x.2.2.2.1.1 x.2.2.2.2.1.1 hp _
def minL : List Int → Int → Int
  | [], m => m
  | x :: l, m => minL l (min m x)
def preNe (l : List Int) : Prop := 0 < l.length ∧ l.length < 1048576
def ctLeast : Ctr := ⟨[slI], fun x => preNe x.1, fun x => [.int .i64 (minL x.1 (gt (Sh.int .i64) x.1 0))], fun _ => []⟩
theorem least_loop (l : List Int) (hl : l.length < 1048576) : ∀ (m i : Nat) (a x : Int), l.length - i ≤ m → i ≤ l.length →
    GD 33 Try.f33 (fun rs _ => rs = [.int .i64 (minL (l.drop i) a)]) (hd Try.f33 0) ⟨[(0, .sl (.int .i64) l), (3, .int .i64 a), (9, .sl (.int .i64) l), (10, .int .i64 l.length), (11, .int .i64 (i : Nat))], []⟩ := by
  intro m
  induction m with
  | zero =>
    intro i a x hm h1
    refine sy_go cx0 (vc_leastL l a x i _ _) (bc_of (fun h => ?_) (fun h => ?_))
    · have h := of_decide_eq_true h; omega
    · show [SV.int _ _] = [SV.int _ _]
      rw [List.drop_eq_nil_of_le (show l.length ≤ i by omega)]; rfl
  | succ m ih =>
    intro i a x hm h1
    by_cases hi : i < l.length
    · refine sy_go cx0 (vc_leastL l a x i _ _) ?_
      have g1 : gt (Sh.int .i64) l (i : Int).toNat = l[i] := gt_eq hi
      rw [g1, decide_eq_true (show (i : Int) < (l.length : Int) by omega), bc_t]
      refine ⟨by omega, by omega, ?_⟩
      rw [IntWalk.i64_in ((i : Int) + 1) (by omega), dropc hi, minL]
      exact (ih (i + 1) _ x (by omega) (by omega)).only ⟨rfl, rfl, rfl, rfl, rfl, trivial⟩ trivial
    · exact ih i a x (by omega) h1
theorem least_run (l : List Int) (hp : preNe l) : sy tt G0 [] Try.f33.ntmps Try.f33.results.toList (QC ctLeast (l, ())) (Px.Good Try.prog tt G0 33 Try.f33.ntmps Try.f33.results.toList (QC ctLeast (l, ()))) 1000 [.code (bodyOf Try.f33)] (entry [slI] (l, ())) := by
  refine (vc_least _ _ _).mpr ⟨by decide, by have := hp.1; omega, ?_⟩
  exact ((least_loop l hp.2 _ 0 _ 0 (Nat.le_refl _) (Nat.zero_le _)).post fun rs blk h => QC.flat (by rw [h]; rfl) rfl (by rw [h]; rfl)).only ⟨rfl, rfl, rfl, rfl, rfl, trivial⟩ trivial
theorem least_held : Held Try.prog G0 33 ctLeast := Held.run cx0 (fn := Try.f33) rfl rfl ⟨by decide, by decide⟩ fun x hp => least_run x.1 hp
def C6 : CV := (28, .inr ctSt) :: (33, .inl ctLeast) :: (27, .inl ctClo) :: C4
theorem cx6 : CxOK Try.prog tt G0 C6 := ((cx4.cons clo_held (fn := Try.f27) rfl rfl rfl).cons least_held (fn := Try.f33) rfl rfl rfl).consI st_held (fn := Try.f28) rfl rfl rfl
end Go.Proofs.Ytjcknfkddbiobaa
namespace Go.Proofs.Ytjcknfkddbiobaa
open Go.Px Go.Ax
abbrev K31 : List AK := [.dat (.int .i64), .dat (.int .i64), fn28]
set_option maxRecDepth 100000
theorem vc_fa (low high : Int) (b o s : List Int) (n : Int) (Q : List SV → List (Nat × LB) → Prop) (R : List Item → PS → Prop) : sy tt G0 C6 Try.f31.ntmps Try.f31.results.toList Q R 1000 [.code (bodyOf Try.f31)] (entryI K31 (low, high, ((), ((b, ()), (o, ()), (s, ()), (n, ()), ())), ())) =
    (R (hd Try.f31 (0 : Nat))
 {
 env :=
 [((0 : Nat), SV.int IntKind.i64 low), ((1 : Nat), SV.int IntKind.i64 high),
 ((2 : Nat),
 SV.fn (28 : Nat) []
 [SV.ptr (1099511627776 : Nat) (0 : Nat), SV.ptr (1099511627777 : Nat) (0 : Nat),
 SV.ptr (1099511627778 : Nat) (0 : Nat), SV.ptr (1099511627779 : Nat) (0 : Nat)]),
 ((6 : Nat), SV.int IntKind.i64 (0 : Int))],
 blk :=
 [((1099511627776 : Nat), LB.var [SV.sl (Sh.int IntKind.u8) b]),
 ((1099511627777 : Nat), LB.var [SV.sl (Sh.int IntKind.i64) o]),
 ((1099511627778 : Nat), LB.var [SV.sl (Sh.int IntKind.u8) s]),
 ((1099511627779 : Nat), LB.var [SV.int IntKind.i64 n])] }) := by kernel_rfl
theorem vc_faL (low high : Int) (b o s : List Int) (n : Int) (Q : List SV → List (Nat × LB) → Prop) (R : List Item → PS → Prop) : sy tt G0 C6 Try.f31.ntmps Try.f31.results.toList Q R 1000 (hd Try.f31 0) ⟨[(0, .int .i64 low), (1, .int .i64 high), (2, .fn 28 [] [.ptr 1099511627776 0, .ptr 1099511627777 0, .ptr 1099511627778 0, .ptr 1099511627779 0])], [(1099511627776, .var [.sl (.int .u8) b]), (1099511627777, .var [.sl (.int .i64) o]), (1099511627778, .var [.sl (.int .u8) s]), (1099511627779, .var [.int .i64 n])]⟩ =
    (bc (decide (low < high))
 ((2 : Int) ≠ (0 : Int) ∧
 ctSt.pre
 (IntKind.i64.wrap (low + IntKind.i64.wrap ((IntKind.i64.wrap (high - low)).tdiv (2 : Int))), (b, ()), (o, ()),
 (s, ()), (n, ()), ()) ∧
 bc (stB b o s n (IntKind.i64.wrap (low + IntKind.i64.wrap ((IntKind.i64.wrap (high - low)).tdiv (2 : Int)))))
 (R (hd Try.f31 (0 : Nat))
 {
 env :=
 [((0 : Nat), SV.int IntKind.i64 low),
 ((1 : Nat),
 SV.int IntKind.i64
 (IntKind.i64.wrap (low + IntKind.i64.wrap ((IntKind.i64.wrap (high - low)).tdiv (2 : Int))))),
 ((2 : Nat),
 SV.fn (28 : Nat) []
 [SV.ptr (1099511627776 : Nat) (0 : Nat), SV.ptr (1099511627777 : Nat) (0 : Nat),
 SV.ptr (1099511627778 : Nat) (0 : Nat), SV.ptr (1099511627779 : Nat) (0 : Nat)]),
 ((7 : Nat),
 SV.int IntKind.i64
 (IntKind.i64.wrap (low + IntKind.i64.wrap ((IntKind.i64.wrap (high - low)).tdiv (2 : Int))))),
 ((8 : Nat), SV.int IntKind.i64 low), ((9 : Nat), SV.int IntKind.i64 high),
 ((10 : Nat), SV.bool (decide (low < high))), ((11 : Nat), SV.int IntKind.i64 low),
 ((12 : Nat), SV.int IntKind.i64 high), ((13 : Nat), SV.int IntKind.i64 low),
 ((14 : Nat), SV.int IntKind.i64 (IntKind.i64.wrap (high - low))),
 ((15 : Nat), SV.int IntKind.i64 (IntKind.i64.wrap ((IntKind.i64.wrap (high - low)).tdiv (2 : Int)))),
 ((16 : Nat),
 SV.int IntKind.i64
 (IntKind.i64.wrap (low + IntKind.i64.wrap ((IntKind.i64.wrap (high - low)).tdiv (2 : Int))))),
 ((17 : Nat),
 SV.fn (28 : Nat) []
 [SV.ptr (1099511627776 : Nat) (0 : Nat), SV.ptr (1099511627777 : Nat) (0 : Nat),
 SV.ptr (1099511627778 : Nat) (0 : Nat), SV.ptr (1099511627779 : Nat) (0 : Nat)]),
 ((18 : Nat),
 SV.int IntKind.i64
 (IntKind.i64.wrap (low + IntKind.i64.wrap ((IntKind.i64.wrap (high - low)).tdiv (2 : Int))))),
 ((19 : Nat),
 SV.bool
 (stB b o s n
 (IntKind.i64.wrap (low + IntKind.i64.wrap ((IntKind.i64.wrap (high - low)).tdiv (2 : Int)))))),
 ((20 : Nat),
 SV.int IntKind.i64
 (IntKind.i64.wrap (low + IntKind.i64.wrap ((IntKind.i64.wrap (high - low)).tdiv (2 : Int)))))],
 blk :=
 [((1099511627776 : Nat), LB.var [SV.sl (Sh.int IntKind.u8) b]),
 ((1099511627777 : Nat), LB.var [SV.sl (Sh.int IntKind.i64) o]),
 ((1099511627778 : Nat), LB.var [SV.sl (Sh.int IntKind.u8) s]),
 ((1099511627779 : Nat), LB.var [SV.int IntKind.i64 n])] })
 (R (hd Try.f31 (0 : Nat))
 {
 env :=
 [((0 : Nat),
 SV.int IntKind.i64
 (IntKind.i64.wrap
 (IntKind.i64.wrap (low + IntKind.i64.wrap ((IntKind.i64.wrap (high - low)).tdiv (2 : Int))) +
 (1 : Int)))),
 ((1 : Nat), SV.int IntKind.i64 high),
 ((2 : Nat),
 SV.fn (28 : Nat) []
 [SV.ptr (1099511627776 : Nat) (0 : Nat), SV.ptr (1099511627777 : Nat) (0 : Nat),
 SV.ptr (1099511627778 : Nat) (0 : Nat), SV.ptr (1099511627779 : Nat) (0 : Nat)]),
 ((7 : Nat),
 SV.int IntKind.i64
 (IntKind.i64.wrap (low + IntKind.i64.wrap ((IntKind.i64.wrap (high - low)).tdiv (2 : Int))))),
 ((8 : Nat), SV.int IntKind.i64 low), ((9 : Nat), SV.int IntKind.i64 high),
 ((10 : Nat), SV.bool (decide (low < high))), ((11 : Nat), SV.int IntKind.i64 low),
 ((12 : Nat), SV.int IntKind.i64 high), ((13 : Nat), SV.int IntKind.i64 low),
 ((14 : Nat), SV.int IntKind.i64 (IntKind.i64.wrap (high - low))),
 ((15 : Nat), SV.int IntKind.i64 (IntKind.i64.wrap ((IntKind.i64.wrap (high - low)).tdiv (2 : Int)))),
 ((16 : Nat),
 SV.int IntKind.i64
 (IntKind.i64.wrap (low + IntKind.i64.wrap ((IntKind.i64.wrap (high - low)).tdiv (2 : Int))))),
 ((17 : Nat),
 SV.fn (28 : Nat) []
 [SV.ptr (1099511627776 : Nat) (0 : Nat), SV.ptr (1099511627777 : Nat) (0 : Nat),
 SV.ptr (1099511627778 : Nat) (0 : Nat), SV.ptr (1099511627779 : Nat) (0 : Nat)]),
 ((18 : Nat),
 SV.int IntKind.i64
 (IntKind.i64.wrap (low + IntKind.i64.wrap ((IntKind.i64.wrap (high - low)).tdiv (2 : Int))))),
 ((19 : Nat),
 SV.bool
 (stB b o s n
 (IntKind.i64.wrap (low + IntKind.i64.wrap ((IntKind.i64.wrap (high - low)).tdiv (2 : Int)))))),
 ((21 : Nat),
 SV.int IntKind.i64
 (IntKind.i64.wrap (low + IntKind.i64.wrap ((IntKind.i64.wrap (high - low)).tdiv (2 : Int))))),
 ((22 : Nat),
 SV.int IntKind.i64
 (IntKind.i64.wrap
 (IntKind.i64.wrap (low + IntKind.i64.wrap ((IntKind.i64.wrap (high - low)).tdiv (2 : Int))) +
 (1 : Int))))],
 blk :=
 [((1099511627776 : Nat), LB.var [SV.sl (Sh.int IntKind.u8) b]),
 ((1099511627777 : Nat), LB.var [SV.sl (Sh.int IntKind.i64) o]),
 ((1099511627778 : Nat), LB.var [SV.sl (Sh.int IntKind.u8) s]),
 ((1099511627779 : Nat), LB.var [SV.int IntKind.i64 n])] }))
 (Q [SV.int IntKind.i64 low]
 [((1099511627776 : Nat), LB.var [SV.sl (Sh.int IntKind.u8) b]),
 ((1099511627777 : Nat), LB.var [SV.sl (Sh.int IntKind.i64) o]),
 ((1099511627778 : Nat), LB.var [SV.sl (Sh.int IntKind.u8) s]),
 ((1099511627779 : Nat), LB.var [SV.int IntKind.i64 n])])) := by kernel_rfl
end Go.Proofs.Ytjcknfkddbiobaa
namespace Go.Proofs.Ytjcknfkddbiobaa
open Go.Px Go.Ax
/-- The search for the first one. -/
def bs (p : Nat → Bool) : Nat → Nat → Nat → Nat
  | 0, low, _ => low
  | f + 1, low, high => if low < high then (if p (low + (high - low) / 2) then bs p f low (low + (high - low) / 2) else bs p f (low + (high - low) / 2 + 1) high) else low
theorem bs_ok {p : Nat → Bool} : ∀ (f low high : Nat), high - low ≤ f → low ≤ high → (∀ i j, low ≤ i → i ≤ j → j < high → p i = true → p j = true) →
    low ≤ bs p f low high ∧ bs p f low high ≤ high ∧ (∀ k, low ≤ k → k < bs p f low high → p k = false) ∧ ∀ k, bs p f low high ≤ k → k < high → p k = true
  | 0, low, high, hf, h, _ => by
    simp only [bs]
    exact ⟨Nat.le_refl _, h, fun k h1 h2 => by omega, fun k h1 h2 => by omega⟩
  | f + 1, low, high, hf, h, hm => by
    simp only [bs]
    split
    · rename_i hlt
      have hmid : low ≤ low + (high - low) / 2 ∧ low + (high - low) / 2 < high := by omega
      generalize low + (high - low) / 2 = mid at hmid
      split
      · rename_i hp
        obtain ⟨h1, h2, h3, h4⟩ := bs_ok f low mid (by omega) (by omega) fun i j a b c d => hm i j a b (by omega) d
        refine ⟨h1, by omega, h3, fun k k1 k2 => ?_⟩
        by_cases q : k < mid
        · exact h4 k k1 q
        · exact hm mid k (by omega) (by omega) k2 hp
      · rename_i hp
        obtain ⟨h1, h2, h3, h4⟩ := bs_ok f (mid + 1) high (by omega) (by omega) fun i j a b c d => hm i j (by omega) b c d
        refine ⟨by omega, h2, fun k k1 k2 => ?_, h4⟩
        by_cases q : k ≤ mid
        · cases e : p k with
          | false => rfl
          | true => exact absurd (hm k mid k1 q hmid.2 e) hp
        · exact h3 k (by omega) k2
    · exact ⟨Nat.le_refl _, h, fun k h1 h2 => by omega, fun k h1 h2 => by omega⟩
def preFo (low high : Int) (b o s : List Int) (n : Int) : Prop := (0 ≤ low ∧ low ≤ high ∧ high ≤ o.length ∧ o.length < 1048576) ∧ 0 ≤ n ∧ n ≤ s.length ∧ b.length < 1048576 ∧ s.length < 1048576
def bsV (p : Nat → Bool) (low high : Int) : Int := (bs p (high - low).toNat low.toNat high.toNat : Nat)
abbrev cap31 {α : Type} (f : List Int → List Int → List Int → Int → α) (x : DI [fn28]) : α := f x.1.2.1.1 x.1.2.2.1.1 x.1.2.2.2.1.1 x.1.2.2.2.2.1.1
def ctFa : CtrI := ⟨K31, fun x => cap31 (preFo x.1 x.2.1) x.2.2, fun x => [.int .i64 (bsV (fun k => cap31 stB x.2.2 k) x.1 x.2.1)], fun x => bkKL 0 K31 x⟩
abbrev blk4 (b o s : List Int) (n : Int) : List (Nat × LB) := [(1099511627776, .var [.sl (.int .u8) b]), (1099511627777, .var [.sl (.int .i64) o]), (1099511627778, .var [.sl (.int .u8) s]), (1099511627779, .var [.int .i64 n])]
abbrev S31 (b o s : List Int) (n low high : Int) : PS := ⟨[(0, .int .i64 low), (1, .int .i64 high), (2, .fn 28 [] [.ptr 1099511627776 0, .ptr 1099511627777 0, .ptr 1099511627778 0, .ptr 1099511627779 0])], blk4 b o s n⟩
theorem fa_loop {b o s : List Int} {n : Int} (hn : 0 ≤ n ∧ n ≤ s.length ∧ b.length < 1048576 ∧ s.length < 1048576 ∧ o.length < 1048576) : ∀ (f low high : Nat), high - low ≤ f → low ≤ high → high ≤ o.length →
    GD 31 Try.f31 (fun rs blk => rs = [.int .i64 (bs (fun k => stB b o s n k) f low high : Nat)] ∧ blk = blk4 b o s n) (hd Try.f31 0) (S31 b o s n (low : Nat) (high : Nat)) := by
  intro f
  induction f with
  | zero =>
    intro low high hf h1 h2
    refine sy_go cx6 (vc_faL _ _ _ _ _ _ _ _) (bc_of (fun h => ?_) (fun h => ?_))
    · have h := of_decide_eq_true h; omega
    · exact ⟨rfl, rfl⟩
  | succ f ih =>
    intro low high hf h1 h2
    by_cases hlt : low < high
    · refine sy_go cx6 (vc_faL _ _ _ _ _ _ _ _) ?_
      rw [midW h1 (by omega : high < 2 ^ 62), decide_eq_true (show (low : Int) < (high : Int) by omega), bc_t]
      have hbs : bs (fun k => stB b o s n k) (f + 1) low high = if stB b o s n (low + (high - low) / 2 : Nat) = true then bs (fun k => stB b o s n k) f low (low + (high - low) / 2) else bs (fun k => stB b o s n k) f (low + (high - low) / 2 + 1) high := by rw [bs, if_pos hlt]
      have hmid : low ≤ low + (high - low) / 2 ∧ low + (high - low) / 2 < high := by omega
      generalize low + (high - low) / 2 = mid at *
      have e1 : IntKind.i64.wrap ((mid : Int) + 1) = ((mid + 1 : Nat) : Int) := by rw [IntWalk.i64_in _ (by omega)]; omega
      rw [e1]
      refine ⟨by decide, ⟨by show (0 : Int) ≤ (mid : Int); omega, by show (mid : Int) < (o.length : Int); omega, hn.1, hn.2.1, hn.2.2.1, hn.2.2.2.1⟩, bc_of (fun h => ?_) (fun h => ?_)⟩
      · exact ((ih low mid (by omega) (by omega) (by omega)).post fun rs blk q => by rw [hbs, if_pos h]; exact q).only ⟨rfl, rfl, rfl, trivial⟩ ⟨rfl, rfl, rfl, rfl, trivial⟩
      · exact ((ih (mid + 1) high (by omega) (by omega) h2).post fun rs blk q => by rw [hbs, if_neg (by rw [h]; decide)]; exact q).only ⟨rfl, rfl, rfl, trivial⟩ ⟨rfl, rfl, rfl, rfl, trivial⟩
    · obtain rfl : low = high := by omega
      refine sy_go cx6 (vc_faL _ _ _ _ _ _ _ _) (bc_of (fun h => ?_) (fun h => ?_))
      · have h := of_decide_eq_true h; omega
      · refine ⟨?_, rfl⟩
        rw [bs, if_neg (by omega)]
theorem fa_run (low high : Int) (b o s : List Int) (n : Int) (hp : preFo low high b o s n) : sy tt G0 C6 Try.f31.ntmps Try.f31.results.toList (QI ctFa (low, high, ((), ((b, ()), (o, ()), (s, ()), (n, ()), ())), ())) (Px.Good Try.prog tt G0 31 Try.f31.ntmps Try.f31.results.toList (QI ctFa (low, high, ((), ((b, ()), (o, ()), (s, ()), (n, ()), ())), ()))) 1000 [.code (bodyOf Try.f31)] (entryI K31 (low, high, ((), ((b, ()), (o, ()), (s, ()), (n, ()), ())), ())) := by
  obtain ⟨⟨h0, h1, h2, h3⟩, h4, h5, h6, h7⟩ := hp
  refine (vc_fa _ _ _ _ _ _ _ _).mpr ?_
  have e0 : ((low.toNat : Nat) : Int) = low := by omega
  have e1 : ((high.toNat : Nat) : Int) = high := by omega
  have L := fa_loop (b := b) (o := o) (s := s) (n := n) ⟨h4, h5, h6, h7, h3⟩ (high - low).toNat low.toNat high.toNat (by omega) (by omega) (by omega)
  rw [e0, e1] at L
  refine (L.post fun rs blk q => ?_).only ⟨rfl, rfl, rfl, trivial⟩ ⟨rfl, rfl, rfl, rfl, trivial⟩
  obtain ⟨rfl, rfl⟩ := q
  exact ⟨[], ⟨_, _, rfl, rfl, rfl⟩, ⟨.inl ⟨_, _, rfl, rfl, _, rfl, _, _, rfl, .inl rfl, rfl⟩, .inl ⟨_, _, rfl, rfl, _, rfl, _, _, rfl, .inl rfl, rfl⟩, .inl ⟨_, _, rfl, rfl, _, rfl, _, _, rfl, .inl rfl, rfl⟩, .inl ⟨_, _, rfl, rfl, _, rfl, _, _, rfl, rfl, rfl⟩, trivial⟩, by decide, by simp⟩
theorem fa_held : HeldI Try.prog G0 31 ctFa := HeldI.run cx6 (fn := Try.f31) rfl rfl ⟨by decide, by decide⟩ fun x hp => fa_run x.1 x.2.1 x.2.2.1.2.1.1 x.2.2.1.2.2.1.1 x.2.2.1.2.2.2.1.1 x.2.2.1.2.2.2.2.1.1 hp
abbrev K32 : List AK := [.dat (.int .i64), .ptr [fn28]]
abbrev fn32 : AK := .fn 32 [] [.ptr [fn28]]
abbrev K31b : List AK := [.dat (.int .i64), .dat (.int .i64), fn32]
end Go.Proofs.Ytjcknfkddbiobaa
namespace Go.Proofs.Ytjcknfkddbiobaa
open Go.Px Go.Ax
set_option maxRecDepth 100000
theorem vc_ns (k : Int) (b o s : List Int) (n : Int) (Q : List SV → List (Nat × LB) → Prop) (R : List Item → PS → Prop) : sy tt G0 C6 Try.f32.ntmps Try.f32.results.toList Q R 1000 [.code (bodyOf Try.f32)] (entryI K32 (k, (((), ((b, ()), (o, ()), (s, ()), (n, ()), ())), ()), ())) =
    (ctSt.pre (k, (b, ()), (o, ()), (s, ()), (n, ()), ()) ∧
 Q [SV.bool !stB b o s n k]
 [((1099511627776 : Nat),
 LB.var
 [SV.fn (28 : Nat) []
 [SV.ptr (1099511627777 : Nat) (0 : Nat), SV.ptr (1099511627778 : Nat) (0 : Nat),
 SV.ptr (1099511627779 : Nat) (0 : Nat), SV.ptr (1099511627780 : Nat) (0 : Nat)]]),
 ((1099511627777 : Nat), LB.var [SV.sl (Sh.int IntKind.u8) b]),
 ((1099511627778 : Nat), LB.var [SV.sl (Sh.int IntKind.i64) o]),
 ((1099511627779 : Nat), LB.var [SV.sl (Sh.int IntKind.u8) s]),
 ((1099511627780 : Nat), LB.var [SV.int IntKind.i64 n])]) := by kernel_rfl
end Go.Proofs.Ytjcknfkddbiobaa
namespace Go.Proofs.Ytjcknfkddbiobaa
open Go.Px Go.Ax
abbrev cap32 {α : Type} (f : List Int → List Int → List Int → Int → α) (x : DI [.ptr [fn28]]) : α := cap31 f x.1
def ctNs : CtrI := ⟨K32, fun x => cap32 (preSt x.1) x.2, fun x => [.bool (!cap32 stB x.2 x.1)], fun x => bkKL 0 K32 x⟩
theorem ns_run (k : Int) (b o s : List Int) (n : Int) (hp : preSt k b o s n) (R : List Item → PS → Prop) : sy tt G0 C6 Try.f32.ntmps Try.f32.results.toList (QI ctNs (k, (((), ((b, ()), (o, ()), (s, ()), (n, ()), ())), ()), ())) R 1000 [.code (bodyOf Try.f32)] (entryI K32 (k, (((), ((b, ()), (o, ()), (s, ()), (n, ()), ())), ()), ())) := by
  refine (vc_ns _ _ _ _ _ _ _).mpr ⟨hp, QI.self rfl rfl rfl ?_⟩
  intro p hp
  simp only [ctNs, bkKL, bkK, cnt, cntL, List.append_nil, List.nil_append, List.mem_append, List.mem_cons, List.mem_singleton, List.not_mem_nil, or_false] at hp
  rcases hp with rfl | rfl | rfl | rfl | rfl <;> rfl
theorem ns_held : HeldI Try.prog G0 32 ctNs := HeldI.run cx6 (fn := Try.f32) rfl rfl ⟨by decide, by decide⟩ fun x hp => ns_run x.1 x.2.1.1.2.1.1 x.2.1.1.2.2.1.1 x.2.1.1.2.2.2.1.1 x.2.1.1.2.2.2.2.1.1 hp _
def C8 : CV := (32, .inr ctNs) :: (31, .inr ctFa) :: C6
theorem cx8 : CxOK Try.prog tt G0 C8 := (cx6.consI fa_held (fn := Try.f31) rfl rfl rfl).consI ns_held (fn := Try.f32) rfl rfl rfl
end Go.Proofs.Ytjcknfkddbiobaa
namespace Go.Proofs.Ytjcknfkddbiobaa
open Go.Px Go.Ax
set_option maxRecDepth 100000
theorem vc_fb (low high : Int) (b o s : List Int) (n : Int) (Q : List SV → List (Nat × LB) → Prop) (R : List Item → PS → Prop) : sy tt G0 C8 Try.f31.ntmps Try.f31.results.toList Q R 1000 [.code (bodyOf Try.f31)] (entryI K31b (low, high, ((), ((((), ((b, ()), (o, ()), (s, ()), (n, ()), ())), ()), ())), ())) =
    (R (hd Try.f31 (0 : Nat))
 {
 env :=
 [((0 : Nat), SV.int IntKind.i64 low), ((1 : Nat), SV.int IntKind.i64 high),
 ((2 : Nat), SV.fn (32 : Nat) [] [SV.ptr (1099511627776 : Nat) (0 : Nat)]),
 ((6 : Nat), SV.int IntKind.i64 (0 : Int))],
 blk :=
 [((1099511627776 : Nat),
 LB.var
 [SV.fn (28 : Nat) []
 [SV.ptr (1099511627777 : Nat) (0 : Nat), SV.ptr (1099511627778 : Nat) (0 : Nat),
 SV.ptr (1099511627779 : Nat) (0 : Nat), SV.ptr (1099511627780 : Nat) (0 : Nat)]]),
 ((1099511627777 : Nat), LB.var [SV.sl (Sh.int IntKind.u8) b]),
 ((1099511627778 : Nat), LB.var [SV.sl (Sh.int IntKind.i64) o]),
 ((1099511627779 : Nat), LB.var [SV.sl (Sh.int IntKind.u8) s]),
 ((1099511627780 : Nat), LB.var [SV.int IntKind.i64 n])] }) := by kernel_rfl
theorem vc_fbL (low high : Int) (b o s : List Int) (n : Int) (Q : List SV → List (Nat × LB) → Prop) (R : List Item → PS → Prop) : sy tt G0 C8 Try.f31.ntmps Try.f31.results.toList Q R 1000 (hd Try.f31 0) ⟨[(0, .int .i64 low), (1, .int .i64 high), (2, .fn 32 [] [.ptr 1099511627776 0])], [(1099511627776, .var [.fn 28 [] [.ptr 1099511627777 0, .ptr 1099511627778 0, .ptr 1099511627779 0, .ptr 1099511627780 0]]), (1099511627777, .var [.sl (.int .u8) b]), (1099511627778, .var [.sl (.int .i64) o]), (1099511627779, .var [.sl (.int .u8) s]), (1099511627780, .var [.int .i64 n])]⟩ =
    (bc (decide (low < high))
 ((2 : Int) ≠ (0 : Int) ∧
 ctNs.pre
 (IntKind.i64.wrap (low + IntKind.i64.wrap ((IntKind.i64.wrap (high - low)).tdiv (2 : Int))),
 (((), (b, ()), (o, ()), (s, ()), (n, ()), ()), ()), ()) ∧
 bc
 (!cap32 stB ((((), (b, ()), (o, ()), (s, ()), (n, ()), ()), ()), ())
 (IntKind.i64.wrap (low + IntKind.i64.wrap ((IntKind.i64.wrap (high - low)).tdiv (2 : Int)))))
 (R (hd Try.f31 (0 : Nat))
 {
 env :=
 [((0 : Nat), SV.int IntKind.i64 low),
 ((1 : Nat),
 SV.int IntKind.i64
 (IntKind.i64.wrap (low + IntKind.i64.wrap ((IntKind.i64.wrap (high - low)).tdiv (2 : Int))))),
 ((2 : Nat), SV.fn (32 : Nat) [] [SV.ptr (1099511627776 : Nat) (0 : Nat)]),
 ((7 : Nat),
 SV.int IntKind.i64
 (IntKind.i64.wrap (low + IntKind.i64.wrap ((IntKind.i64.wrap (high - low)).tdiv (2 : Int))))),
 ((8 : Nat), SV.int IntKind.i64 low), ((9 : Nat), SV.int IntKind.i64 high),
 ((10 : Nat), SV.bool (decide (low < high))), ((11 : Nat), SV.int IntKind.i64 low),
 ((12 : Nat), SV.int IntKind.i64 high), ((13 : Nat), SV.int IntKind.i64 low),
 ((14 : Nat), SV.int IntKind.i64 (IntKind.i64.wrap (high - low))),
 ((15 : Nat), SV.int IntKind.i64 (IntKind.i64.wrap ((IntKind.i64.wrap (high - low)).tdiv (2 : Int)))),
 ((16 : Nat),
 SV.int IntKind.i64
 (IntKind.i64.wrap (low + IntKind.i64.wrap ((IntKind.i64.wrap (high - low)).tdiv (2 : Int))))),
 ((17 : Nat), SV.fn (32 : Nat) [] [SV.ptr (1099511627776 : Nat) (0 : Nat)]),
 ((18 : Nat),
 SV.int IntKind.i64
 (IntKind.i64.wrap (low + IntKind.i64.wrap ((IntKind.i64.wrap (high - low)).tdiv (2 : Int))))),
 ((19 : Nat),
 SV.bool
 !cap32 stB ((((), (b, ()), (o, ()), (s, ()), (n, ()), ()), ()), ())
 (IntKind.i64.wrap (low + IntKind.i64.wrap ((IntKind.i64.wrap (high - low)).tdiv (2 : Int))))),
 ((20 : Nat),
 SV.int IntKind.i64
 (IntKind.i64.wrap (low + IntKind.i64.wrap ((IntKind.i64.wrap (high - low)).tdiv (2 : Int)))))],
 blk :=
 [((1099511627776 : Nat),
 LB.var
 [SV.fn (28 : Nat) []
 [SV.ptr (1099511627777 : Nat) (0 : Nat), SV.ptr (1099511627778 : Nat) (0 : Nat),
 SV.ptr (1099511627779 : Nat) (0 : Nat), SV.ptr (1099511627780 : Nat) (0 : Nat)]]),
 ((1099511627777 : Nat), LB.var [SV.sl (Sh.int IntKind.u8) b]),
 ((1099511627778 : Nat), LB.var [SV.sl (Sh.int IntKind.i64) o]),
 ((1099511627779 : Nat), LB.var [SV.sl (Sh.int IntKind.u8) s]),
 ((1099511627780 : Nat), LB.var [SV.int IntKind.i64 n])] })
 (R (hd Try.f31 (0 : Nat))
 {
 env :=
 [((0 : Nat),
 SV.int IntKind.i64
 (IntKind.i64.wrap
 (IntKind.i64.wrap (low + IntKind.i64.wrap ((IntKind.i64.wrap (high - low)).tdiv (2 : Int))) +
 (1 : Int)))),
 ((1 : Nat), SV.int IntKind.i64 high),
 ((2 : Nat), SV.fn (32 : Nat) [] [SV.ptr (1099511627776 : Nat) (0 : Nat)]),
 ((7 : Nat),
 SV.int IntKind.i64
 (IntKind.i64.wrap (low + IntKind.i64.wrap ((IntKind.i64.wrap (high - low)).tdiv (2 : Int))))),
 ((8 : Nat), SV.int IntKind.i64 low), ((9 : Nat), SV.int IntKind.i64 high),
 ((10 : Nat), SV.bool (decide (low < high))), ((11 : Nat), SV.int IntKind.i64 low),
 ((12 : Nat), SV.int IntKind.i64 high), ((13 : Nat), SV.int IntKind.i64 low),
 ((14 : Nat), SV.int IntKind.i64 (IntKind.i64.wrap (high - low))),
 ((15 : Nat), SV.int IntKind.i64 (IntKind.i64.wrap ((IntKind.i64.wrap (high - low)).tdiv (2 : Int)))),
 ((16 : Nat),
 SV.int IntKind.i64
 (IntKind.i64.wrap (low + IntKind.i64.wrap ((IntKind.i64.wrap (high - low)).tdiv (2 : Int))))),
 ((17 : Nat), SV.fn (32 : Nat) [] [SV.ptr (1099511627776 : Nat) (0 : Nat)]),
 ((18 : Nat),
 SV.int IntKind.i64
 (IntKind.i64.wrap (low + IntKind.i64.wrap ((IntKind.i64.wrap (high - low)).tdiv (2 : Int))))),
 ((19 : Nat),
 SV.bool
 !cap32 stB ((((), (b, ()), (o, ()), (s, ()), (n, ()), ()), ()), ())
 (IntKind.i64.wrap (low + IntKind.i64.wrap ((IntKind.i64.wrap (high - low)).tdiv (2 : Int))))),
 ((21 : Nat),
 SV.int IntKind.i64
 (IntKind.i64.wrap (low + IntKind.i64.wrap ((IntKind.i64.wrap (high - low)).tdiv (2 : Int))))),
 ((22 : Nat),
 SV.int IntKind.i64
 (IntKind.i64.wrap
 (IntKind.i64.wrap (low + IntKind.i64.wrap ((IntKind.i64.wrap (high - low)).tdiv (2 : Int))) +
 (1 : Int))))],
 blk :=
 [((1099511627776 : Nat),
 LB.var
 [SV.fn (28 : Nat) []
 [SV.ptr (1099511627777 : Nat) (0 : Nat), SV.ptr (1099511627778 : Nat) (0 : Nat),
 SV.ptr (1099511627779 : Nat) (0 : Nat), SV.ptr (1099511627780 : Nat) (0 : Nat)]]),
 ((1099511627777 : Nat), LB.var [SV.sl (Sh.int IntKind.u8) b]),
 ((1099511627778 : Nat), LB.var [SV.sl (Sh.int IntKind.i64) o]),
 ((1099511627779 : Nat), LB.var [SV.sl (Sh.int IntKind.u8) s]),
 ((1099511627780 : Nat), LB.var [SV.int IntKind.i64 n])] }))
 (Q [SV.int IntKind.i64 low]
 [((1099511627776 : Nat),
 LB.var
 [SV.fn (28 : Nat) []
 [SV.ptr (1099511627777 : Nat) (0 : Nat), SV.ptr (1099511627778 : Nat) (0 : Nat),
 SV.ptr (1099511627779 : Nat) (0 : Nat), SV.ptr (1099511627780 : Nat) (0 : Nat)]]),
 ((1099511627777 : Nat), LB.var [SV.sl (Sh.int IntKind.u8) b]),
 ((1099511627778 : Nat), LB.var [SV.sl (Sh.int IntKind.i64) o]),
 ((1099511627779 : Nat), LB.var [SV.sl (Sh.int IntKind.u8) s]),
 ((1099511627780 : Nat), LB.var [SV.int IntKind.i64 n])])) := by kernel_rfl
end Go.Proofs.Ytjcknfkddbiobaa
namespace Go.Proofs.Ytjcknfkddbiobaa
open Go.Px Go.Ax
abbrev cap33 {α : Type} (f : List Int → List Int → List Int → Int → α) (x : DI [fn32]) : α := cap32 f x.1.2
def ctFb : CtrI := ⟨K31b, fun x => cap33 (preFo x.1 x.2.1) x.2.2, fun x => [.int .i64 (bsV (fun k => !cap33 stB x.2.2 k) x.1 x.2.1)], fun x => bkKL 0 K31b x⟩
abbrev blk5 (b o s : List Int) (n : Int) : List (Nat × LB) := [(1099511627776, .var [.fn 28 [] [.ptr 1099511627777 0, .ptr 1099511627778 0, .ptr 1099511627779 0, .ptr 1099511627780 0]]), (1099511627777, .var [.sl (.int .u8) b]), (1099511627778, .var [.sl (.int .i64) o]), (1099511627779, .var [.sl (.int .u8) s]), (1099511627780, .var [.int .i64 n])]
abbrev S31b (b o s : List Int) (n low high : Int) : PS := ⟨[(0, .int .i64 low), (1, .int .i64 high), (2, .fn 32 [] [.ptr 1099511627776 0])], blk5 b o s n⟩
theorem fb_loop {b o s : List Int} {n : Int} (hn : 0 ≤ n ∧ n ≤ s.length ∧ b.length < 1048576 ∧ s.length < 1048576 ∧ o.length < 1048576) : ∀ (f low high : Nat), high - low ≤ f → low ≤ high → high ≤ o.length →
    GD 31 Try.f31 (fun rs blk => rs = [.int .i64 (bs (fun k => !stB b o s n k) f low high : Nat)] ∧ blk = blk5 b o s n) (hd Try.f31 0) (S31b b o s n (low : Nat) (high : Nat)) := by
  intro f
  induction f with
  | zero =>
    intro low high hf h1 h2
    refine sy_go cx8 (vc_fbL _ _ _ _ _ _ _ _) (bc_of (fun h => ?_) (fun h => ?_))
    · have h := of_decide_eq_true h; omega
    · exact ⟨rfl, rfl⟩
  | succ f ih =>
    intro low high hf h1 h2
    by_cases hlt : low < high
    · refine sy_go cx8 (vc_fbL _ _ _ _ _ _ _ _) ?_
      rw [midW h1 (by omega : high < 2 ^ 62), decide_eq_true (show (low : Int) < (high : Int) by omega), bc_t]
      have hbs : bs (fun k => !stB b o s n k) (f + 1) low high = if (!stB b o s n (low + (high - low) / 2 : Nat)) = true then bs (fun k => !stB b o s n k) f low (low + (high - low) / 2) else bs (fun k => !stB b o s n k) f (low + (high - low) / 2 + 1) high := by rw [bs, if_pos hlt]
      have hmid : low ≤ low + (high - low) / 2 ∧ low + (high - low) / 2 < high := by omega
      generalize low + (high - low) / 2 = mid at *
      have e1 : IntKind.i64.wrap ((mid : Int) + 1) = ((mid + 1 : Nat) : Int) := by rw [IntWalk.i64_in _ (by omega)]; omega
      rw [e1]
      refine ⟨by decide, ⟨by show (0 : Int) ≤ (mid : Int); omega, by show (mid : Int) < (o.length : Int); omega, hn.1, hn.2.1, hn.2.2.1, hn.2.2.2.1⟩, bc_of (fun h => ?_) (fun h => ?_)⟩
      · exact ((ih low mid (by omega) (by omega) (by omega)).post fun rs blk q => by rw [hbs, if_pos h]; exact q).only ⟨rfl, rfl, rfl, trivial⟩ ⟨rfl, rfl, rfl, rfl, rfl, trivial⟩
      · exact ((ih (mid + 1) high (by omega) (by omega) h2).post fun rs blk q => by rw [hbs, if_neg (by rw [h]; decide)]; exact q).only ⟨rfl, rfl, rfl, trivial⟩ ⟨rfl, rfl, rfl, rfl, rfl, trivial⟩
    · obtain rfl : low = high := by omega
      refine sy_go cx8 (vc_fbL _ _ _ _ _ _ _ _) (bc_of (fun h => ?_) (fun h => ?_))
      · have h := of_decide_eq_true h; omega
      · refine ⟨?_, rfl⟩
        rw [bs, if_neg (by omega)]
theorem fb_run (low high : Int) (b o s : List Int) (n : Int) (hp : preFo low high b o s n) : sy tt G0 C8 Try.f31.ntmps Try.f31.results.toList (QI ctFb (low, high, ((), ((((), ((b, ()), (o, ()), (s, ()), (n, ()), ())), ()), ())), ())) (Px.Good Try.prog tt G0 31 Try.f31.ntmps Try.f31.results.toList (QI ctFb (low, high, ((), ((((), ((b, ()), (o, ()), (s, ()), (n, ()), ())), ()), ())), ()))) 1000 [.code (bodyOf Try.f31)] (entryI K31b (low, high, ((), ((((), ((b, ()), (o, ()), (s, ()), (n, ()), ())), ()), ())), ())) := by
  obtain ⟨⟨h0, h1, h2, h3⟩, h4, h5, h6, h7⟩ := hp
  refine (vc_fb _ _ _ _ _ _ _ _).mpr ?_
  have e0 : ((low.toNat : Nat) : Int) = low := by omega
  have e1 : ((high.toNat : Nat) : Int) = high := by omega
  have L := fb_loop (b := b) (o := o) (s := s) (n := n) ⟨h4, h5, h6, h7, h3⟩ (high - low).toNat low.toNat high.toNat (by omega) (by omega) (by omega)
  rw [e0, e1] at L
  refine (L.post fun rs blk q => ?_).only ⟨rfl, rfl, rfl, trivial⟩ ⟨rfl, rfl, rfl, rfl, rfl, trivial⟩
  obtain ⟨rfl, rfl⟩ := q
  refine QI.self rfl rfl rfl ?_
  intro p hp
  simp only [ctFb, bkKL, bkK, cnt, cntL, List.append_nil, List.nil_append, List.mem_append, List.mem_cons, List.mem_singleton, List.not_mem_nil, or_false] at hp
  rcases hp with rfl | rfl | rfl | rfl | rfl <;> rfl
theorem fb_held : HeldI Try.prog G0 31 ctFb := HeldI.run cx8 (fn := Try.f31) rfl rfl ⟨by decide, by decide⟩ fun x hp => fb_run x.1 x.2.1 x.2.2.1.2.1.1.2.1.1 x.2.2.1.2.1.1.2.2.1.1 x.2.2.1.2.1.1.2.2.2.1.1 x.2.2.1.2.1.1.2.2.2.2.1.1 hp
def C9 : CV := (31, .inr ctFb) :: C8
theorem cx9 : CxOK Try.prog tt G0 C9 := cx8.consI fb_held (fn := Try.f31) rfl rfl rfl
end Go.Proofs.Ytjcknfkddbiobaa
namespace Go.Proofs.Ytjcknfkddbiobaa
open Go.Px Go.Ax
set_option maxRecDepth 100000
theorem vc_lon (b o s : List Int) (Q : List SV → List (Nat × LB) → Prop) (R : List Item → PS → Prop) : sy tt G0 C9 Try.f15.ntmps Try.f15.results.toList Q R 1000 [.code (bodyOf Try.f15)] (entry [slB, slI, slB] (b, o, s, ())) =
    (ctClo.pre (b, o, s, ()) ∧
 bc (decide ((↑(cloR b o s).snd : Int) = (0 : Int)))
 (Q
 [SV.agg
 [SV.int IntKind.i64 ((Sh.int IntKind.i64).pair (Sh.int IntKind.i64)).dflt.fst,
 SV.int IntKind.i64 ((Sh.int IntKind.i64).pair (Sh.int IntKind.i64)).dflt.snd]]
 [((3 : Nat), LB.var [SV.sl (Sh.int IntKind.u8) b]), ((4 : Nat), LB.var [SV.sl (Sh.int IntKind.i64) o]),
 ((5 : Nat), LB.var [SV.sl (Sh.int IntKind.u8) s]),
 ((6 : Nat),
 LB.var
 [SV.int IntKind.i64 ((Sh.int IntKind.i64).pair (Sh.int IntKind.i64)).dflt.fst,
 SV.int IntKind.i64 ((Sh.int IntKind.i64).pair (Sh.int IntKind.i64)).dflt.snd]),
 ((8 : Nat), LB.var [SV.int IntKind.i64 (↑(cloR b o s).snd : Int)])])
 (ctFa.pre
 ((0 : Int), (↑(cloR b o s).fst : Int), ((), (b, ()), (o, ()), (s, ()), ((↑(cloR b o s).snd : Int), ()), ()),
 ()) ∧
 ctFb.pre
 (IntKind.i64.wrap ((↑(cloR b o s).fst : Int) + (1 : Int)), (↑o.length : Int),
 ((), (((), (b, ()), (o, ()), (s, ()), ((↑(cloR b o s).snd : Int), ()), ()), ()), ()), ()) ∧
 (0 : Int) ≤
 bsV
 (fun k => cap31 stB (((), (b, ()), (o, ()), (s, ()), ((↑(cloR b o s).snd : Int), ()), ()), ()) (↑k : Int))
 (0 : Int) (↑(cloR b o s).fst : Int) ∧
 bsV (fun k => cap31 stB (((), (b, ()), (o, ()), (s, ()), ((↑(cloR b o s).snd : Int), ()), ()), ()) (↑k : Int))
 (0 : Int) (↑(cloR b o s).fst : Int) ≤
 bsV
 (fun k =>
 !cap33 stB (((), (((), (b, ()), (o, ()), (s, ()), ((↑(cloR b o s).snd : Int), ()), ()), ()), ()), ())
 (↑k : Int))
 (IntKind.i64.wrap ((↑(cloR b o s).fst : Int) + (1 : Int))) (↑o.length : Int) ∧
 bsV
 (fun k =>
 !cap33 stB
 (((), (((), (b, ()), (o, ()), (s, ()), ((↑(cloR b o s).snd : Int), ()), ()), ()), ()), ())
 (↑k : Int))
 (IntKind.i64.wrap ((↑(cloR b o s).fst : Int) + (1 : Int))) (↑o.length : Int) ≤
 (↑o.length : Int) ∧
 ctLeast.pre
 (Px.part o
 (some
 (bsV
 (fun k =>
 cap31 stB (((), (b, ()), (o, ()), (s, ()), ((↑(cloR b o s).snd : Int), ()), ()), ())
 (↑k : Int))
 (0 : Int) (↑(cloR b o s).fst : Int)))
 (some
 (bsV
 (fun k =>
 !cap33 stB
 (((), (((), (b, ()), (o, ()), (s, ()), ((↑(cloR b o s).snd : Int), ()), ()), ()), ()),
 ())
 (↑k : Int))
 (IntKind.i64.wrap ((↑(cloR b o s).fst : Int) + (1 : Int))) (↑o.length : Int))),
 ()) ∧
 Q
 [SV.agg
 [SV.int IntKind.i64
 (minL
 (Px.part o
 (some
 (bsV
 (fun k =>
 cap31 stB (((), (b, ()), (o, ()), (s, ()), ((↑(cloR b o s).snd : Int), ()), ()), ())
 (↑k : Int))
 (0 : Int) (↑(cloR b o s).fst : Int)))
 (some
 (bsV
 (fun k =>
 !cap33 stB
 (((),
 (((), (b, ()), (o, ()), (s, ()), ((↑(cloR b o s).snd : Int), ()), ()), ()),
 ()),
 ())
 (↑k : Int))
 (IntKind.i64.wrap ((↑(cloR b o s).fst : Int) + (1 : Int))) (↑o.length : Int))))
 (gt (Sh.int IntKind.i64)
 (Px.part o
 (some
 (bsV
 (fun k =>
 cap31 stB
 (((), (b, ()), (o, ()), (s, ()), ((↑(cloR b o s).snd : Int), ()), ()), ())
 (↑k : Int))
 (0 : Int) (↑(cloR b o s).fst : Int)))
 (some
 (bsV
 (fun k =>
 !cap33 stB
 (((),
 (((), (b, ()), (o, ()), (s, ()), ((↑(cloR b o s).snd : Int), ()), ()),
 ()),
 ()),
 ())
 (↑k : Int))
 (IntKind.i64.wrap ((↑(cloR b o s).fst : Int) + (1 : Int))) (↑o.length : Int))))
 (0 : Nat))),
 SV.int IntKind.i64 (↑(cloR b o s).snd : Int)]]
 [((3 : Nat), LB.var [SV.sl (Sh.int IntKind.u8) b]),
 ((4 : Nat), LB.var [SV.sl (Sh.int IntKind.i64) o]),
 ((5 : Nat), LB.var [SV.sl (Sh.int IntKind.u8) s]),
 ((6 : Nat),
 LB.var
 [SV.int IntKind.i64
 (minL
 (Px.part o
 (some
 (bsV
 (fun k =>
 cap31 stB
 (((), (b, ()), (o, ()), (s, ()), ((↑(cloR b o s).snd : Int), ()), ()), ())
 (↑k : Int))
 (0 : Int) (↑(cloR b o s).fst : Int)))
 (some
 (bsV
 (fun k =>
 !cap33 stB
 (((),
 (((), (b, ()), (o, ()), (s, ()), ((↑(cloR b o s).snd : Int), ()), ()),
 ()),
 ()),
 ())
 (↑k : Int))
 (IntKind.i64.wrap ((↑(cloR b o s).fst : Int) + (1 : Int))) (↑o.length : Int))))
 (gt (Sh.int IntKind.i64)
 (Px.part o
 (some
 (bsV
 (fun k =>
 cap31 stB
 (((), (b, ()), (o, ()), (s, ()), ((↑(cloR b o s).snd : Int), ()), ()), ())
 (↑k : Int))
 (0 : Int) (↑(cloR b o s).fst : Int)))
 (some
 (bsV
 (fun k =>
 !cap33 stB
 (((),
 (((), (b, ()), (o, ()), (s, ()), ((↑(cloR b o s).snd : Int), ()), ()),
 ()),
 ()),
 ())
 (↑k : Int))
 (IntKind.i64.wrap ((↑(cloR b o s).fst : Int) + (1 : Int))) (↑o.length : Int))))
 (0 : Nat))),
 SV.int IntKind.i64 (↑(cloR b o s).snd : Int)]),
 ((8 : Nat), LB.var [SV.int IntKind.i64 (↑(cloR b o s).snd : Int)]),
 ((9 : Nat),
 LB.var
 [SV.fn (28 : Nat) []
 [SV.ptr (3 : Nat) (0 : Nat), SV.ptr (4 : Nat) (0 : Nat), SV.ptr (5 : Nat) (0 : Nat),
 SV.ptr (8 : Nat) (0 : Nat)]])])) := by kernel_rfl
end Go.Proofs.Ytjcknfkddbiobaa
namespace Go.Proofs.Ytjcknfkddbiobaa
/-- The longest beginning that stands somewhere, and its least place. -/
def lonF (b s : List Int) : Nat × Nat := (List.range b.length).foldl (fun r i => if r.2 < lcp (b.drop i) s then (i, lcp (b.drop i) s) else r) (0, 0)
structure IsLon (b s : List Int) (m : Nat) (r : Nat × Nat) : Prop where
  max : ∀ i, i < m → lcp (b.drop i) s ≤ r.2
  z : r.2 = 0 → r.1 = 0
  at' : 0 < r.2 → r.1 < m ∧ lcp (b.drop r.1) s = r.2 ∧ ∀ i, i < r.1 → lcp (b.drop i) s < r.2
theorem lonF_ok (b s : List Int) : IsLon b s b.length (lonF b s) := by
  unfold lonF
  generalize b.length = m
  induction m with
  | zero => exact ⟨fun i h => by omega, fun _ => rfl, fun h => by simp at h⟩
  | succ m ih =>
    rw [List.range_succ, List.foldl_append, List.foldl_cons, List.foldl_nil]
    generalize (List.range m).foldl _ (0, 0) = r at ih
    obtain ⟨h1, h2, h3⟩ := ih
    split
    · rename_i q
      refine ⟨fun i hi => ?_, fun e => by simp only at e; omega, fun _ => ⟨by simp, rfl, fun i hi => ?_⟩⟩
      · by_cases e : i = m
        · subst e; exact Nat.le_refl _
        · have := h1 i (by omega); simp only; omega
      · have := h1 i hi; simp only; omega
    · rename_i q
      refine ⟨fun i hi => ?_, h2, fun h => ?_⟩
      · by_cases e : i = m
        · subst e; omega
        · exact h1 i (by omega)
      · obtain ⟨a, c⟩ := h3 h
        exact ⟨by omega, c⟩
theorem IsLon.unique {b s : List Int} {m : Nat} {r q : Nat × Nat} (h : IsLon b s m r) (k : IsLon b s m q) : r = q := by
  have e2 : r.2 = q.2 := by
    apply Nat.le_antisymm
    · by_cases h0 : r.2 = 0
      · omega
      · obtain ⟨a, c, _⟩ := h.at' (by omega)
        rw [← c]; exact k.max _ a
    · by_cases h0 : q.2 = 0
      · omega
      · obtain ⟨a, c, _⟩ := k.at' (by omega)
        rw [← c]; exact h.max _ a
  have e1 : r.1 = q.1 := by
    by_cases h0 : r.2 = 0
    · rw [h.z h0, k.z (by omega)]
    · obtain ⟨a, c, d⟩ := h.at' (by omega)
      obtain ⟨a', c', d'⟩ := k.at' (by omega)
      rcases Nat.lt_trichotomy r.1 q.1 with x | x | x
      · have := d' _ x; omega
      · exact x
      · have := d _ x; omega
  exact Prod.ext e1 e2
theorem lcp_take : ∀ (n : Nat) (a s : List Int), lcp a (s.take n) = min n (lcp a s)
  | 0, a, s => by simp [lcp_nil]
  | n + 1, [], s => by cases s <;> simp [lcp]
  | n + 1, _ :: _, [] => by simp [lcp]
  | n + 1, x :: a, y :: s => by
    simp only [List.take_succ_cons, lcp]
    split
    · rw [lcp_take n a s]; omega
    · simp
end Go.Proofs.Ytjcknfkddbiobaa
