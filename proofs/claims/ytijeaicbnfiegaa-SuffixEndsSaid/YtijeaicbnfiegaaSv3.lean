/-
  A part of the proof: what a piece of the program gives; conditions: those of each theorem.
-/
import Derived.Test.YtijeaicbnfiegaaSc2
set_option linter.unusedVariables false
namespace Go.Proofs.Ytijeaicbnfiegaa
open Go.Px Go.Ax
set_option maxRecDepth 100000
theorem vc_com (b o : List Int) (Q : List SV → List (Nat × LB) → Prop) (R : List Item → PS → Prop) : sy tt G0 C2 Try.f17.ntmps Try.f17.results.toList Q R 1000 [.code (bodyOf Try.f17)] (entry [.sl (.int .u8), .sl (.int .i64)] (b, o, ())) =
    ((0 : Int) ≤ (↑o.length : Int) ∧
 (↑o.length : Int) ≤ (↑o.length : Int) ∧
 (↑o.length : Int) < (2 : Int) ^ (24 : Nat) ∧
 (↑(8 : Nat) : Int) * (↑o.length : Int) ≤ (2 : Int) ^ (48 : Nat) ∧
 ctIdx.pre (o, (↑b.length : Int), ()) ∧
 R (hd Try.f17 (0 : Nat))
 {
 env :=
 [((0 : Nat), SV.sl (Sh.int IntKind.u8) b), ((1 : Nat), SV.sl (Sh.int IntKind.i64) o),
 ((4 : Nat), SV.nils),
 ((5 : Nat), SV.win true (Sh.int IntKind.i64) (11 : Nat) (0 : Nat) (↑o.length : Int).toNat),
 ((6 : Nat), SV.int IntKind.i64 (0 : Int)), ((9 : Nat), SV.sl (Sh.int IntKind.i64) o),
 ((10 : Nat), SV.int IntKind.i64 (↑o.length : Int)),
 ((11 : Nat), SV.win true (Sh.int IntKind.i64) (11 : Nat) (0 : Nat) (↑o.length : Int).toNat),
 ((12 : Nat), SV.sl (Sh.int IntKind.i64) o), ((13 : Nat), SV.sl (Sh.int IntKind.u8) b),
 ((14 : Nat), SV.int IntKind.i64 (↑b.length : Int)),
 ((15 : Nat), SV.win true (Sh.int IntKind.i64) (1061440 : Nat) (0 : Nat) (idxV (natsOf o)).length),
 ((16 : Nat), SV.int IntKind.i64 (↑(idxV (natsOf o)).length : Int)),
 ((17 : Nat), SV.int IntKind.i64 (0 : Int))],
 blk :=
 [((11 : Nat),
 LB.row (3 : Nat) (Sh.int IntKind.i64)
 (List.replicate (↑o.length : Int).toNat (Sh.int IntKind.i64).dflt)),
 ((1061440 : Nat), LB.row (3 : Nat) (Sh.int IntKind.i64) (idxV (natsOf o)))] }) := by kernel_rfl
theorem vc_comL (b o r q : List Int) (n i : Int) (Q : List SV → List (Nat × LB) → Prop) (R : List Item → PS → Prop) : sy tt G0 C2 Try.f17.ntmps Try.f17.results.toList Q R 1000 (hd Try.f17 0) ⟨[(0, .sl (.int .u8) b), (1, .sl (.int .i64) o), (5, .win true (.int .i64) 11 0 r.length), (6, .int .i64 n), (15, .win true (.int .i64) 1061440 0 q.length), (16, .int .i64 q.length), (17, .int .i64 i)], [(11, .row 3 (.int .i64) r), (1061440, .row 3 (.int .i64) q)]⟩ =
    (bc (decide (i < (↑q.length : Int)))
 ((0 : Int) ≤ i ∧
 i < (↑q.length : Int) ∧
 (0 : Nat) + i.toNat < q.length ∧
 bc (decide ((0 : Int) < gt (Sh.int IntKind.i64) q ((0 : Nat) + i.toNat)))
 (ctAt.pre (b, IntKind.i64.wrap (i + n), ()) ∧
 (0 : Int) ≤ IntKind.i64.wrap (gt (Sh.int IntKind.i64) q ((0 : Nat) + i.toNat) - (1 : Int)) ∧
 IntKind.i64.wrap (gt (Sh.int IntKind.i64) q ((0 : Nat) + i.toNat) - (1 : Int)) < (↑o.length : Int) ∧
 ctAt.pre
 (b,
 IntKind.i64.wrap
 (gt (Sh.int IntKind.i64) o
 (IntKind.i64.wrap (gt (Sh.int IntKind.i64) q ((0 : Nat) + i.toNat) - (1 : Int))).toNat +
 n),
 ()) ∧
 ctLcp.pre
 (sfx b (IntKind.i64.wrap (i + n)),
 sfx b
 (IntKind.i64.wrap
 (gt (Sh.int IntKind.i64) o
 (IntKind.i64.wrap (gt (Sh.int IntKind.i64) q ((0 : Nat) + i.toNat) - (1 : Int))).toNat +
 n)),
 ()) ∧
 (0 : Int) ≤ gt (Sh.int IntKind.i64) q ((0 : Nat) + i.toNat) ∧
 gt (Sh.int IntKind.i64) q ((0 : Nat) + i.toNat) < (↑r.length : Int) ∧
 (0 : Nat) + Int.toNat (gt (Sh.int IntKind.i64) q ((0 : Nat) + i.toNat)) < r.length ∧
 R (hd Try.f17 (0 : Nat))
 {
 env :=
 [((0 : Nat), SV.sl (Sh.int IntKind.u8) b), ((1 : Nat), SV.sl (Sh.int IntKind.i64) o),
 ((5 : Nat), SV.win true (Sh.int IntKind.i64) (11 : Nat) (0 : Nat) r.length),
 ((6 : Nat),
 SV.int IntKind.i64
 (max
 (IntKind.i64.wrap
 (IntKind.i64.wrap
 (n +
 (↑(lcp (sfx b (IntKind.i64.wrap (i + n)))
 (sfx b
 (IntKind.i64.wrap
 (gt (Sh.int IntKind.i64) o
 (IntKind.i64.wrap
 (gt (Sh.int IntKind.i64) q ((0 : Nat) + i.toNat) -
 (1 : Int))).toNat +
 n)))) :
 Int)) -
 (1 : Int)))
 (0 : Int))),
 ((7 : Nat), SV.int IntKind.i64 i),
 ((8 : Nat), SV.int IntKind.i64 (gt (Sh.int IntKind.i64) q ((0 : Nat) + i.toNat))),
 ((15 : Nat), SV.win true (Sh.int IntKind.i64) (1061440 : Nat) (0 : Nat) q.length),
 ((16 : Nat), SV.int IntKind.i64 (↑q.length : Int)),
 ((17 : Nat), SV.int IntKind.i64 (IntKind.i64.wrap (i + (1 : Int)))),
 ((18 : Nat), SV.bool (decide (i < (↑q.length : Int)))),
 ((19 : Nat), SV.int IntKind.i64 i),
 ((20 : Nat),
 SV.elp (Sh.int IntKind.i64) (1061440 : Nat) ((0 : Nat) + i.toNat) (0 : Nat)),
 ((21 : Nat), SV.int IntKind.i64 (gt (Sh.int IntKind.i64) q ((0 : Nat) + i.toNat))),
 ((22 : Nat), SV.int IntKind.i64 (gt (Sh.int IntKind.i64) q ((0 : Nat) + i.toNat))),
 ((23 : Nat),
 SV.bool (decide ((0 : Int) < gt (Sh.int IntKind.i64) q ((0 : Nat) + i.toNat)))),
 ((24 : Nat), SV.int IntKind.i64 n), ((25 : Nat), SV.sl (Sh.int IntKind.u8) b),
 ((26 : Nat), SV.int IntKind.i64 i), ((27 : Nat), SV.int IntKind.i64 n),
 ((28 : Nat), SV.int IntKind.i64 (IntKind.i64.wrap (i + n))),
 ((29 : Nat), SV.sl (Sh.int IntKind.u8) (sfx b (IntKind.i64.wrap (i + n)))),
 ((30 : Nat), SV.sl (Sh.int IntKind.u8) b), ((31 : Nat), SV.sl (Sh.int IntKind.i64) o),
 ((32 : Nat), SV.int IntKind.i64 (gt (Sh.int IntKind.i64) q ((0 : Nat) + i.toNat))),
 ((33 : Nat),
 SV.int IntKind.i64
 (IntKind.i64.wrap (gt (Sh.int IntKind.i64) q ((0 : Nat) + i.toNat) - (1 : Int)))),
 ((34 : Nat),
 SV.elv (Sh.int IntKind.i64)
 (gt (Sh.int IntKind.i64) o
 (IntKind.i64.wrap
 (gt (Sh.int IntKind.i64) q ((0 : Nat) + i.toNat) - (1 : Int))).toNat)),
 ((35 : Nat),
 SV.int IntKind.i64
 (gt (Sh.int IntKind.i64) o
 (IntKind.i64.wrap
 (gt (Sh.int IntKind.i64) q ((0 : Nat) + i.toNat) - (1 : Int))).toNat)),
 ((36 : Nat), SV.int IntKind.i64 n),
 ((37 : Nat),
 SV.int IntKind.i64
 (IntKind.i64.wrap
 (gt (Sh.int IntKind.i64) o
 (IntKind.i64.wrap
 (gt (Sh.int IntKind.i64) q ((0 : Nat) + i.toNat) - (1 : Int))).toNat +
 n))),
 ((38 : Nat),
 SV.sl (Sh.int IntKind.u8)
 (sfx b
 (IntKind.i64.wrap
 (gt (Sh.int IntKind.i64) o
 (IntKind.i64.wrap
 (gt (Sh.int IntKind.i64) q ((0 : Nat) + i.toNat) - (1 : Int))).toNat +
 n)))),
 ((39 : Nat),
 SV.int IntKind.i64
 (↑(lcp (sfx b (IntKind.i64.wrap (i + n)))
 (sfx b
 (IntKind.i64.wrap
 (gt (Sh.int IntKind.i64) o
 (IntKind.i64.wrap
 (gt (Sh.int IntKind.i64) q ((0 : Nat) + i.toNat) -
 (1 : Int))).toNat +
 n)))) :
 Int)),
 ((40 : Nat),
 SV.int IntKind.i64
 (IntKind.i64.wrap
 (n +
 (↑(lcp (sfx b (IntKind.i64.wrap (i + n)))
 (sfx b
 (IntKind.i64.wrap
 (gt (Sh.int IntKind.i64) o
 (IntKind.i64.wrap
 (gt (Sh.int IntKind.i64) q ((0 : Nat) + i.toNat) -
 (1 : Int))).toNat +
 n)))) :
 Int)))),
 ((41 : Nat), SV.win true (Sh.int IntKind.i64) (11 : Nat) (0 : Nat) r.length),
 ((42 : Nat), SV.int IntKind.i64 (gt (Sh.int IntKind.i64) q ((0 : Nat) + i.toNat))),
 ((43 : Nat),
 SV.int IntKind.i64
 (IntKind.i64.wrap
 (n +
 (↑(lcp (sfx b (IntKind.i64.wrap (i + n)))
 (sfx b
 (IntKind.i64.wrap
 (gt (Sh.int IntKind.i64) o
 (IntKind.i64.wrap
 (gt (Sh.int IntKind.i64) q ((0 : Nat) + i.toNat) -
 (1 : Int))).toNat +
 n)))) :
 Int)))),
 ((44 : Nat),
 SV.elp (Sh.int IntKind.i64) (11 : Nat)
 ((0 : Nat) + Int.toNat (gt (Sh.int IntKind.i64) q ((0 : Nat) + i.toNat)))
 (0 : Nat)),
 ((45 : Nat),
 SV.int IntKind.i64
 (IntKind.i64.wrap
 (n +
 (↑(lcp (sfx b (IntKind.i64.wrap (i + n)))
 (sfx b
 (IntKind.i64.wrap
 (gt (Sh.int IntKind.i64) o
 (IntKind.i64.wrap
 (gt (Sh.int IntKind.i64) q ((0 : Nat) + i.toNat) -
 (1 : Int))).toNat +
 n)))) :
 Int)))),
 ((46 : Nat),
 SV.int IntKind.i64
 (IntKind.i64.wrap
 (IntKind.i64.wrap
 (n +
 (↑(lcp (sfx b (IntKind.i64.wrap (i + n)))
 (sfx b
 (IntKind.i64.wrap
 (gt (Sh.int IntKind.i64) o
 (IntKind.i64.wrap
 (gt (Sh.int IntKind.i64) q ((0 : Nat) + i.toNat) -
 (1 : Int))).toNat +
 n)))) :
 Int)) -
 (1 : Int)))),
 ((47 : Nat),
 SV.int IntKind.i64
 (max
 (IntKind.i64.wrap
 (IntKind.i64.wrap
 (n +
 (↑(lcp (sfx b (IntKind.i64.wrap (i + n)))
 (sfx b
 (IntKind.i64.wrap
 (gt (Sh.int IntKind.i64) o
 (IntKind.i64.wrap
 (gt (Sh.int IntKind.i64) q ((0 : Nat) + i.toNat) -
 (1 : Int))).toNat +
 n)))) :
 Int)) -
 (1 : Int)))
 (0 : Int))),
 ((48 : Nat), SV.int IntKind.i64 (IntKind.i64.wrap (i + (1 : Int))))],
 blk :=
 [((11 : Nat),
 LB.row (3 : Nat) (Sh.int IntKind.i64)
 (r.set ((0 : Nat) + Int.toNat (gt (Sh.int IntKind.i64) q ((0 : Nat) + i.toNat)))
 (IntKind.i64.wrap
 (n +
 (↑(lcp (sfx b (IntKind.i64.wrap (i + n)))
 (sfx b
 (IntKind.i64.wrap
 (gt (Sh.int IntKind.i64) o
 (IntKind.i64.wrap
 (gt (Sh.int IntKind.i64) q ((0 : Nat) + i.toNat) -
 (1 : Int))).toNat +
 n)))) :
 Int))))),
 ((1061440 : Nat), LB.row (3 : Nat) (Sh.int IntKind.i64) q)] })
 (R (hd Try.f17 (0 : Nat))
 {
 env :=
 [((0 : Nat), SV.sl (Sh.int IntKind.u8) b), ((1 : Nat), SV.sl (Sh.int IntKind.i64) o),
 ((5 : Nat), SV.win true (Sh.int IntKind.i64) (11 : Nat) (0 : Nat) r.length),
 ((6 : Nat), SV.int IntKind.i64 (max (IntKind.i64.wrap (n - (1 : Int))) (0 : Int))),
 ((7 : Nat), SV.int IntKind.i64 i),
 ((8 : Nat), SV.int IntKind.i64 (gt (Sh.int IntKind.i64) q ((0 : Nat) + i.toNat))),
 ((15 : Nat), SV.win true (Sh.int IntKind.i64) (1061440 : Nat) (0 : Nat) q.length),
 ((16 : Nat), SV.int IntKind.i64 (↑q.length : Int)),
 ((17 : Nat), SV.int IntKind.i64 (IntKind.i64.wrap (i + (1 : Int)))),
 ((18 : Nat), SV.bool (decide (i < (↑q.length : Int)))), ((19 : Nat), SV.int IntKind.i64 i),
 ((20 : Nat), SV.elp (Sh.int IntKind.i64) (1061440 : Nat) ((0 : Nat) + i.toNat) (0 : Nat)),
 ((21 : Nat), SV.int IntKind.i64 (gt (Sh.int IntKind.i64) q ((0 : Nat) + i.toNat))),
 ((22 : Nat), SV.int IntKind.i64 (gt (Sh.int IntKind.i64) q ((0 : Nat) + i.toNat))),
 ((23 : Nat), SV.bool (decide ((0 : Int) < gt (Sh.int IntKind.i64) q ((0 : Nat) + i.toNat)))),
 ((45 : Nat), SV.int IntKind.i64 n),
 ((46 : Nat), SV.int IntKind.i64 (IntKind.i64.wrap (n - (1 : Int)))),
 ((47 : Nat), SV.int IntKind.i64 (max (IntKind.i64.wrap (n - (1 : Int))) (0 : Int))),
 ((48 : Nat), SV.int IntKind.i64 (IntKind.i64.wrap (i + (1 : Int))))],
 blk :=
 [((11 : Nat), LB.row (3 : Nat) (Sh.int IntKind.i64) r),
 ((1061440 : Nat), LB.row (3 : Nat) (Sh.int IntKind.i64) q)] }))
 (Q [SV.win true (Sh.int IntKind.i64) (11 : Nat) (0 : Nat) r.length]
 [((11 : Nat), LB.row (3 : Nat) (Sh.int IntKind.i64) r), ((1061440 : Nat), LB.row (3 : Nat) (Sh.int IntKind.i64) q)])) := by kernel_rfl
end Go.Proofs.Ytijeaicbnfiegaa
