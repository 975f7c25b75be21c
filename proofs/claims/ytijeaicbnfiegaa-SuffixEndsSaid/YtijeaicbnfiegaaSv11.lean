/-
  A part of the proof: what a piece of the program gives; conditions: those of each theorem.
-/
import Derived.Test.YtijeaicbnfiegaaSc11
set_option linter.unusedVariables false
namespace Go.Proofs.Ytijeaicbnfiegaa
open Go.Px Go.Ax
set_option maxRecDepth 100000
theorem vc_lon (b o s : List Int) (Q : List SV → List (Nat × LB) → Prop) (R : List Item → PS → Prop) : sy tt G0 C9 Try.f15.ntmps Try.f15.results.toList Q R 1000 [.code (bodyOf Try.f15)] (entry [slB, slI, slB] (b, o, s, ())) =
    (ctClo.pre (b, o, s, ()) ∧
 bc (decide ((↑(cloR b o s).snd : Int) = (0 : Int)))
 (Q
 [SV.agg
 [SV.int IntKind.i64 ((Sh.int IntKind.i64).pair (Sh.int IntKind.i64)).dflt.fst,
 SV.int IntKind.i64 ((Sh.int IntKind.i64).pair (Sh.int IntKind.i64)).dflt.snd]]
 [((3 : Nat), LB.var [SV.sl (Sh.int IntKind.u8) b]), ((4 : Nat), LB.var [SV.sl (Sh.int IntKind.i64) o]),
 ((5 : Nat), LB.var [SV.sl (Sh.int IntKind.u8) s]),
 ((6 : Nat),
 LB.var
 [SV.int IntKind.i64 ((Sh.int IntKind.i64).pair (Sh.int IntKind.i64)).dflt.fst,
 SV.int IntKind.i64 ((Sh.int IntKind.i64).pair (Sh.int IntKind.i64)).dflt.snd]),
 ((8 : Nat), LB.var [SV.int IntKind.i64 (↑(cloR b o s).snd : Int)])])
 (ctFa.pre
 ((0 : Int), (↑(cloR b o s).fst : Int), ((), (b, ()), (o, ()), (s, ()), ((↑(cloR b o s).snd : Int), ()), ()),
 ()) ∧
 ctFb.pre
 (IntKind.i64.wrap ((↑(cloR b o s).fst : Int) + (1 : Int)), (↑o.length : Int),
 ((), (((), (b, ()), (o, ()), (s, ()), ((↑(cloR b o s).snd : Int), ()), ()), ()), ()), ()) ∧
 (0 : Int) ≤
 bsV
 (fun k => cap31 stB (((), (b, ()), (o, ()), (s, ()), ((↑(cloR b o s).snd : Int), ()), ()), ()) (↑k : Int))
 (0 : Int) (↑(cloR b o s).fst : Int) ∧
 bsV (fun k => cap31 stB (((), (b, ()), (o, ()), (s, ()), ((↑(cloR b o s).snd : Int), ()), ()), ()) (↑k : Int))
 (0 : Int) (↑(cloR b o s).fst : Int) ≤
 bsV
 (fun k =>
 !cap33 stB (((), (((), (b, ()), (o, ()), (s, ()), ((↑(cloR b o s).snd : Int), ()), ()), ()), ()), ())
 (↑k : Int))
 (IntKind.i64.wrap ((↑(cloR b o s).fst : Int) + (1 : Int))) (↑o.length : Int) ∧
 bsV
 (fun k =>
 !cap33 stB
 (((), (((), (b, ()), (o, ()), (s, ()), ((↑(cloR b o s).snd : Int), ()), ()), ()), ()), ())
 (↑k : Int))
 (IntKind.i64.wrap ((↑(cloR b o s).fst : Int) + (1 : Int))) (↑o.length : Int) ≤
 (↑o.length : Int) ∧
 ctLeast.pre
 (Px.part o
 (some
 (bsV
 (fun k =>
 cap31 stB (((), (b, ()), (o, ()), (s, ()), ((↑(cloR b o s).snd : Int), ()), ()), ())
 (↑k : Int))
 (0 : Int) (↑(cloR b o s).fst : Int)))
 (some
 (bsV
 (fun k =>
 !cap33 stB
 (((), (((), (b, ()), (o, ()), (s, ()), ((↑(cloR b o s).snd : Int), ()), ()), ()), ()),
 ())
 (↑k : Int))
 (IntKind.i64.wrap ((↑(cloR b o s).fst : Int) + (1 : Int))) (↑o.length : Int))),
 ()) ∧
 Q
 [SV.agg
 [SV.int IntKind.i64
 (minL
 (Px.part o
 (some
 (bsV
 (fun k =>
 cap31 stB (((), (b, ()), (o, ()), (s, ()), ((↑(cloR b o s).snd : Int), ()), ()), ())
 (↑k : Int))
 (0 : Int) (↑(cloR b o s).fst : Int)))
 (some
 (bsV
 (fun k =>
 !cap33 stB
 (((),
 (((), (b, ()), (o, ()), (s, ()), ((↑(cloR b o s).snd : Int), ()), ()), ()),
 ()),
 ())
 (↑k : Int))
 (IntKind.i64.wrap ((↑(cloR b o s).fst : Int) + (1 : Int))) (↑o.length : Int))))
 (gt (Sh.int IntKind.i64)
 (Px.part o
 (some
 (bsV
 (fun k =>
 cap31 stB
 (((), (b, ()), (o, ()), (s, ()), ((↑(cloR b o s).snd : Int), ()), ()), ())
 (↑k : Int))
 (0 : Int) (↑(cloR b o s).fst : Int)))
 (some
 (bsV
 (fun k =>
 !cap33 stB
 (((),
 (((), (b, ()), (o, ()), (s, ()), ((↑(cloR b o s).snd : Int), ()), ()),
 ()),
 ()),
 ())
 (↑k : Int))
 (IntKind.i64.wrap ((↑(cloR b o s).fst : Int) + (1 : Int))) (↑o.length : Int))))
 (0 : Nat))),
 SV.int IntKind.i64 (↑(cloR b o s).snd : Int)]]
 [((3 : Nat), LB.var [SV.sl (Sh.int IntKind.u8) b]),
 ((4 : Nat), LB.var [SV.sl (Sh.int IntKind.i64) o]),
 ((5 : Nat), LB.var [SV.sl (Sh.int IntKind.u8) s]),
 ((6 : Nat),
 LB.var
 [SV.int IntKind.i64
 (minL
 (Px.part o
 (some
 (bsV
 (fun k =>
 cap31 stB
 (((), (b, ()), (o, ()), (s, ()), ((↑(cloR b o s).snd : Int), ()), ()), ())
 (↑k : Int))
 (0 : Int) (↑(cloR b o s).fst : Int)))
 (some
 (bsV
 (fun k =>
 !cap33 stB
 (((),
 (((), (b, ()), (o, ()), (s, ()), ((↑(cloR b o s).snd : Int), ()), ()),
 ()),
 ()),
 ())
 (↑k : Int))
 (IntKind.i64.wrap ((↑(cloR b o s).fst : Int) + (1 : Int))) (↑o.length : Int))))
 (gt (Sh.int IntKind.i64)
 (Px.part o
 (some
 (bsV
 (fun k =>
 cap31 stB
 (((), (b, ()), (o, ()), (s, ()), ((↑(cloR b o s).snd : Int), ()), ()), ())
 (↑k : Int))
 (0 : Int) (↑(cloR b o s).fst : Int)))
 (some
 (bsV
 (fun k =>
 !cap33 stB
 (((),
 (((), (b, ()), (o, ()), (s, ()), ((↑(cloR b o s).snd : Int), ()), ()),
 ()),
 ()),
 ())
 (↑k : Int))
 (IntKind.i64.wrap ((↑(cloR b o s).fst : Int) + (1 : Int))) (↑o.length : Int))))
 (0 : Nat))),
 SV.int IntKind.i64 (↑(cloR b o s).snd : Int)]),
 ((8 : Nat), LB.var [SV.int IntKind.i64 (↑(cloR b o s).snd : Int)]),
 ((9 : Nat),
 LB.var
 [SV.fn (28 : Nat) []
 [SV.ptr (3 : Nat) (0 : Nat), SV.ptr (4 : Nat) (0 : Nat), SV.ptr (5 : Nat) (0 : Nat),
 SV.ptr (8 : Nat) (0 : Nat)]])])) := by kernel_rfl
end Go.Proofs.Ytijeaicbnfiegaa
