/-
  A part of the proof: what a piece of the program gives; conditions: those of each theorem.
-/
import Derived.Test.YtfkbegcinagkmaaDoorC3
set_option linter.unusedVariables false
namespace Go.Proofs.YtfkbegcinagkmaaDoor
open Go.Px Go.Ax
set_option maxRecDepth 100000
theorem vc_dec (w a : Int) (Q : List SV → List (Nat × LB) → Prop) (R : List Item → PS → Prop) : sy tt G0 C3 Tryd.f13.ntmps Tryd.f13.results.toList Q R 1000 [.code (bodyOf Tryd.f13)] (entry [.int .u32, .int .i64] (w, a, ())) =
    (ctOp.pre (w, ()) ∧
       (0 : Int) ≤ opV w ∧
         opV w < ↑(9 : Nat) ∧
           R (hd Tryd.f13 (0 : Nat))
             {
               env :=
                 [((0 : Nat), SV.int IntKind.u32 w), ((1 : Nat), SV.int IntKind.i64 a),
                   ((4 : Nat), SV.ptr (4 : Nat) (0 : Nat)), ((5 : Nat), SV.int IntKind.u32 w),
                   ((6 : Nat), SV.int IntKind.i64 (opV w)), ((7 : Nat), SV.ptr (7 : Nat) (0 : Nat)),
                   ((8 : Nat), SV.ptr (8 : Nat) (0 : Nat)), ((11 : Nat), SV.int IntKind.u32 w),
                   ((12 : Nat), SV.int IntKind.u32 w), ((13 : Nat), SV.int IntKind.i64 (opV w)),
                   ((14 : Nat), SV.int IntKind.i64 (opV w)),
                   ((15 : Nat),
                     SV.elv (Sh.str.pair ((Sh.int IntKind.i64).pair ((Sh.int IntKind.i64).pair (Sh.bool.pair Sh.bool))))
                       (gt (Sh.str.pair ((Sh.int IntKind.i64).pair ((Sh.int IntKind.i64).pair (Sh.bool.pair Sh.bool))))
                         kindsL (opV w).toNat)),
                   ((16 : Nat),
                     SV.agg
                       [SV.str
                           (gt (Sh.str.pair ((Sh.int IntKind.i64).pair ((Sh.int IntKind.i64).pair (Sh.bool.pair Sh.bool))))
                               kindsL (opV w).toNat).fst,
                         SV.int IntKind.i64
                           (gt (Sh.str.pair ((Sh.int IntKind.i64).pair ((Sh.int IntKind.i64).pair (Sh.bool.pair Sh.bool))))
                                 kindsL (opV w).toNat).snd.fst,
                         SV.int IntKind.i64
                           (gt (Sh.str.pair ((Sh.int IntKind.i64).pair ((Sh.int IntKind.i64).pair (Sh.bool.pair Sh.bool))))
                                   kindsL (opV w).toNat).snd.snd.fst,
                         SV.bool
                           (gt (Sh.str.pair ((Sh.int IntKind.i64).pair ((Sh.int IntKind.i64).pair (Sh.bool.pair Sh.bool))))
                                     kindsL (opV w).toNat).snd.snd.snd.fst,
                         SV.bool
                           (gt (Sh.str.pair ((Sh.int IntKind.i64).pair ((Sh.int IntKind.i64).pair (Sh.bool.pair Sh.bool))))
                                     kindsL (opV w).toNat).snd.snd.snd.snd]),
                   ((17 : Nat), SV.ptr (7 : Nat) (1 : Nat)),
                   ((18 : Nat),
                     SV.int IntKind.i64
                       (gt (Sh.str.pair ((Sh.int IntKind.i64).pair ((Sh.int IntKind.i64).pair (Sh.bool.pair Sh.bool))))
                             kindsL (opV w).toNat).snd.fst),
                   ((19 : Nat), SV.int IntKind.i64 (0 : Int))],
               blk :=
                 [((4 : Nat),
                     LB.var
                       [SV.int IntKind.i64
                           ((Sh.int IntKind.i64).pair
                                 ((Sh.int IntKind.i64).pair
                                   ((Sh.int IntKind.i64).pair ((Sh.int IntKind.i64).pair (Sh.int IntKind.i64))))).dflt.fst,
                         SV.int IntKind.i64
                           ((Sh.int IntKind.i64).pair
                                   ((Sh.int IntKind.i64).pair
                                     ((Sh.int IntKind.i64).pair
                                       ((Sh.int IntKind.i64).pair (Sh.int IntKind.i64))))).dflt.snd.fst,
                         SV.int IntKind.i64
                           ((Sh.int IntKind.i64).pair
                                     ((Sh.int IntKind.i64).pair
                                       ((Sh.int IntKind.i64).pair
                                         ((Sh.int IntKind.i64).pair (Sh.int IntKind.i64))))).dflt.snd.snd.fst,
                         SV.int IntKind.i64
                           ((Sh.int IntKind.i64).pair
                                       ((Sh.int IntKind.i64).pair
                                         ((Sh.int IntKind.i64).pair
                                           ((Sh.int IntKind.i64).pair (Sh.int IntKind.i64))))).dflt.snd.snd.snd.fst,
                         SV.int IntKind.i64
                           ((Sh.int IntKind.i64).pair
                                       ((Sh.int IntKind.i64).pair
                                         ((Sh.int IntKind.i64).pair
                                           ((Sh.int IntKind.i64).pair (Sh.int IntKind.i64))))).dflt.snd.snd.snd.snd]),
                   ((7 : Nat),
                     LB.var
                       [SV.str
                           (gt (Sh.str.pair ((Sh.int IntKind.i64).pair ((Sh.int IntKind.i64).pair (Sh.bool.pair Sh.bool))))
                               kindsL (opV w).toNat).fst,
                         SV.int IntKind.i64
                           (gt (Sh.str.pair ((Sh.int IntKind.i64).pair ((Sh.int IntKind.i64).pair (Sh.bool.pair Sh.bool))))
                                 kindsL (opV w).toNat).snd.fst,
                         SV.int IntKind.i64
                           (gt (Sh.str.pair ((Sh.int IntKind.i64).pair ((Sh.int IntKind.i64).pair (Sh.bool.pair Sh.bool))))
                                   kindsL (opV w).toNat).snd.snd.fst,
                         SV.bool
                           (gt (Sh.str.pair ((Sh.int IntKind.i64).pair ((Sh.int IntKind.i64).pair (Sh.bool.pair Sh.bool))))
                                     kindsL (opV w).toNat).snd.snd.snd.fst,
                         SV.bool
                           (gt (Sh.str.pair ((Sh.int IntKind.i64).pair ((Sh.int IntKind.i64).pair (Sh.bool.pair Sh.bool))))
                                     kindsL (opV w).toNat).snd.snd.snd.snd]),
                   ((8 : Nat),
                     LB.var [SV.arr (3 : Nat) (Sh.int IntKind.i64) (Sh.arr (3 : Nat) (Sh.int IntKind.i64)).dflt])] }) := by kernel_rfl
theorem vc_decL (w a o n i kr kb : Int) (ks : List UInt8) (kg kt : Bool) (r : List Int) (Q : List SV → List (Nat × LB) → Prop) (R : List Item → PS → Prop) : sy tt G0 C3 Tryd.f13.ntmps Tryd.f13.results.toList Q R 1000 (hd Tryd.f13 0) ⟨[(0, .int .u32 w), (1, .int .i64 a), (4, .ptr 4 0), (5, .int .u32 w), (6, .int .i64 o), (7, .ptr 7 0), (8, .ptr 8 0), (18, .int .i64 n), (19, .int .i64 i)], [(4, .var [.int .i64 0, .int .i64 0, .int .i64 0, .int .i64 0, .int .i64 0]), (7, .var [.str ks, .int .i64 kr, .int .i64 kb, .bool kg, .bool kt]), (8, .var [.arr 3 (.int .i64) r])]⟩ =
    (bc (decide (i < n))
       (ctOctet.pre (w, IntKind.i64.wrap ((1 : Int) + i), ()) ∧
         (0 : Int) ≤ i ∧
           i < ↑(3 : Nat) ∧
             i.toNat < (3 : Nat) ∧
               R (hd Tryd.f13 (0 : Nat))
                 {
                   env :=
                     [((0 : Nat), SV.int IntKind.u32 w), ((1 : Nat), SV.int IntKind.i64 a),
                       ((4 : Nat), SV.ptr (4 : Nat) (0 : Nat)), ((5 : Nat), SV.int IntKind.u32 w),
                       ((6 : Nat), SV.int IntKind.i64 o), ((7 : Nat), SV.ptr (7 : Nat) (0 : Nat)),
                       ((8 : Nat), SV.ptr (8 : Nat) (0 : Nat)), ((9 : Nat), SV.int IntKind.i64 i),
                       ((18 : Nat), SV.int IntKind.i64 n),
                       ((19 : Nat), SV.int IntKind.i64 (IntKind.i64.wrap (i + (1 : Int)))),
                       ((20 : Nat), SV.bool (decide (i < n))), ((21 : Nat), SV.int IntKind.i64 i),
                       ((22 : Nat), SV.int IntKind.i64 i), ((23 : Nat), SV.int IntKind.u32 w),
                       ((24 : Nat), SV.int IntKind.i64 i),
                       ((25 : Nat), SV.int IntKind.i64 (IntKind.i64.wrap ((1 : Int) + i))),
                       ((26 : Nat), SV.int IntKind.i64 (octV w (IntKind.i64.wrap ((1 : Int) + i)))),
                       ((27 : Nat), SV.aep (Sh.int IntKind.i64) (8 : Nat) (0 : Nat) i.toNat (0 : Nat)),
                       ((28 : Nat), SV.int IntKind.i64 (IntKind.i64.wrap (i + (1 : Int))))],
                   blk :=
                     [((4 : Nat),
                         LB.var
                           [SV.int IntKind.i64 (0 : Int), SV.int IntKind.i64 (0 : Int), SV.int IntKind.i64 (0 : Int),
                             SV.int IntKind.i64 (0 : Int), SV.int IntKind.i64 (0 : Int)]),
                       ((7 : Nat), LB.var [SV.str ks, SV.int IntKind.i64 kr, SV.int IntKind.i64 kb, SV.bool kg, SV.bool kt]),
                       ((8 : Nat),
                         LB.var
                           [SV.arr (3 : Nat) (Sh.int IntKind.i64)
                               (r.set i.toNat (octV w (IntKind.i64.wrap ((1 : Int) + i))))])] })
       (ctNum.pre ((ks, kr, kb, kg, kt), w, ()) ∧
         bc kt
           ((0 : Int) ≤ (0 : Int) ∧
             (0 : Int) < ↑(3 : Nat) ∧
               Int.toNat (0 : Int) < (3 : Nat) ∧
                 (0 : Int) ≤ (1 : Int) ∧
                   (1 : Int) < ↑(3 : Nat) ∧
                     Int.toNat (1 : Int) < (3 : Nat) ∧
                       (0 : Int) ≤ (2 : Int) ∧
                         (2 : Int) < ↑(3 : Nat) ∧
                           Int.toNat (2 : Int) < (3 : Nat) ∧
                             Q
                               [SV.agg
                                   [SV.int IntKind.i64 o,
                                     SV.int IntKind.i64 (gt (Sh.int IntKind.i64) r (Int.toNat (0 : Int))),
                                     SV.int IntKind.i64 (gt (Sh.int IntKind.i64) r (Int.toNat (1 : Int))),
                                     SV.int IntKind.i64 (gt (Sh.int IntKind.i64) r (Int.toNat (2 : Int))),
                                     SV.int IntKind.i64
                                       (IntKind.i64.wrap (a + IntKind.i64.wrap ((4 : Int) * numV kg w kb)))]]
                               [((4 : Nat),
                                   LB.var
                                     [SV.int IntKind.i64 o,
                                       SV.int IntKind.i64 (gt (Sh.int IntKind.i64) r (Int.toNat (0 : Int))),
                                       SV.int IntKind.i64 (gt (Sh.int IntKind.i64) r (Int.toNat (1 : Int))),
                                       SV.int IntKind.i64 (gt (Sh.int IntKind.i64) r (Int.toNat (2 : Int))),
                                       SV.int IntKind.i64
                                         (IntKind.i64.wrap (a + IntKind.i64.wrap ((4 : Int) * numV kg w kb)))]),
                                 ((7 : Nat),
                                   LB.var [SV.str ks, SV.int IntKind.i64 kr, SV.int IntKind.i64 kb, SV.bool kg, SV.bool kt]),
                                 ((8 : Nat), LB.var [SV.arr (3 : Nat) (Sh.int IntKind.i64) r])])
           ((0 : Int) ≤ (0 : Int) ∧
             (0 : Int) < ↑(3 : Nat) ∧
               Int.toNat (0 : Int) < (3 : Nat) ∧
                 (0 : Int) ≤ (1 : Int) ∧
                   (1 : Int) < ↑(3 : Nat) ∧
                     Int.toNat (1 : Int) < (3 : Nat) ∧
                       (0 : Int) ≤ (2 : Int) ∧
                         (2 : Int) < ↑(3 : Nat) ∧
                           Int.toNat (2 : Int) < (3 : Nat) ∧
                             Q
                               [SV.agg
                                   [SV.int IntKind.i64 o,
                                     SV.int IntKind.i64 (gt (Sh.int IntKind.i64) r (Int.toNat (0 : Int))),
                                     SV.int IntKind.i64 (gt (Sh.int IntKind.i64) r (Int.toNat (1 : Int))),
                                     SV.int IntKind.i64 (gt (Sh.int IntKind.i64) r (Int.toNat (2 : Int))),
                                     SV.int IntKind.i64 (numV kg w kb)]]
                               [((4 : Nat),
                                   LB.var
                                     [SV.int IntKind.i64 o,
                                       SV.int IntKind.i64 (gt (Sh.int IntKind.i64) r (Int.toNat (0 : Int))),
                                       SV.int IntKind.i64 (gt (Sh.int IntKind.i64) r (Int.toNat (1 : Int))),
                                       SV.int IntKind.i64 (gt (Sh.int IntKind.i64) r (Int.toNat (2 : Int))),
                                       SV.int IntKind.i64 (numV kg w kb)]),
                                 ((7 : Nat),
                                   LB.var [SV.str ks, SV.int IntKind.i64 kr, SV.int IntKind.i64 kb, SV.bool kg, SV.bool kt]),
                                 ((8 : Nat), LB.var [SV.arr (3 : Nat) (Sh.int IntKind.i64) r])]))) := by kernel_rfl
end Go.Proofs.YtfkbegcinagkmaaDoor
