/-
  A part of the proof: what a piece of the program gives; conditions: those of each theorem.
-/
import Derived.Test.YtijeaicbnfiegaaSv5
set_option linter.unusedVariables false
namespace Go.Proofs.Ytijeaicbnfiegaa
open Go.Px Go.Ax
set_option maxRecDepth 100000
theorem vc_l7o (x o c : List Int) (i : Int) (Q : List SV → List (Nat × LB) → Prop) (R : List Item → PS → Prop) : sy tt G0 C4 Try.f7.ntmps Try.f7.results.toList Q R 1000 (hd Try.f7 0) ⟨[(3, .bool true), (4, .sl (.int .u8) x), (5, .win true (.int .i64) 1057344 0 o.length), (6, .win true (.int .i64) 1069632 0 c.length), (7, .int .i64 i)], [(1057344, .row 3 (.int .i64) o), (1069632, .row 3 (.int .i64) c)]⟩ =
    (bc (decide (i < (↑o.length : Int)))
       (R (hd Try.f7 (1 : Nat))
         {
           env :=
             [((3 : Nat), SV.bool true), ((4 : Nat), SV.sl (Sh.int IntKind.u8) x),
               ((5 : Nat), SV.win true (Sh.int IntKind.i64) (1057344 : Nat) (0 : Nat) o.length),
               ((6 : Nat), SV.win true (Sh.int IntKind.i64) (1069632 : Nat) (0 : Nat) c.length),
               ((7 : Nat), SV.int IntKind.i64 i), ((8 : Nat), SV.int IntKind.i64 (↑x.length : Int)),
               ((9 : Nat), SV.int IntKind.i64 (IntKind.i64.wrap (i + (1 : Int)))), ((34 : Nat), SV.int IntKind.i64 i),
               ((35 : Nat), SV.win true (Sh.int IntKind.i64) (1057344 : Nat) (0 : Nat) o.length),
               ((36 : Nat), SV.int IntKind.i64 (↑o.length : Int)), ((37 : Nat), SV.bool (decide (i < (↑o.length : Int)))),
               ((40 : Nat), SV.sl (Sh.int IntKind.u8) x), ((41 : Nat), SV.int IntKind.i64 (↑x.length : Int)),
               ((42 : Nat), SV.int IntKind.i64 i), ((43 : Nat), SV.int IntKind.i64 (IntKind.i64.wrap (i + (1 : Int))))],
           blk :=
             [((1057344 : Nat), LB.row (3 : Nat) (Sh.int IntKind.i64) o),
               ((1069632 : Nat), LB.row (3 : Nat) (Sh.int IntKind.i64) c)] })
       (Q [SV.bool true]
         [((1057344 : Nat), LB.row (3 : Nat) (Sh.int IntKind.i64) o),
           ((1069632 : Nat), LB.row (3 : Nat) (Sh.int IntKind.i64) c)])) := by kernel_rfl
theorem vc_l7i (x o c : List Int) (i m k : Int) (Q : List SV → List (Nat × LB) → Prop) (R : List Item → PS → Prop) : sy tt G0 C4 Try.f7.ntmps Try.f7.results.toList Q R 1000 (hd Try.f7 1) ⟨[(3, .bool true), (4, .sl (.int .u8) x), (5, .win true (.int .i64) 1057344 0 o.length), (6, .win true (.int .i64) 1069632 0 c.length), (7, .int .i64 i), (8, .int .i64 m), (9, .int .i64 k)], [(1057344, .row 3 (.int .i64) o), (1069632, .row 3 (.int .i64) c)]⟩ =
    (bc (decide (k < (↑o.length : Int)))
       ((0 : Int) ≤ k ∧
         k < (↑c.length : Int) ∧
           (0 : Nat) + k.toNat < c.length ∧
             (0 : Int) ≤ i ∧
               i < (↑o.length : Int) ∧
                 (0 : Nat) + i.toNat < o.length ∧
                   (0 : Int) ≤ gt (Sh.int IntKind.i64) o ((0 : Nat) + i.toNat) ∧
                     gt (Sh.int IntKind.i64) o ((0 : Nat) + i.toNat) ≤ (↑x.length : Int) ∧
                       (0 : Int) ≤ k ∧
                         k < (↑o.length : Int) ∧
                           (0 : Nat) + k.toNat < o.length ∧
                             (0 : Int) ≤ gt (Sh.int IntKind.i64) o ((0 : Nat) + k.toNat) ∧
                               gt (Sh.int IntKind.i64) o ((0 : Nat) + k.toNat) ≤ (↑x.length : Int) ∧
                                 ctLcp.pre
                                     (List.drop (Int.toNat (gt (Sh.int IntKind.i64) o ((0 : Nat) + i.toNat))) x,
                                       List.drop (Int.toNat (gt (Sh.int IntKind.i64) o ((0 : Nat) + k.toNat))) x, ()) ∧
                                   bc
                                     (decide
                                       ((↑(lcp (List.drop (Int.toNat (gt (Sh.int IntKind.i64) o ((0 : Nat) + i.toNat))) x)
                                               (List.drop (Int.toNat (gt (Sh.int IntKind.i64) o ((0 : Nat) + k.toNat))) x)) :
                                           Int) ≠
                                         min m (gt (Sh.int IntKind.i64) c ((0 : Nat) + k.toNat))))
                                     (Q [SV.bool false]
                                       [((1057344 : Nat), LB.row (3 : Nat) (Sh.int IntKind.i64) o),
                                         ((1069632 : Nat), LB.row (3 : Nat) (Sh.int IntKind.i64) c)])
                                     (R (hd Try.f7 (1 : Nat))
                                       {
                                         env :=
                                           [((3 : Nat), SV.bool true), ((4 : Nat), SV.sl (Sh.int IntKind.u8) x),
                                             ((5 : Nat),
                                               SV.win true (Sh.int IntKind.i64) (1057344 : Nat) (0 : Nat) o.length),
                                             ((6 : Nat),
                                               SV.win true (Sh.int IntKind.i64) (1069632 : Nat) (0 : Nat) c.length),
                                             ((7 : Nat), SV.int IntKind.i64 i),
                                             ((8 : Nat),
                                               SV.int IntKind.i64 (min m (gt (Sh.int IntKind.i64) c ((0 : Nat) + k.toNat)))),
                                             ((9 : Nat), SV.int IntKind.i64 (IntKind.i64.wrap (k + (1 : Int)))),
                                             ((44 : Nat), SV.int IntKind.i64 k),
                                             ((45 : Nat),
                                               SV.win true (Sh.int IntKind.i64) (1057344 : Nat) (0 : Nat) o.length),
                                             ((46 : Nat), SV.int IntKind.i64 (↑o.length : Int)),
                                             ((47 : Nat), SV.bool (decide (k < (↑o.length : Int)))),
                                             ((48 : Nat), SV.int IntKind.i64 k),
                                             ((49 : Nat), SV.int IntKind.i64 (IntKind.i64.wrap (k + (1 : Int)))),
                                             ((50 : Nat), SV.int IntKind.i64 m),
                                             ((51 : Nat),
                                               SV.win true (Sh.int IntKind.i64) (1069632 : Nat) (0 : Nat) c.length),
                                             ((52 : Nat), SV.int IntKind.i64 k),
                                             ((53 : Nat),
                                               SV.elp (Sh.int IntKind.i64) (1069632 : Nat) ((0 : Nat) + k.toNat) (0 : Nat)),
                                             ((54 : Nat),
                                               SV.int IntKind.i64 (gt (Sh.int IntKind.i64) c ((0 : Nat) + k.toNat))),
                                             ((55 : Nat),
                                               SV.int IntKind.i64 (min m (gt (Sh.int IntKind.i64) c ((0 : Nat) + k.toNat)))),
                                             ((56 : Nat), SV.sl (Sh.int IntKind.u8) x),
                                             ((57 : Nat),
                                               SV.win true (Sh.int IntKind.i64) (1057344 : Nat) (0 : Nat) o.length),
                                             ((58 : Nat), SV.int IntKind.i64 i),
                                             ((59 : Nat),
                                               SV.elp (Sh.int IntKind.i64) (1057344 : Nat) ((0 : Nat) + i.toNat) (0 : Nat)),
                                             ((60 : Nat),
                                               SV.int IntKind.i64 (gt (Sh.int IntKind.i64) o ((0 : Nat) + i.toNat))),
                                             ((61 : Nat),
                                               SV.sl (Sh.int IntKind.u8)
                                                 (List.drop (Int.toNat (gt (Sh.int IntKind.i64) o ((0 : Nat) + i.toNat)))
                                                   x)),
                                             ((62 : Nat), SV.sl (Sh.int IntKind.u8) x),
                                             ((63 : Nat),
                                               SV.win true (Sh.int IntKind.i64) (1057344 : Nat) (0 : Nat) o.length),
                                             ((64 : Nat), SV.int IntKind.i64 k),
                                             ((65 : Nat),
                                               SV.elp (Sh.int IntKind.i64) (1057344 : Nat) ((0 : Nat) + k.toNat) (0 : Nat)),
                                             ((66 : Nat),
                                               SV.int IntKind.i64 (gt (Sh.int IntKind.i64) o ((0 : Nat) + k.toNat))),
                                             ((67 : Nat),
                                               SV.sl (Sh.int IntKind.u8)
                                                 (List.drop (Int.toNat (gt (Sh.int IntKind.i64) o ((0 : Nat) + k.toNat)))
                                                   x)),
                                             ((68 : Nat),
                                               SV.int IntKind.i64
                                                 (↑(lcp
                                                       (List.drop
                                                         (Int.toNat (gt (Sh.int IntKind.i64) o ((0 : Nat) + i.toNat))) x)
                                                       (List.drop
                                                         (Int.toNat (gt (Sh.int IntKind.i64) o ((0 : Nat) + k.toNat))) x)) :
                                                   Int)),
                                             ((69 : Nat),
                                               SV.int IntKind.i64 (min m (gt (Sh.int IntKind.i64) c ((0 : Nat) + k.toNat)))),
                                             ((70 : Nat),
                                               SV.bool
                                                 (decide
                                                   ((↑(lcp
                                                           (List.drop
                                                             (Int.toNat (gt (Sh.int IntKind.i64) o ((0 : Nat) + i.toNat))) x)
                                                           (List.drop
                                                             (Int.toNat (gt (Sh.int IntKind.i64) o ((0 : Nat) + k.toNat)))
                                                             x)) :
                                                       Int) ≠
                                                     min m (gt (Sh.int IntKind.i64) c ((0 : Nat) + k.toNat)))))],
                                         blk :=
                                           [((1057344 : Nat), LB.row (3 : Nat) (Sh.int IntKind.i64) o),
                                             ((1069632 : Nat), LB.row (3 : Nat) (Sh.int IntKind.i64) c)] }))
       (R (hd Try.f7 (0 : Nat))
         {
           env :=
             [((3 : Nat), SV.bool true), ((4 : Nat), SV.sl (Sh.int IntKind.u8) x),
               ((5 : Nat), SV.win true (Sh.int IntKind.i64) (1057344 : Nat) (0 : Nat) o.length),
               ((6 : Nat), SV.win true (Sh.int IntKind.i64) (1069632 : Nat) (0 : Nat) c.length),
               ((7 : Nat), SV.int IntKind.i64 (IntKind.i64.wrap (i + (1 : Int)))), ((8 : Nat), SV.int IntKind.i64 m),
               ((9 : Nat), SV.int IntKind.i64 k), ((38 : Nat), SV.int IntKind.i64 i),
               ((39 : Nat), SV.int IntKind.i64 (IntKind.i64.wrap (i + (1 : Int)))), ((44 : Nat), SV.int IntKind.i64 k),
               ((45 : Nat), SV.win true (Sh.int IntKind.i64) (1057344 : Nat) (0 : Nat) o.length),
               ((46 : Nat), SV.int IntKind.i64 (↑o.length : Int)), ((47 : Nat), SV.bool (decide (k < (↑o.length : Int))))],
           blk :=
             [((1057344 : Nat), LB.row (3 : Nat) (Sh.int IntKind.i64) o),
               ((1069632 : Nat), LB.row (3 : Nat) (Sh.int IntKind.i64) c)] })) := by kernel_rfl
end Go.Proofs.Ytijeaicbnfiegaa
