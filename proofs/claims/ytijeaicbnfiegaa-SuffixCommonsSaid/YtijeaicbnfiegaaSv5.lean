/-
  A part of the proof: what a piece of the program gives; conditions: those of each theorem.
-/
import Derived.Test.YtijeaicbnfiegaaSc5
set_option linter.unusedVariables false
namespace Go.Proofs.Ytijeaicbnfiegaa
open Go.Px Go.Ax
set_option maxRecDepth 100000
theorem vc_law7 (b : List Int) (Q : List SV → List (Nat × LB) → Prop) (R : List Item → PS → Prop) : sy tt G0 C4 Try.f7.ntmps Try.f7.results.toList Q R 1000 [.code (bodyOf Try.f7)] (entry [.sl (.int .u8)] (b, ())) =
    (ctSan.pre () ∧
       ctLimited.pre (b, (60 : Int), ()) ∧
         ctOrd.pre (List.take (Int.toNat (60 : Int)) b, ()) ∧
           (0 : Nat) + (mapI (ordB (List.take (Int.toNat (60 : Int)) b))).length ≤
               (mapI (ordB (List.take (Int.toNat (60 : Int)) b))).length ∧
             ctCom.pre
                 (List.take (Int.toNat (60 : Int)) b,
                   winL (Sh.int IntKind.i64) (0 : Nat) (mapI (ordB (List.take (Int.toNat (60 : Int)) b))).length
                     (mapI (ordB (List.take (Int.toNat (60 : Int)) b))),
                   ()) ∧
               bc
                 (decide
                   ((↑(comV (List.take (Int.toNat (60 : Int)) b)
                             (natsOf
                               (winL (Sh.int IntKind.i64) (0 : Nat) (mapI (ordB (List.take (Int.toNat (60 : Int)) b))).length
                                 (mapI (ordB (List.take (Int.toNat (60 : Int)) b)))))).length :
                       Int) ≠
                     (↑(List.take (Int.toNat (60 : Int)) b).length : Int)))
                 False
                 (bc
                   (decide
                     ((0 : Int) <
                       (↑(comV (List.take (Int.toNat (60 : Int)) b)
                               (natsOf
                                 (winL (Sh.int IntKind.i64) (0 : Nat)
                                   (mapI (ordB (List.take (Int.toNat (60 : Int)) b))).length
                                   (mapI (ordB (List.take (Int.toNat (60 : Int)) b)))))).length :
                         Int)))
                   ((0 : Int) ≤ (0 : Int) ∧
                     (0 : Int) <
                         (↑(comV (List.take (Int.toNat (60 : Int)) b)
                                 (natsOf
                                   (winL (Sh.int IntKind.i64) (0 : Nat)
                                     (mapI (ordB (List.take (Int.toNat (60 : Int)) b))).length
                                     (mapI (ordB (List.take (Int.toNat (60 : Int)) b)))))).length :
                           Int) ∧
                       (0 : Nat) + Int.toNat (0 : Int) <
                           (comV (List.take (Int.toNat (60 : Int)) b)
                               (natsOf
                                 (winL (Sh.int IntKind.i64) (0 : Nat)
                                   (mapI (ordB (List.take (Int.toNat (60 : Int)) b))).length
                                   (mapI (ordB (List.take (Int.toNat (60 : Int)) b)))))).length ∧
                         bc
                           (bif false then true
                           else
                             bif true then
                               decide
                                 (gt (Sh.int IntKind.i64)
                                     (comV (List.take (Int.toNat (60 : Int)) b)
                                       (natsOf
                                         (winL (Sh.int IntKind.i64) (0 : Nat)
                                           (mapI (ordB (List.take (Int.toNat (60 : Int)) b))).length
                                           (mapI (ordB (List.take (Int.toNat (60 : Int)) b))))))
                                     ((0 : Nat) + Int.toNat (0 : Int)) ≠
                                   (0 : Int))
                             else false)
                           (Q [SV.bool false]
                             [((1057344 : Nat),
                                 LB.row (3 : Nat) (Sh.int IntKind.i64) (mapI (ordB (List.take (Int.toNat (60 : Int)) b)))),
                               ((1069632 : Nat),
                                 LB.row (3 : Nat) (Sh.int IntKind.i64)
                                   (comV (List.take (Int.toNat (60 : Int)) b)
                                     (natsOf
                                       (winL (Sh.int IntKind.i64) (0 : Nat)
                                         (mapI (ordB (List.take (Int.toNat (60 : Int)) b))).length
                                         (mapI (ordB (List.take (Int.toNat (60 : Int)) b)))))))])
                           (R (hd Try.f7 (0 : Nat))
                             {
                               env :=
                                 [((0 : Nat), SV.sl (Sh.int IntKind.u8) b), ((2 : Nat), SV.bool false),
                                   ((3 : Nat), SV.bool true),
                                   ((4 : Nat), SV.sl (Sh.int IntKind.u8) (List.take (Int.toNat (60 : Int)) b)),
                                   ((5 : Nat),
                                     SV.win true (Sh.int IntKind.i64) (1057344 : Nat) (0 : Nat)
                                       (mapI (ordB (List.take (Int.toNat (60 : Int)) b))).length),
                                   ((6 : Nat),
                                     SV.win true (Sh.int IntKind.i64) (1069632 : Nat) (0 : Nat)
                                       (comV (List.take (Int.toNat (60 : Int)) b)
                                           (natsOf
                                             (winL (Sh.int IntKind.i64) (0 : Nat)
                                               (mapI (ordB (List.take (Int.toNat (60 : Int)) b))).length
                                               (mapI (ordB (List.take (Int.toNat (60 : Int)) b)))))).length),
                                   ((7 : Nat), SV.int IntKind.i64 (0 : Int)), ((10 : Nat), SV.bool true),
                                   ((11 : Nat), SV.sl (Sh.int IntKind.u8) b),
                                   ((12 : Nat), SV.sl (Sh.int IntKind.u8) (List.take (Int.toNat (60 : Int)) b)),
                                   ((13 : Nat), SV.sl (Sh.int IntKind.u8) (List.take (Int.toNat (60 : Int)) b)),
                                   ((14 : Nat),
                                     SV.win true (Sh.int IntKind.i64) (1057344 : Nat) (0 : Nat)
                                       (mapI (ordB (List.take (Int.toNat (60 : Int)) b))).length),
                                   ((15 : Nat), SV.sl (Sh.int IntKind.u8) (List.take (Int.toNat (60 : Int)) b)),
                                   ((16 : Nat),
                                     SV.win true (Sh.int IntKind.i64) (1057344 : Nat) (0 : Nat)
                                       (mapI (ordB (List.take (Int.toNat (60 : Int)) b))).length),
                                   ((17 : Nat),
                                     SV.win true (Sh.int IntKind.i64) (1069632 : Nat) (0 : Nat)
                                       (comV (List.take (Int.toNat (60 : Int)) b)
                                           (natsOf
                                             (winL (Sh.int IntKind.i64) (0 : Nat)
                                               (mapI (ordB (List.take (Int.toNat (60 : Int)) b))).length
                                               (mapI (ordB (List.take (Int.toNat (60 : Int)) b)))))).length),
                                   ((18 : Nat),
                                     SV.win true (Sh.int IntKind.i64) (1069632 : Nat) (0 : Nat)
                                       (comV (List.take (Int.toNat (60 : Int)) b)
                                           (natsOf
                                             (winL (Sh.int IntKind.i64) (0 : Nat)
                                               (mapI (ordB (List.take (Int.toNat (60 : Int)) b))).length
                                               (mapI (ordB (List.take (Int.toNat (60 : Int)) b)))))).length),
                                   ((19 : Nat),
                                     SV.int IntKind.i64
                                       (↑(comV (List.take (Int.toNat (60 : Int)) b)
                                               (natsOf
                                                 (winL (Sh.int IntKind.i64) (0 : Nat)
                                                   (mapI (ordB (List.take (Int.toNat (60 : Int)) b))).length
                                                   (mapI (ordB (List.take (Int.toNat (60 : Int)) b)))))).length :
                                         Int)),
                                   ((20 : Nat), SV.sl (Sh.int IntKind.u8) (List.take (Int.toNat (60 : Int)) b)),
                                   ((21 : Nat), SV.int IntKind.i64 (↑(List.take (Int.toNat (60 : Int)) b).length : Int)),
                                   ((22 : Nat),
                                     SV.bool
                                       (decide
                                         ((↑(comV (List.take (Int.toNat (60 : Int)) b)
                                                   (natsOf
                                                     (winL (Sh.int IntKind.i64) (0 : Nat)
                                                       (mapI (ordB (List.take (Int.toNat (60 : Int)) b))).length
                                                       (mapI (ordB (List.take (Int.toNat (60 : Int)) b)))))).length :
                                             Int) ≠
                                           (↑(List.take (Int.toNat (60 : Int)) b).length : Int)))),
                                   ((23 : Nat), SV.bool false),
                                   ((24 : Nat),
                                     SV.win true (Sh.int IntKind.i64) (1069632 : Nat) (0 : Nat)
                                       (comV (List.take (Int.toNat (60 : Int)) b)
                                           (natsOf
                                             (winL (Sh.int IntKind.i64) (0 : Nat)
                                               (mapI (ordB (List.take (Int.toNat (60 : Int)) b))).length
                                               (mapI (ordB (List.take (Int.toNat (60 : Int)) b)))))).length),
                                   ((25 : Nat),
                                     SV.int IntKind.i64
                                       (↑(comV (List.take (Int.toNat (60 : Int)) b)
                                               (natsOf
                                                 (winL (Sh.int IntKind.i64) (0 : Nat)
                                                   (mapI (ordB (List.take (Int.toNat (60 : Int)) b))).length
                                                   (mapI (ordB (List.take (Int.toNat (60 : Int)) b)))))).length :
                                         Int)),
                                   ((26 : Nat),
                                     SV.bool
                                       (decide
                                         ((0 : Int) <
                                           (↑(comV (List.take (Int.toNat (60 : Int)) b)
                                                   (natsOf
                                                     (winL (Sh.int IntKind.i64) (0 : Nat)
                                                       (mapI (ordB (List.take (Int.toNat (60 : Int)) b))).length
                                                       (mapI (ordB (List.take (Int.toNat (60 : Int)) b)))))).length :
                                             Int)))),
                                   ((27 : Nat), SV.bool true),
                                   ((28 : Nat),
                                     SV.win true (Sh.int IntKind.i64) (1069632 : Nat) (0 : Nat)
                                       (comV (List.take (Int.toNat (60 : Int)) b)
                                           (natsOf
                                             (winL (Sh.int IntKind.i64) (0 : Nat)
                                               (mapI (ordB (List.take (Int.toNat (60 : Int)) b))).length
                                               (mapI (ordB (List.take (Int.toNat (60 : Int)) b)))))).length),
                                   ((29 : Nat), SV.elp (Sh.int IntKind.i64) (1069632 : Nat) (0 : Nat) (0 : Nat)),
                                   ((30 : Nat),
                                     SV.int IntKind.i64
                                       (gt (Sh.int IntKind.i64)
                                         (comV (List.take (Int.toNat (60 : Int)) b)
                                           (natsOf
                                             (winL (Sh.int IntKind.i64) (0 : Nat)
                                               (mapI (ordB (List.take (Int.toNat (60 : Int)) b))).length
                                               (mapI (ordB (List.take (Int.toNat (60 : Int)) b))))))
                                         ((0 : Nat) + Int.toNat (0 : Int)))),
                                   ((31 : Nat),
                                     SV.bool
                                       (decide
                                         (gt (Sh.int IntKind.i64)
                                             (comV (List.take (Int.toNat (60 : Int)) b)
                                               (natsOf
                                                 (winL (Sh.int IntKind.i64) (0 : Nat)
                                                   (mapI (ordB (List.take (Int.toNat (60 : Int)) b))).length
                                                   (mapI (ordB (List.take (Int.toNat (60 : Int)) b))))))
                                             ((0 : Nat) + Int.toNat (0 : Int)) ≠
                                           (0 : Int)))),
                                   ((32 : Nat),
                                     SV.bool
                                       (bif true then
                                         decide
                                           (gt (Sh.int IntKind.i64)
                                               (comV (List.take (Int.toNat (60 : Int)) b)
                                                 (natsOf
                                                   (winL (Sh.int IntKind.i64) (0 : Nat)
                                                     (mapI (ordB (List.take (Int.toNat (60 : Int)) b))).length
                                                     (mapI (ordB (List.take (Int.toNat (60 : Int)) b))))))
                                               ((0 : Nat) + Int.toNat (0 : Int)) ≠
                                             (0 : Int))
                                       else false)),
                                   ((33 : Nat),
                                     SV.bool
                                       (bif false then true
                                       else
                                         bif true then
                                           decide
                                             (gt (Sh.int IntKind.i64)
                                                 (comV (List.take (Int.toNat (60 : Int)) b)
                                                   (natsOf
                                                     (winL (Sh.int IntKind.i64) (0 : Nat)
                                                       (mapI (ordB (List.take (Int.toNat (60 : Int)) b))).length
                                                       (mapI (ordB (List.take (Int.toNat (60 : Int)) b))))))
                                                 ((0 : Nat) + Int.toNat (0 : Int)) ≠
                                               (0 : Int))
                                         else false))],
                               blk :=
                                 [((1057344 : Nat),
                                     LB.row (3 : Nat) (Sh.int IntKind.i64)
                                       (mapI (ordB (List.take (Int.toNat (60 : Int)) b)))),
                                   ((1069632 : Nat),
                                     LB.row (3 : Nat) (Sh.int IntKind.i64)
                                       (comV (List.take (Int.toNat (60 : Int)) b)
                                         (natsOf
                                           (winL (Sh.int IntKind.i64) (0 : Nat)
                                             (mapI (ordB (List.take (Int.toNat (60 : Int)) b))).length
                                             (mapI (ordB (List.take (Int.toNat (60 : Int)) b)))))))] }))
                   (false = false ∧
                     R (hd Try.f7 (0 : Nat))
                       {
                         env :=
                           [((0 : Nat), SV.sl (Sh.int IntKind.u8) b), ((2 : Nat), SV.bool false), ((3 : Nat), SV.bool true),
                             ((4 : Nat), SV.sl (Sh.int IntKind.u8) (List.take (Int.toNat (60 : Int)) b)),
                             ((5 : Nat),
                               SV.win true (Sh.int IntKind.i64) (1057344 : Nat) (0 : Nat)
                                 (mapI (ordB (List.take (Int.toNat (60 : Int)) b))).length),
                             ((6 : Nat),
                               SV.win true (Sh.int IntKind.i64) (1069632 : Nat) (0 : Nat)
                                 (comV (List.take (Int.toNat (60 : Int)) b)
                                     (natsOf
                                       (winL (Sh.int IntKind.i64) (0 : Nat)
                                         (mapI (ordB (List.take (Int.toNat (60 : Int)) b))).length
                                         (mapI (ordB (List.take (Int.toNat (60 : Int)) b)))))).length),
                             ((7 : Nat), SV.int IntKind.i64 (0 : Int)), ((10 : Nat), SV.bool true),
                             ((11 : Nat), SV.sl (Sh.int IntKind.u8) b),
                             ((12 : Nat), SV.sl (Sh.int IntKind.u8) (List.take (Int.toNat (60 : Int)) b)),
                             ((13 : Nat), SV.sl (Sh.int IntKind.u8) (List.take (Int.toNat (60 : Int)) b)),
                             ((14 : Nat),
                               SV.win true (Sh.int IntKind.i64) (1057344 : Nat) (0 : Nat)
                                 (mapI (ordB (List.take (Int.toNat (60 : Int)) b))).length),
                             ((15 : Nat), SV.sl (Sh.int IntKind.u8) (List.take (Int.toNat (60 : Int)) b)),
                             ((16 : Nat),
                               SV.win true (Sh.int IntKind.i64) (1057344 : Nat) (0 : Nat)
                                 (mapI (ordB (List.take (Int.toNat (60 : Int)) b))).length),
                             ((17 : Nat),
                               SV.win true (Sh.int IntKind.i64) (1069632 : Nat) (0 : Nat)
                                 (comV (List.take (Int.toNat (60 : Int)) b)
                                     (natsOf
                                       (winL (Sh.int IntKind.i64) (0 : Nat)
                                         (mapI (ordB (List.take (Int.toNat (60 : Int)) b))).length
                                         (mapI (ordB (List.take (Int.toNat (60 : Int)) b)))))).length),
                             ((18 : Nat),
                               SV.win true (Sh.int IntKind.i64) (1069632 : Nat) (0 : Nat)
                                 (comV (List.take (Int.toNat (60 : Int)) b)
                                     (natsOf
                                       (winL (Sh.int IntKind.i64) (0 : Nat)
                                         (mapI (ordB (List.take (Int.toNat (60 : Int)) b))).length
                                         (mapI (ordB (List.take (Int.toNat (60 : Int)) b)))))).length),
                             ((19 : Nat),
                               SV.int IntKind.i64
                                 (↑(comV (List.take (Int.toNat (60 : Int)) b)
                                         (natsOf
                                           (winL (Sh.int IntKind.i64) (0 : Nat)
                                             (mapI (ordB (List.take (Int.toNat (60 : Int)) b))).length
                                             (mapI (ordB (List.take (Int.toNat (60 : Int)) b)))))).length :
                                   Int)),
                             ((20 : Nat), SV.sl (Sh.int IntKind.u8) (List.take (Int.toNat (60 : Int)) b)),
                             ((21 : Nat), SV.int IntKind.i64 (↑(List.take (Int.toNat (60 : Int)) b).length : Int)),
                             ((22 : Nat),
                               SV.bool
                                 (decide
                                   ((↑(comV (List.take (Int.toNat (60 : Int)) b)
                                             (natsOf
                                               (winL (Sh.int IntKind.i64) (0 : Nat)
                                                 (mapI (ordB (List.take (Int.toNat (60 : Int)) b))).length
                                                 (mapI (ordB (List.take (Int.toNat (60 : Int)) b)))))).length :
                                       Int) ≠
                                     (↑(List.take (Int.toNat (60 : Int)) b).length : Int)))),
                             ((23 : Nat), SV.bool false),
                             ((24 : Nat),
                               SV.win true (Sh.int IntKind.i64) (1069632 : Nat) (0 : Nat)
                                 (comV (List.take (Int.toNat (60 : Int)) b)
                                     (natsOf
                                       (winL (Sh.int IntKind.i64) (0 : Nat)
                                         (mapI (ordB (List.take (Int.toNat (60 : Int)) b))).length
                                         (mapI (ordB (List.take (Int.toNat (60 : Int)) b)))))).length),
                             ((25 : Nat),
                               SV.int IntKind.i64
                                 (↑(comV (List.take (Int.toNat (60 : Int)) b)
                                         (natsOf
                                           (winL (Sh.int IntKind.i64) (0 : Nat)
                                             (mapI (ordB (List.take (Int.toNat (60 : Int)) b))).length
                                             (mapI (ordB (List.take (Int.toNat (60 : Int)) b)))))).length :
                                   Int)),
                             ((26 : Nat),
                               SV.bool
                                 (decide
                                   ((0 : Int) <
                                     (↑(comV (List.take (Int.toNat (60 : Int)) b)
                                             (natsOf
                                               (winL (Sh.int IntKind.i64) (0 : Nat)
                                                 (mapI (ordB (List.take (Int.toNat (60 : Int)) b))).length
                                                 (mapI (ordB (List.take (Int.toNat (60 : Int)) b)))))).length :
                                       Int)))),
                             ((27 : Nat), SV.bool false), ((32 : Nat), SV.bool false),
                             ((33 : Nat), SV.bool (bif false then true else false))],
                         blk :=
                           [((1057344 : Nat),
                               LB.row (3 : Nat) (Sh.int IntKind.i64) (mapI (ordB (List.take (Int.toNat (60 : Int)) b)))),
                             ((1069632 : Nat),
                               LB.row (3 : Nat) (Sh.int IntKind.i64)
                                 (comV (List.take (Int.toNat (60 : Int)) b)
                                   (natsOf
                                     (winL (Sh.int IntKind.i64) (0 : Nat)
                                       (mapI (ordB (List.take (Int.toNat (60 : Int)) b))).length
                                       (mapI (ordB (List.take (Int.toNat (60 : Int)) b)))))))] }))) := by kernel_rfl
end Go.Proofs.Ytijeaicbnfiegaa
