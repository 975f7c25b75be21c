/-
  A part of the proof: what a piece of the program gives; conditions: those of each theorem.
-/
import Derived.Test.YtfkbegcinagkmaaDoorC5
set_option linter.unusedVariables false
namespace Go.Proofs.YtfkbegcinagkmaaDoor
open Go.Px Go.Ax
noncomputable section
def ctSan : Ctr := ⟨[], fun _ => True, fun _ => [.bool true], fun _ => []⟩
def C6 : CV := (10, ctSan) :: (11, ctPlace) :: (12, ctMade) :: C4
set_option maxRecDepth 100000
theorem vc_moves (w : Int) (x : List Int) (p : List Int) (Q : List SV → List (Nat × LB) → Prop) (R : List Item → PS → Prop) : sy tt G0 C6 Tryd.f5.ntmps Tryd.f5.results.toList Q R 1000 [.code (bodyOf Tryd.f5)] (entry [.int .u32, .arr 4 (.int .u8), .arr 2 (.int .u16)] (w, x, p, ())) =
    (ctSan.pre () ∧
       (0 : Int) ≤ (0 : Int) ∧
         (0 : Int) < ↑(2 : Nat) ∧
           Int.toNat (0 : Int) < (2 : Nat) ∧
             ctPlace.pre (gt (Sh.int IntKind.u16) p (Int.toNat (0 : Int)), ()) ∧
               (0 : Int) ≤ (1 : Int) ∧
                 (1 : Int) < ↑(2 : Nat) ∧
                   Int.toNat (1 : Int) < (2 : Nat) ∧
                     ctPlace.pre (gt (Sh.int IntKind.u16) p (Int.toNat (1 : Int)), ()) ∧
                       ctMade.pre (x, ()) ∧
                         R (hd Tryd.f5 (0 : Nat))
                           {
                             env :=
                               [((0 : Nat), SV.int IntKind.u32 w), ((1 : Nat), SV.arr (4 : Nat) (Sh.int IntKind.u8) x),
                                 ((2 : Nat), SV.arr (2 : Nat) (Sh.int IntKind.u16) p),
                                 ((4 : Nat), SV.ptr (4 : Nat) (0 : Nat)), ((5 : Nat), SV.ptr (5 : Nat) (0 : Nat)),
                                 ((6 : Nat), SV.bool false), ((7 : Nat), SV.bool true),
                                 ((8 : Nat), SV.int IntKind.i64 (plc (gt (Sh.int IntKind.u16) p (Int.toNat (0 : Int))))),
                                 ((9 : Nat), SV.int IntKind.i64 (plc (gt (Sh.int IntKind.u16) p (Int.toNat (1 : Int))))),
                                 ((10 : Nat), SV.win true (Sh.int IntKind.u32) (24 : Nat) (0 : Nat) (2 : Nat)),
                                 ((11 : Nat), SV.int IntKind.i64 (0 : Int)), ((14 : Nat), SV.bool true),
                                 ((15 : Nat), SV.aep (Sh.int IntKind.u16) (5 : Nat) (0 : Nat) (0 : Nat) (0 : Nat)),
                                 ((16 : Nat), SV.int IntKind.u16 (gt (Sh.int IntKind.u16) p (Int.toNat (0 : Int)))),
                                 ((17 : Nat), SV.int IntKind.i64 (plc (gt (Sh.int IntKind.u16) p (Int.toNat (0 : Int))))),
                                 ((18 : Nat), SV.aep (Sh.int IntKind.u16) (5 : Nat) (0 : Nat) (1 : Nat) (0 : Nat)),
                                 ((19 : Nat), SV.int IntKind.u16 (gt (Sh.int IntKind.u16) p (Int.toNat (1 : Int)))),
                                 ((20 : Nat), SV.int IntKind.i64 (plc (gt (Sh.int IntKind.u16) p (Int.toNat (1 : Int))))),
                                 ((21 : Nat), SV.int IntKind.u32 w), ((22 : Nat), SV.arr (4 : Nat) (Sh.int IntKind.u8) x),
                                 ((23 : Nat), SV.int IntKind.u32 (madeV x)),
                                 ((24 : Nat), SV.win true (Sh.int IntKind.u32) (24 : Nat) (0 : Nat) (2 : Nat))],
                             blk :=
                               [((4 : Nat), LB.var [SV.arr (4 : Nat) (Sh.int IntKind.u8) x]),
                                 ((5 : Nat), LB.var [SV.arr (2 : Nat) (Sh.int IntKind.u16) p]),
                                 ((24 : Nat),
                                   LB.row (22 : Nat) (Sh.int IntKind.u32)
                                     (((List.replicate (2 : Nat) (Sh.int IntKind.u32).dflt).set (0 : Nat) w).set (1 : Nat)
                                       (madeV x)))] }) := by kernel_rfl
theorem vc_movesL (p q i : Int) (l : List Int) (Q : List SV → List (Nat × LB) → Prop) (R : List Item → PS → Prop) : sy tt G0 C6 Tryd.f5.ntmps Tryd.f5.results.toList Q R 1000 (hd Tryd.f5 0) ⟨[(7, .bool true), (8, .int .i64 p), (9, .int .i64 q), (10, .win true (.int .u32) 24 0 2), (11, .int .i64 i)], [(24, .row 22 (.int .u32) l)]⟩ =
    (bc (decide (i < (2 : Int)))
       ((0 : Int) ≤ i ∧
         i < ↑(2 : Nat) ∧
           (0 : Nat) + i.toNat < l.length ∧
             ctDec.pre (gt (Sh.int IntKind.u32) l ((0 : Nat) + i.toNat), p, ()) ∧
               (0 : Int) ≤ i ∧
                 i < ↑(2 : Nat) ∧
                   (0 : Nat) + i.toNat < l.length ∧
                     ctDec.pre (gt (Sh.int IntKind.u32) l ((0 : Nat) + i.toNat), q, ()) ∧
                       bc (decide ((5 : Int) ≤ opV (gt (Sh.int IntKind.u32) l ((0 : Nat) + i.toNat))))
                         (bc
                           (!decide
                               ([opV (gt (Sh.int IntKind.u32) l ((0 : Nat) + i.toNat)),
                                   rg (gt (Sh.int IntKind.u32) l ((0 : Nat) + i.toNat))
                                     (regs (opV (gt (Sh.int IntKind.u32) l ((0 : Nat) + i.toNat)))) (0 : Int),
                                   rg (gt (Sh.int IntKind.u32) l ((0 : Nat) + i.toNat))
                                     (regs (opV (gt (Sh.int IntKind.u32) l ((0 : Nat) + i.toNat)))) (1 : Int),
                                   rg (gt (Sh.int IntKind.u32) l ((0 : Nat) + i.toNat))
                                     (regs (opV (gt (Sh.int IntKind.u32) l ((0 : Nat) + i.toNat)))) (2 : Int),
                                   IntKind.i64.wrap
                                     (numN (gt (Sh.int IntKind.u32) l ((0 : Nat) + i.toNat)) p
                                         (kd (opV (gt (Sh.int IntKind.u32) l ((0 : Nat) + i.toNat)))).snd.snd.fst
                                         (kd (opV (gt (Sh.int IntKind.u32) l ((0 : Nat) + i.toNat)))).snd.snd.snd.fst
                                         (kd (opV (gt (Sh.int IntKind.u32) l ((0 : Nat) + i.toNat)))).snd.snd.snd.snd +
                                       IntKind.i64.wrap (q - p))] =
                                 [opV (gt (Sh.int IntKind.u32) l ((0 : Nat) + i.toNat)),
                                   rg (gt (Sh.int IntKind.u32) l ((0 : Nat) + i.toNat))
                                     (regs (opV (gt (Sh.int IntKind.u32) l ((0 : Nat) + i.toNat)))) (0 : Int),
                                   rg (gt (Sh.int IntKind.u32) l ((0 : Nat) + i.toNat))
                                     (regs (opV (gt (Sh.int IntKind.u32) l ((0 : Nat) + i.toNat)))) (1 : Int),
                                   rg (gt (Sh.int IntKind.u32) l ((0 : Nat) + i.toNat))
                                     (regs (opV (gt (Sh.int IntKind.u32) l ((0 : Nat) + i.toNat)))) (2 : Int),
                                   numN (gt (Sh.int IntKind.u32) l ((0 : Nat) + i.toNat)) q
                                     (kd (opV (gt (Sh.int IntKind.u32) l ((0 : Nat) + i.toNat)))).snd.snd.fst
                                     (kd (opV (gt (Sh.int IntKind.u32) l ((0 : Nat) + i.toNat)))).snd.snd.snd.fst
                                     (kd (opV (gt (Sh.int IntKind.u32) l ((0 : Nat) + i.toNat)))).snd.snd.snd.snd]))
                           (Q [SV.bool false]
                             [((12 : Nat),
                                 LB.var
                                   [SV.int IntKind.i64 (opV (gt (Sh.int IntKind.u32) l ((0 : Nat) + i.toNat))),
                                     SV.int IntKind.i64
                                       (rg (gt (Sh.int IntKind.u32) l ((0 : Nat) + i.toNat))
                                         (regs (opV (gt (Sh.int IntKind.u32) l ((0 : Nat) + i.toNat)))) (0 : Int)),
                                     SV.int IntKind.i64
                                       (rg (gt (Sh.int IntKind.u32) l ((0 : Nat) + i.toNat))
                                         (regs (opV (gt (Sh.int IntKind.u32) l ((0 : Nat) + i.toNat)))) (1 : Int)),
                                     SV.int IntKind.i64
                                       (rg (gt (Sh.int IntKind.u32) l ((0 : Nat) + i.toNat))
                                         (regs (opV (gt (Sh.int IntKind.u32) l ((0 : Nat) + i.toNat)))) (2 : Int)),
                                     SV.int IntKind.i64
                                       (IntKind.i64.wrap
                                         (numN (gt (Sh.int IntKind.u32) l ((0 : Nat) + i.toNat)) p
                                             (kd (opV (gt (Sh.int IntKind.u32) l ((0 : Nat) + i.toNat)))).snd.snd.fst
                                             (kd (opV (gt (Sh.int IntKind.u32) l ((0 : Nat) + i.toNat)))).snd.snd.snd.fst
                                             (kd (opV (gt (Sh.int IntKind.u32) l ((0 : Nat) + i.toNat)))).snd.snd.snd.snd +
                                           IntKind.i64.wrap (q - p)))]),
                               ((13 : Nat),
                                 LB.var
                                   [SV.int IntKind.i64 (opV (gt (Sh.int IntKind.u32) l ((0 : Nat) + i.toNat))),
                                     SV.int IntKind.i64
                                       (rg (gt (Sh.int IntKind.u32) l ((0 : Nat) + i.toNat))
                                         (regs (opV (gt (Sh.int IntKind.u32) l ((0 : Nat) + i.toNat)))) (0 : Int)),
                                     SV.int IntKind.i64
                                       (rg (gt (Sh.int IntKind.u32) l ((0 : Nat) + i.toNat))
                                         (regs (opV (gt (Sh.int IntKind.u32) l ((0 : Nat) + i.toNat)))) (1 : Int)),
                                     SV.int IntKind.i64
                                       (rg (gt (Sh.int IntKind.u32) l ((0 : Nat) + i.toNat))
                                         (regs (opV (gt (Sh.int IntKind.u32) l ((0 : Nat) + i.toNat)))) (2 : Int)),
                                     SV.int IntKind.i64
                                       (numN (gt (Sh.int IntKind.u32) l ((0 : Nat) + i.toNat)) q
                                         (kd (opV (gt (Sh.int IntKind.u32) l ((0 : Nat) + i.toNat)))).snd.snd.fst
                                         (kd (opV (gt (Sh.int IntKind.u32) l ((0 : Nat) + i.toNat)))).snd.snd.snd.fst
                                         (kd (opV (gt (Sh.int IntKind.u32) l ((0 : Nat) + i.toNat)))).snd.snd.snd.snd)]),
                               ((24 : Nat), LB.row (22 : Nat) (Sh.int IntKind.u32) l)])
                           (R (hd Tryd.f5 (0 : Nat))
                             {
                               env :=
                                 [((7 : Nat), SV.bool true), ((8 : Nat), SV.int IntKind.i64 p),
                                   ((9 : Nat), SV.int IntKind.i64 q),
                                   ((10 : Nat), SV.win true (Sh.int IntKind.u32) (24 : Nat) (0 : Nat) (2 : Nat)),
                                   ((11 : Nat), SV.int IntKind.i64 (IntKind.i64.wrap (i + (1 : Int)))),
                                   ((12 : Nat), SV.ptr (12 : Nat) (0 : Nat)), ((13 : Nat), SV.ptr (13 : Nat) (0 : Nat)),
                                   ((25 : Nat), SV.int IntKind.i64 i), ((26 : Nat), SV.bool (decide (i < (2 : Int)))),
                                   ((27 : Nat), SV.int IntKind.i64 i),
                                   ((28 : Nat), SV.int IntKind.i64 (IntKind.i64.wrap (i + (1 : Int)))),
                                   ((29 : Nat), SV.win true (Sh.int IntKind.u32) (24 : Nat) (0 : Nat) (2 : Nat)),
                                   ((30 : Nat), SV.int IntKind.i64 i),
                                   ((31 : Nat), SV.elp (Sh.int IntKind.u32) (24 : Nat) ((0 : Nat) + i.toNat) (0 : Nat)),
                                   ((32 : Nat), SV.int IntKind.u32 (gt (Sh.int IntKind.u32) l ((0 : Nat) + i.toNat))),
                                   ((33 : Nat), SV.int IntKind.i64 p),
                                   ((34 : Nat),
                                     SV.agg
                                       [SV.int IntKind.i64 (opV (gt (Sh.int IntKind.u32) l ((0 : Nat) + i.toNat))),
                                         SV.int IntKind.i64
                                           (rg (gt (Sh.int IntKind.u32) l ((0 : Nat) + i.toNat))
                                             (regs (opV (gt (Sh.int IntKind.u32) l ((0 : Nat) + i.toNat)))) (0 : Int)),
                                         SV.int IntKind.i64
                                           (rg (gt (Sh.int IntKind.u32) l ((0 : Nat) + i.toNat))
                                             (regs (opV (gt (Sh.int IntKind.u32) l ((0 : Nat) + i.toNat)))) (1 : Int)),
                                         SV.int IntKind.i64
                                           (rg (gt (Sh.int IntKind.u32) l ((0 : Nat) + i.toNat))
                                             (regs (opV (gt (Sh.int IntKind.u32) l ((0 : Nat) + i.toNat)))) (2 : Int)),
                                         SV.int IntKind.i64
                                           (numN (gt (Sh.int IntKind.u32) l ((0 : Nat) + i.toNat)) p
                                             (kd (opV (gt (Sh.int IntKind.u32) l ((0 : Nat) + i.toNat)))).snd.snd.fst
                                             (kd (opV (gt (Sh.int IntKind.u32) l ((0 : Nat) + i.toNat)))).snd.snd.snd.fst
                                             (kd (opV (gt (Sh.int IntKind.u32) l ((0 : Nat) + i.toNat)))).snd.snd.snd.snd)]),
                                   ((35 : Nat), SV.win true (Sh.int IntKind.u32) (24 : Nat) (0 : Nat) (2 : Nat)),
                                   ((36 : Nat), SV.int IntKind.i64 i),
                                   ((37 : Nat), SV.elp (Sh.int IntKind.u32) (24 : Nat) ((0 : Nat) + i.toNat) (0 : Nat)),
                                   ((38 : Nat), SV.int IntKind.u32 (gt (Sh.int IntKind.u32) l ((0 : Nat) + i.toNat))),
                                   ((39 : Nat), SV.int IntKind.i64 q),
                                   ((40 : Nat),
                                     SV.agg
                                       [SV.int IntKind.i64 (opV (gt (Sh.int IntKind.u32) l ((0 : Nat) + i.toNat))),
                                         SV.int IntKind.i64
                                           (rg (gt (Sh.int IntKind.u32) l ((0 : Nat) + i.toNat))
                                             (regs (opV (gt (Sh.int IntKind.u32) l ((0 : Nat) + i.toNat)))) (0 : Int)),
                                         SV.int IntKind.i64
                                           (rg (gt (Sh.int IntKind.u32) l ((0 : Nat) + i.toNat))
                                             (regs (opV (gt (Sh.int IntKind.u32) l ((0 : Nat) + i.toNat)))) (1 : Int)),
                                         SV.int IntKind.i64
                                           (rg (gt (Sh.int IntKind.u32) l ((0 : Nat) + i.toNat))
                                             (regs (opV (gt (Sh.int IntKind.u32) l ((0 : Nat) + i.toNat)))) (2 : Int)),
                                         SV.int IntKind.i64
                                           (numN (gt (Sh.int IntKind.u32) l ((0 : Nat) + i.toNat)) q
                                             (kd (opV (gt (Sh.int IntKind.u32) l ((0 : Nat) + i.toNat)))).snd.snd.fst
                                             (kd (opV (gt (Sh.int IntKind.u32) l ((0 : Nat) + i.toNat)))).snd.snd.snd.fst
                                             (kd (opV (gt (Sh.int IntKind.u32) l ((0 : Nat) + i.toNat)))).snd.snd.snd.snd)]),
                                   ((41 : Nat), SV.ptr (12 : Nat) (0 : Nat)),
                                   ((42 : Nat), SV.int IntKind.i64 (opV (gt (Sh.int IntKind.u32) l ((0 : Nat) + i.toNat)))),
                                   ((43 : Nat),
                                     SV.bool (decide ((5 : Int) ≤ opV (gt (Sh.int IntKind.u32) l ((0 : Nat) + i.toNat))))),
                                   ((44 : Nat), SV.ptr (12 : Nat) (4 : Nat)),
                                   ((45 : Nat),
                                     SV.int IntKind.i64
                                       (numN (gt (Sh.int IntKind.u32) l ((0 : Nat) + i.toNat)) p
                                         (kd (opV (gt (Sh.int IntKind.u32) l ((0 : Nat) + i.toNat)))).snd.snd.fst
                                         (kd (opV (gt (Sh.int IntKind.u32) l ((0 : Nat) + i.toNat)))).snd.snd.snd.fst
                                         (kd (opV (gt (Sh.int IntKind.u32) l ((0 : Nat) + i.toNat)))).snd.snd.snd.snd)),
                                   ((46 : Nat), SV.int IntKind.i64 q), ((47 : Nat), SV.int IntKind.i64 p),
                                   ((48 : Nat), SV.int IntKind.i64 (IntKind.i64.wrap (q - p))),
                                   ((49 : Nat),
                                     SV.int IntKind.i64
                                       (IntKind.i64.wrap
                                         (numN (gt (Sh.int IntKind.u32) l ((0 : Nat) + i.toNat)) p
                                             (kd (opV (gt (Sh.int IntKind.u32) l ((0 : Nat) + i.toNat)))).snd.snd.fst
                                             (kd (opV (gt (Sh.int IntKind.u32) l ((0 : Nat) + i.toNat)))).snd.snd.snd.fst
                                             (kd (opV (gt (Sh.int IntKind.u32) l ((0 : Nat) + i.toNat)))).snd.snd.snd.snd +
                                           IntKind.i64.wrap (q - p)))),
                                   ((50 : Nat), SV.ptr (12 : Nat) (4 : Nat)),
                                   ((51 : Nat),
                                     SV.agg
                                       [SV.int IntKind.i64 (opV (gt (Sh.int IntKind.u32) l ((0 : Nat) + i.toNat))),
                                         SV.int IntKind.i64
                                           (rg (gt (Sh.int IntKind.u32) l ((0 : Nat) + i.toNat))
                                             (regs (opV (gt (Sh.int IntKind.u32) l ((0 : Nat) + i.toNat)))) (0 : Int)),
                                         SV.int IntKind.i64
                                           (rg (gt (Sh.int IntKind.u32) l ((0 : Nat) + i.toNat))
                                             (regs (opV (gt (Sh.int IntKind.u32) l ((0 : Nat) + i.toNat)))) (1 : Int)),
                                         SV.int IntKind.i64
                                           (rg (gt (Sh.int IntKind.u32) l ((0 : Nat) + i.toNat))
                                             (regs (opV (gt (Sh.int IntKind.u32) l ((0 : Nat) + i.toNat)))) (2 : Int)),
                                         SV.int IntKind.i64
                                           (IntKind.i64.wrap
                                             (numN (gt (Sh.int IntKind.u32) l ((0 : Nat) + i.toNat)) p
                                                 (kd (opV (gt (Sh.int IntKind.u32) l ((0 : Nat) + i.toNat)))).snd.snd.fst
                                                 (kd (opV (gt (Sh.int IntKind.u32) l ((0 : Nat) + i.toNat)))).snd.snd.snd.fst
                                                 (kd
                                                           (opV
                                                             (gt (Sh.int IntKind.u32) l
                                                               ((0 : Nat) + i.toNat)))).snd.snd.snd.snd +
                                               IntKind.i64.wrap (q - p)))]),
                                   ((52 : Nat),
                                     SV.agg
                                       [SV.int IntKind.i64 (opV (gt (Sh.int IntKind.u32) l ((0 : Nat) + i.toNat))),
                                         SV.int IntKind.i64
                                           (rg (gt (Sh.int IntKind.u32) l ((0 : Nat) + i.toNat))
                                             (regs (opV (gt (Sh.int IntKind.u32) l ((0 : Nat) + i.toNat)))) (0 : Int)),
                                         SV.int IntKind.i64
                                           (rg (gt (Sh.int IntKind.u32) l ((0 : Nat) + i.toNat))
                                             (regs (opV (gt (Sh.int IntKind.u32) l ((0 : Nat) + i.toNat)))) (1 : Int)),
                                         SV.int IntKind.i64
                                           (rg (gt (Sh.int IntKind.u32) l ((0 : Nat) + i.toNat))
                                             (regs (opV (gt (Sh.int IntKind.u32) l ((0 : Nat) + i.toNat)))) (2 : Int)),
                                         SV.int IntKind.i64
                                           (numN (gt (Sh.int IntKind.u32) l ((0 : Nat) + i.toNat)) q
                                             (kd (opV (gt (Sh.int IntKind.u32) l ((0 : Nat) + i.toNat)))).snd.snd.fst
                                             (kd (opV (gt (Sh.int IntKind.u32) l ((0 : Nat) + i.toNat)))).snd.snd.snd.fst
                                             (kd (opV (gt (Sh.int IntKind.u32) l ((0 : Nat) + i.toNat)))).snd.snd.snd.snd)]),
                                   ((53 : Nat),
                                     SV.bool
                                       !decide
                                           ([opV (gt (Sh.int IntKind.u32) l ((0 : Nat) + i.toNat)),
                                               rg (gt (Sh.int IntKind.u32) l ((0 : Nat) + i.toNat))
                                                 (regs (opV (gt (Sh.int IntKind.u32) l ((0 : Nat) + i.toNat)))) (0 : Int),
                                               rg (gt (Sh.int IntKind.u32) l ((0 : Nat) + i.toNat))
                                                 (regs (opV (gt (Sh.int IntKind.u32) l ((0 : Nat) + i.toNat)))) (1 : Int),
                                               rg (gt (Sh.int IntKind.u32) l ((0 : Nat) + i.toNat))
                                                 (regs (opV (gt (Sh.int IntKind.u32) l ((0 : Nat) + i.toNat)))) (2 : Int),
                                               IntKind.i64.wrap
                                                 (numN (gt (Sh.int IntKind.u32) l ((0 : Nat) + i.toNat)) p
                                                     (kd (opV (gt (Sh.int IntKind.u32) l ((0 : Nat) + i.toNat)))).snd.snd.fst
                                                     (kd
                                                               (opV
                                                                 (gt (Sh.int IntKind.u32) l
                                                                   ((0 : Nat) + i.toNat)))).snd.snd.snd.fst
                                                     (kd
                                                               (opV
                                                                 (gt (Sh.int IntKind.u32) l
                                                                   ((0 : Nat) + i.toNat)))).snd.snd.snd.snd +
                                                   IntKind.i64.wrap (q - p))] =
                                             [opV (gt (Sh.int IntKind.u32) l ((0 : Nat) + i.toNat)),
                                               rg (gt (Sh.int IntKind.u32) l ((0 : Nat) + i.toNat))
                                                 (regs (opV (gt (Sh.int IntKind.u32) l ((0 : Nat) + i.toNat)))) (0 : Int),
                                               rg (gt (Sh.int IntKind.u32) l ((0 : Nat) + i.toNat))
                                                 (regs (opV (gt (Sh.int IntKind.u32) l ((0 : Nat) + i.toNat)))) (1 : Int),
                                               rg (gt (Sh.int IntKind.u32) l ((0 : Nat) + i.toNat))
                                                 (regs (opV (gt (Sh.int IntKind.u32) l ((0 : Nat) + i.toNat)))) (2 : Int),
                                               numN (gt (Sh.int IntKind.u32) l ((0 : Nat) + i.toNat)) q
                                                 (kd (opV (gt (Sh.int IntKind.u32) l ((0 : Nat) + i.toNat)))).snd.snd.fst
                                                 (kd (opV (gt (Sh.int IntKind.u32) l ((0 : Nat) + i.toNat)))).snd.snd.snd.fst
                                                 (kd
                                                           (opV
                                                             (gt (Sh.int IntKind.u32) l
                                                               ((0 : Nat) + i.toNat)))).snd.snd.snd.snd]))],
                               blk :=
                                 [((12 : Nat),
                                     LB.var
                                       [SV.int IntKind.i64 (opV (gt (Sh.int IntKind.u32) l ((0 : Nat) + i.toNat))),
                                         SV.int IntKind.i64
                                           (rg (gt (Sh.int IntKind.u32) l ((0 : Nat) + i.toNat))
                                             (regs (opV (gt (Sh.int IntKind.u32) l ((0 : Nat) + i.toNat)))) (0 : Int)),
                                         SV.int IntKind.i64
                                           (rg (gt (Sh.int IntKind.u32) l ((0 : Nat) + i.toNat))
                                             (regs (opV (gt (Sh.int IntKind.u32) l ((0 : Nat) + i.toNat)))) (1 : Int)),
                                         SV.int IntKind.i64
                                           (rg (gt (Sh.int IntKind.u32) l ((0 : Nat) + i.toNat))
                                             (regs (opV (gt (Sh.int IntKind.u32) l ((0 : Nat) + i.toNat)))) (2 : Int)),
                                         SV.int IntKind.i64
                                           (IntKind.i64.wrap
                                             (numN (gt (Sh.int IntKind.u32) l ((0 : Nat) + i.toNat)) p
                                                 (kd (opV (gt (Sh.int IntKind.u32) l ((0 : Nat) + i.toNat)))).snd.snd.fst
                                                 (kd (opV (gt (Sh.int IntKind.u32) l ((0 : Nat) + i.toNat)))).snd.snd.snd.fst
                                                 (kd
                                                           (opV
                                                             (gt (Sh.int IntKind.u32) l
                                                               ((0 : Nat) + i.toNat)))).snd.snd.snd.snd +
                                               IntKind.i64.wrap (q - p)))]),
                                   ((13 : Nat),
                                     LB.var
                                       [SV.int IntKind.i64 (opV (gt (Sh.int IntKind.u32) l ((0 : Nat) + i.toNat))),
                                         SV.int IntKind.i64
                                           (rg (gt (Sh.int IntKind.u32) l ((0 : Nat) + i.toNat))
                                             (regs (opV (gt (Sh.int IntKind.u32) l ((0 : Nat) + i.toNat)))) (0 : Int)),
                                         SV.int IntKind.i64
                                           (rg (gt (Sh.int IntKind.u32) l ((0 : Nat) + i.toNat))
                                             (regs (opV (gt (Sh.int IntKind.u32) l ((0 : Nat) + i.toNat)))) (1 : Int)),
                                         SV.int IntKind.i64
                                           (rg (gt (Sh.int IntKind.u32) l ((0 : Nat) + i.toNat))
                                             (regs (opV (gt (Sh.int IntKind.u32) l ((0 : Nat) + i.toNat)))) (2 : Int)),
                                         SV.int IntKind.i64
                                           (numN (gt (Sh.int IntKind.u32) l ((0 : Nat) + i.toNat)) q
                                             (kd (opV (gt (Sh.int IntKind.u32) l ((0 : Nat) + i.toNat)))).snd.snd.fst
                                             (kd (opV (gt (Sh.int IntKind.u32) l ((0 : Nat) + i.toNat)))).snd.snd.snd.fst
                                             (kd (opV (gt (Sh.int IntKind.u32) l ((0 : Nat) + i.toNat)))).snd.snd.snd.snd)]),
                                   ((24 : Nat), LB.row (22 : Nat) (Sh.int IntKind.u32) l)] }))
                         (bc
                           (!decide
                               ([opV (gt (Sh.int IntKind.u32) l ((0 : Nat) + i.toNat)),
                                   rg (gt (Sh.int IntKind.u32) l ((0 : Nat) + i.toNat))
                                     (regs (opV (gt (Sh.int IntKind.u32) l ((0 : Nat) + i.toNat)))) (0 : Int),
                                   rg (gt (Sh.int IntKind.u32) l ((0 : Nat) + i.toNat))
                                     (regs (opV (gt (Sh.int IntKind.u32) l ((0 : Nat) + i.toNat)))) (1 : Int),
                                   rg (gt (Sh.int IntKind.u32) l ((0 : Nat) + i.toNat))
                                     (regs (opV (gt (Sh.int IntKind.u32) l ((0 : Nat) + i.toNat)))) (2 : Int),
                                   numN (gt (Sh.int IntKind.u32) l ((0 : Nat) + i.toNat)) p
                                     (kd (opV (gt (Sh.int IntKind.u32) l ((0 : Nat) + i.toNat)))).snd.snd.fst
                                     (kd (opV (gt (Sh.int IntKind.u32) l ((0 : Nat) + i.toNat)))).snd.snd.snd.fst
                                     (kd (opV (gt (Sh.int IntKind.u32) l ((0 : Nat) + i.toNat)))).snd.snd.snd.snd] =
                                 [opV (gt (Sh.int IntKind.u32) l ((0 : Nat) + i.toNat)),
                                   rg (gt (Sh.int IntKind.u32) l ((0 : Nat) + i.toNat))
                                     (regs (opV (gt (Sh.int IntKind.u32) l ((0 : Nat) + i.toNat)))) (0 : Int),
                                   rg (gt (Sh.int IntKind.u32) l ((0 : Nat) + i.toNat))
                                     (regs (opV (gt (Sh.int IntKind.u32) l ((0 : Nat) + i.toNat)))) (1 : Int),
                                   rg (gt (Sh.int IntKind.u32) l ((0 : Nat) + i.toNat))
                                     (regs (opV (gt (Sh.int IntKind.u32) l ((0 : Nat) + i.toNat)))) (2 : Int),
                                   numN (gt (Sh.int IntKind.u32) l ((0 : Nat) + i.toNat)) q
                                     (kd (opV (gt (Sh.int IntKind.u32) l ((0 : Nat) + i.toNat)))).snd.snd.fst
                                     (kd (opV (gt (Sh.int IntKind.u32) l ((0 : Nat) + i.toNat)))).snd.snd.snd.fst
                                     (kd (opV (gt (Sh.int IntKind.u32) l ((0 : Nat) + i.toNat)))).snd.snd.snd.snd]))
                           (Q [SV.bool false]
                             [((12 : Nat),
                                 LB.var
                                   [SV.int IntKind.i64 (opV (gt (Sh.int IntKind.u32) l ((0 : Nat) + i.toNat))),
                                     SV.int IntKind.i64
                                       (rg (gt (Sh.int IntKind.u32) l ((0 : Nat) + i.toNat))
                                         (regs (opV (gt (Sh.int IntKind.u32) l ((0 : Nat) + i.toNat)))) (0 : Int)),
                                     SV.int IntKind.i64
                                       (rg (gt (Sh.int IntKind.u32) l ((0 : Nat) + i.toNat))
                                         (regs (opV (gt (Sh.int IntKind.u32) l ((0 : Nat) + i.toNat)))) (1 : Int)),
                                     SV.int IntKind.i64
                                       (rg (gt (Sh.int IntKind.u32) l ((0 : Nat) + i.toNat))
                                         (regs (opV (gt (Sh.int IntKind.u32) l ((0 : Nat) + i.toNat)))) (2 : Int)),
                                     SV.int IntKind.i64
                                       (numN (gt (Sh.int IntKind.u32) l ((0 : Nat) + i.toNat)) p
                                         (kd (opV (gt (Sh.int IntKind.u32) l ((0 : Nat) + i.toNat)))).snd.snd.fst
                                         (kd (opV (gt (Sh.int IntKind.u32) l ((0 : Nat) + i.toNat)))).snd.snd.snd.fst
                                         (kd (opV (gt (Sh.int IntKind.u32) l ((0 : Nat) + i.toNat)))).snd.snd.snd.snd)]),
                               ((13 : Nat),
                                 LB.var
                                   [SV.int IntKind.i64 (opV (gt (Sh.int IntKind.u32) l ((0 : Nat) + i.toNat))),
                                     SV.int IntKind.i64
                                       (rg (gt (Sh.int IntKind.u32) l ((0 : Nat) + i.toNat))
                                         (regs (opV (gt (Sh.int IntKind.u32) l ((0 : Nat) + i.toNat)))) (0 : Int)),
                                     SV.int IntKind.i64
                                       (rg (gt (Sh.int IntKind.u32) l ((0 : Nat) + i.toNat))
                                         (regs (opV (gt (Sh.int IntKind.u32) l ((0 : Nat) + i.toNat)))) (1 : Int)),
                                     SV.int IntKind.i64
                                       (rg (gt (Sh.int IntKind.u32) l ((0 : Nat) + i.toNat))
                                         (regs (opV (gt (Sh.int IntKind.u32) l ((0 : Nat) + i.toNat)))) (2 : Int)),
                                     SV.int IntKind.i64
                                       (numN (gt (Sh.int IntKind.u32) l ((0 : Nat) + i.toNat)) q
                                         (kd (opV (gt (Sh.int IntKind.u32) l ((0 : Nat) + i.toNat)))).snd.snd.fst
                                         (kd (opV (gt (Sh.int IntKind.u32) l ((0 : Nat) + i.toNat)))).snd.snd.snd.fst
                                         (kd (opV (gt (Sh.int IntKind.u32) l ((0 : Nat) + i.toNat)))).snd.snd.snd.snd)]),
                               ((24 : Nat), LB.row (22 : Nat) (Sh.int IntKind.u32) l)])
                           (R (hd Tryd.f5 (0 : Nat))
                             {
                               env :=
                                 [((7 : Nat), SV.bool true), ((8 : Nat), SV.int IntKind.i64 p),
                                   ((9 : Nat), SV.int IntKind.i64 q),
                                   ((10 : Nat), SV.win true (Sh.int IntKind.u32) (24 : Nat) (0 : Nat) (2 : Nat)),
                                   ((11 : Nat), SV.int IntKind.i64 (IntKind.i64.wrap (i + (1 : Int)))),
                                   ((12 : Nat), SV.ptr (12 : Nat) (0 : Nat)), ((13 : Nat), SV.ptr (13 : Nat) (0 : Nat)),
                                   ((25 : Nat), SV.int IntKind.i64 i), ((26 : Nat), SV.bool (decide (i < (2 : Int)))),
                                   ((27 : Nat), SV.int IntKind.i64 i),
                                   ((28 : Nat), SV.int IntKind.i64 (IntKind.i64.wrap (i + (1 : Int)))),
                                   ((29 : Nat), SV.win true (Sh.int IntKind.u32) (24 : Nat) (0 : Nat) (2 : Nat)),
                                   ((30 : Nat), SV.int IntKind.i64 i),
                                   ((31 : Nat), SV.elp (Sh.int IntKind.u32) (24 : Nat) ((0 : Nat) + i.toNat) (0 : Nat)),
                                   ((32 : Nat), SV.int IntKind.u32 (gt (Sh.int IntKind.u32) l ((0 : Nat) + i.toNat))),
                                   ((33 : Nat), SV.int IntKind.i64 p),
                                   ((34 : Nat),
                                     SV.agg
                                       [SV.int IntKind.i64 (opV (gt (Sh.int IntKind.u32) l ((0 : Nat) + i.toNat))),
                                         SV.int IntKind.i64
                                           (rg (gt (Sh.int IntKind.u32) l ((0 : Nat) + i.toNat))
                                             (regs (opV (gt (Sh.int IntKind.u32) l ((0 : Nat) + i.toNat)))) (0 : Int)),
                                         SV.int IntKind.i64
                                           (rg (gt (Sh.int IntKind.u32) l ((0 : Nat) + i.toNat))
                                             (regs (opV (gt (Sh.int IntKind.u32) l ((0 : Nat) + i.toNat)))) (1 : Int)),
                                         SV.int IntKind.i64
                                           (rg (gt (Sh.int IntKind.u32) l ((0 : Nat) + i.toNat))
                                             (regs (opV (gt (Sh.int IntKind.u32) l ((0 : Nat) + i.toNat)))) (2 : Int)),
                                         SV.int IntKind.i64
                                           (numN (gt (Sh.int IntKind.u32) l ((0 : Nat) + i.toNat)) p
                                             (kd (opV (gt (Sh.int IntKind.u32) l ((0 : Nat) + i.toNat)))).snd.snd.fst
                                             (kd (opV (gt (Sh.int IntKind.u32) l ((0 : Nat) + i.toNat)))).snd.snd.snd.fst
                                             (kd (opV (gt (Sh.int IntKind.u32) l ((0 : Nat) + i.toNat)))).snd.snd.snd.snd)]),
                                   ((35 : Nat), SV.win true (Sh.int IntKind.u32) (24 : Nat) (0 : Nat) (2 : Nat)),
                                   ((36 : Nat), SV.int IntKind.i64 i),
                                   ((37 : Nat), SV.elp (Sh.int IntKind.u32) (24 : Nat) ((0 : Nat) + i.toNat) (0 : Nat)),
                                   ((38 : Nat), SV.int IntKind.u32 (gt (Sh.int IntKind.u32) l ((0 : Nat) + i.toNat))),
                                   ((39 : Nat), SV.int IntKind.i64 q),
                                   ((40 : Nat),
                                     SV.agg
                                       [SV.int IntKind.i64 (opV (gt (Sh.int IntKind.u32) l ((0 : Nat) + i.toNat))),
                                         SV.int IntKind.i64
                                           (rg (gt (Sh.int IntKind.u32) l ((0 : Nat) + i.toNat))
                                             (regs (opV (gt (Sh.int IntKind.u32) l ((0 : Nat) + i.toNat)))) (0 : Int)),
                                         SV.int IntKind.i64
                                           (rg (gt (Sh.int IntKind.u32) l ((0 : Nat) + i.toNat))
                                             (regs (opV (gt (Sh.int IntKind.u32) l ((0 : Nat) + i.toNat)))) (1 : Int)),
                                         SV.int IntKind.i64
                                           (rg (gt (Sh.int IntKind.u32) l ((0 : Nat) + i.toNat))
                                             (regs (opV (gt (Sh.int IntKind.u32) l ((0 : Nat) + i.toNat)))) (2 : Int)),
                                         SV.int IntKind.i64
                                           (numN (gt (Sh.int IntKind.u32) l ((0 : Nat) + i.toNat)) q
                                             (kd (opV (gt (Sh.int IntKind.u32) l ((0 : Nat) + i.toNat)))).snd.snd.fst
                                             (kd (opV (gt (Sh.int IntKind.u32) l ((0 : Nat) + i.toNat)))).snd.snd.snd.fst
                                             (kd (opV (gt (Sh.int IntKind.u32) l ((0 : Nat) + i.toNat)))).snd.snd.snd.snd)]),
                                   ((41 : Nat), SV.ptr (12 : Nat) (0 : Nat)),
                                   ((42 : Nat), SV.int IntKind.i64 (opV (gt (Sh.int IntKind.u32) l ((0 : Nat) + i.toNat)))),
                                   ((43 : Nat),
                                     SV.bool (decide ((5 : Int) ≤ opV (gt (Sh.int IntKind.u32) l ((0 : Nat) + i.toNat))))),
                                   ((51 : Nat),
                                     SV.agg
                                       [SV.int IntKind.i64 (opV (gt (Sh.int IntKind.u32) l ((0 : Nat) + i.toNat))),
                                         SV.int IntKind.i64
                                           (rg (gt (Sh.int IntKind.u32) l ((0 : Nat) + i.toNat))
                                             (regs (opV (gt (Sh.int IntKind.u32) l ((0 : Nat) + i.toNat)))) (0 : Int)),
                                         SV.int IntKind.i64
                                           (rg (gt (Sh.int IntKind.u32) l ((0 : Nat) + i.toNat))
                                             (regs (opV (gt (Sh.int IntKind.u32) l ((0 : Nat) + i.toNat)))) (1 : Int)),
                                         SV.int IntKind.i64
                                           (rg (gt (Sh.int IntKind.u32) l ((0 : Nat) + i.toNat))
                                             (regs (opV (gt (Sh.int IntKind.u32) l ((0 : Nat) + i.toNat)))) (2 : Int)),
                                         SV.int IntKind.i64
                                           (numN (gt (Sh.int IntKind.u32) l ((0 : Nat) + i.toNat)) p
                                             (kd (opV (gt (Sh.int IntKind.u32) l ((0 : Nat) + i.toNat)))).snd.snd.fst
                                             (kd (opV (gt (Sh.int IntKind.u32) l ((0 : Nat) + i.toNat)))).snd.snd.snd.fst
                                             (kd (opV (gt (Sh.int IntKind.u32) l ((0 : Nat) + i.toNat)))).snd.snd.snd.snd)]),
                                   ((52 : Nat),
                                     SV.agg
                                       [SV.int IntKind.i64 (opV (gt (Sh.int IntKind.u32) l ((0 : Nat) + i.toNat))),
                                         SV.int IntKind.i64
                                           (rg (gt (Sh.int IntKind.u32) l ((0 : Nat) + i.toNat))
                                             (regs (opV (gt (Sh.int IntKind.u32) l ((0 : Nat) + i.toNat)))) (0 : Int)),
                                         SV.int IntKind.i64
                                           (rg (gt (Sh.int IntKind.u32) l ((0 : Nat) + i.toNat))
                                             (regs (opV (gt (Sh.int IntKind.u32) l ((0 : Nat) + i.toNat)))) (1 : Int)),
                                         SV.int IntKind.i64
                                           (rg (gt (Sh.int IntKind.u32) l ((0 : Nat) + i.toNat))
                                             (regs (opV (gt (Sh.int IntKind.u32) l ((0 : Nat) + i.toNat)))) (2 : Int)),
                                         SV.int IntKind.i64
                                           (numN (gt (Sh.int IntKind.u32) l ((0 : Nat) + i.toNat)) q
                                             (kd (opV (gt (Sh.int IntKind.u32) l ((0 : Nat) + i.toNat)))).snd.snd.fst
                                             (kd (opV (gt (Sh.int IntKind.u32) l ((0 : Nat) + i.toNat)))).snd.snd.snd.fst
                                             (kd (opV (gt (Sh.int IntKind.u32) l ((0 : Nat) + i.toNat)))).snd.snd.snd.snd)]),
                                   ((53 : Nat),
                                     SV.bool
                                       !decide
                                           ([opV (gt (Sh.int IntKind.u32) l ((0 : Nat) + i.toNat)),
                                               rg (gt (Sh.int IntKind.u32) l ((0 : Nat) + i.toNat))
                                                 (regs (opV (gt (Sh.int IntKind.u32) l ((0 : Nat) + i.toNat)))) (0 : Int),
                                               rg (gt (Sh.int IntKind.u32) l ((0 : Nat) + i.toNat))
                                                 (regs (opV (gt (Sh.int IntKind.u32) l ((0 : Nat) + i.toNat)))) (1 : Int),
                                               rg (gt (Sh.int IntKind.u32) l ((0 : Nat) + i.toNat))
                                                 (regs (opV (gt (Sh.int IntKind.u32) l ((0 : Nat) + i.toNat)))) (2 : Int),
                                               numN (gt (Sh.int IntKind.u32) l ((0 : Nat) + i.toNat)) p
                                                 (kd (opV (gt (Sh.int IntKind.u32) l ((0 : Nat) + i.toNat)))).snd.snd.fst
                                                 (kd (opV (gt (Sh.int IntKind.u32) l ((0 : Nat) + i.toNat)))).snd.snd.snd.fst
                                                 (kd
                                                           (opV
                                                             (gt (Sh.int IntKind.u32) l
                                                               ((0 : Nat) + i.toNat)))).snd.snd.snd.snd] =
                                             [opV (gt (Sh.int IntKind.u32) l ((0 : Nat) + i.toNat)),
                                               rg (gt (Sh.int IntKind.u32) l ((0 : Nat) + i.toNat))
                                                 (regs (opV (gt (Sh.int IntKind.u32) l ((0 : Nat) + i.toNat)))) (0 : Int),
                                               rg (gt (Sh.int IntKind.u32) l ((0 : Nat) + i.toNat))
                                                 (regs (opV (gt (Sh.int IntKind.u32) l ((0 : Nat) + i.toNat)))) (1 : Int),
                                               rg (gt (Sh.int IntKind.u32) l ((0 : Nat) + i.toNat))
                                                 (regs (opV (gt (Sh.int IntKind.u32) l ((0 : Nat) + i.toNat)))) (2 : Int),
                                               numN (gt (Sh.int IntKind.u32) l ((0 : Nat) + i.toNat)) q
                                                 (kd (opV (gt (Sh.int IntKind.u32) l ((0 : Nat) + i.toNat)))).snd.snd.fst
                                                 (kd (opV (gt (Sh.int IntKind.u32) l ((0 : Nat) + i.toNat)))).snd.snd.snd.fst
                                                 (kd
                                                           (opV
                                                             (gt (Sh.int IntKind.u32) l
                                                               ((0 : Nat) + i.toNat)))).snd.snd.snd.snd]))],
                               blk :=
                                 [((12 : Nat),
                                     LB.var
                                       [SV.int IntKind.i64 (opV (gt (Sh.int IntKind.u32) l ((0 : Nat) + i.toNat))),
                                         SV.int IntKind.i64
                                           (rg (gt (Sh.int IntKind.u32) l ((0 : Nat) + i.toNat))
                                             (regs (opV (gt (Sh.int IntKind.u32) l ((0 : Nat) + i.toNat)))) (0 : Int)),
                                         SV.int IntKind.i64
                                           (rg (gt (Sh.int IntKind.u32) l ((0 : Nat) + i.toNat))
                                             (regs (opV (gt (Sh.int IntKind.u32) l ((0 : Nat) + i.toNat)))) (1 : Int)),
                                         SV.int IntKind.i64
                                           (rg (gt (Sh.int IntKind.u32) l ((0 : Nat) + i.toNat))
                                             (regs (opV (gt (Sh.int IntKind.u32) l ((0 : Nat) + i.toNat)))) (2 : Int)),
                                         SV.int IntKind.i64
                                           (numN (gt (Sh.int IntKind.u32) l ((0 : Nat) + i.toNat)) p
                                             (kd (opV (gt (Sh.int IntKind.u32) l ((0 : Nat) + i.toNat)))).snd.snd.fst
                                             (kd (opV (gt (Sh.int IntKind.u32) l ((0 : Nat) + i.toNat)))).snd.snd.snd.fst
                                             (kd (opV (gt (Sh.int IntKind.u32) l ((0 : Nat) + i.toNat)))).snd.snd.snd.snd)]),
                                   ((13 : Nat),
                                     LB.var
                                       [SV.int IntKind.i64 (opV (gt (Sh.int IntKind.u32) l ((0 : Nat) + i.toNat))),
                                         SV.int IntKind.i64
                                           (rg (gt (Sh.int IntKind.u32) l ((0 : Nat) + i.toNat))
                                             (regs (opV (gt (Sh.int IntKind.u32) l ((0 : Nat) + i.toNat)))) (0 : Int)),
                                         SV.int IntKind.i64
                                           (rg (gt (Sh.int IntKind.u32) l ((0 : Nat) + i.toNat))
                                             (regs (opV (gt (Sh.int IntKind.u32) l ((0 : Nat) + i.toNat)))) (1 : Int)),
                                         SV.int IntKind.i64
                                           (rg (gt (Sh.int IntKind.u32) l ((0 : Nat) + i.toNat))
                                             (regs (opV (gt (Sh.int IntKind.u32) l ((0 : Nat) + i.toNat)))) (2 : Int)),
                                         SV.int IntKind.i64
                                           (numN (gt (Sh.int IntKind.u32) l ((0 : Nat) + i.toNat)) q
                                             (kd (opV (gt (Sh.int IntKind.u32) l ((0 : Nat) + i.toNat)))).snd.snd.fst
                                             (kd (opV (gt (Sh.int IntKind.u32) l ((0 : Nat) + i.toNat)))).snd.snd.snd.fst
                                             (kd (opV (gt (Sh.int IntKind.u32) l ((0 : Nat) + i.toNat)))).snd.snd.snd.snd)]),
                                   ((24 : Nat), LB.row (22 : Nat) (Sh.int IntKind.u32) l)] })))
       (Q [SV.bool true] [((24 : Nat), LB.row (22 : Nat) (Sh.int IntKind.u32) l)])) := by kernel_rfl
end
end Go.Proofs.YtfkbegcinagkmaaDoor
