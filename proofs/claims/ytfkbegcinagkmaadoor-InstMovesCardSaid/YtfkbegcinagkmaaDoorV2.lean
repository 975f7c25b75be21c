/-
  A part of the proof: what a piece of the program gives; conditions: those of each theorem.
-/
import Derived.Test.YtfkbegcinagkmaaDoorC1
set_option linter.unusedVariables false
namespace Go.Proofs.YtfkbegcinagkmaaDoor
open Go.Px Go.Ax
set_option maxRecDepth 100000
theorem vc_op (w : Int) (Q : List SV → List (Nat × LB) → Prop) (R : List Item → PS → Prop) : sy tt G0 C1 Tryd.f22.ntmps Tryd.f22.results.toList Q R 1000 [.code (bodyOf Tryd.f22)] (entry [.int .u32] (w, ())) =
    (ctOctet.pre (w, (0 : Int), ()) ∧
       bc (decide ((9 : Int) ≤ octV w (0 : Int))) (Q [SV.int IntKind.i64 (0 : Int)] [])
         ((0 : Int) ≤ octV w (0 : Int) ∧
           octV w (0 : Int) < ↑(9 : Nat) ∧
             R (hd Tryd.f22 (0 : Nat))
               {
                 env :=
                   [((0 : Nat), SV.int IntKind.u32 w), ((2 : Nat), SV.int IntKind.i64 (0 : Int)),
                     ((3 : Nat), SV.int IntKind.i64 (octV w (0 : Int))), ((5 : Nat), SV.int IntKind.u32 w),
                     ((6 : Nat), SV.int IntKind.i64 (octV w (0 : Int))), ((7 : Nat), SV.int IntKind.i64 (octV w (0 : Int))),
                     ((8 : Nat), SV.bool (decide ((9 : Int) ≤ octV w (0 : Int)))),
                     ((9 : Nat), SV.int IntKind.i64 (octV w (0 : Int))),
                     ((10 : Nat),
                       SV.elv (Sh.str.pair ((Sh.int IntKind.i64).pair ((Sh.int IntKind.i64).pair (Sh.bool.pair Sh.bool))))
                         (gt (Sh.str.pair ((Sh.int IntKind.i64).pair ((Sh.int IntKind.i64).pair (Sh.bool.pair Sh.bool))))
                           kindsL (octV w (0 : Int)).toNat)),
                     ((11 : Nat),
                       SV.elv (Sh.int IntKind.i64)
                         (gt (Sh.str.pair ((Sh.int IntKind.i64).pair ((Sh.int IntKind.i64).pair (Sh.bool.pair Sh.bool))))
                               kindsL (octV w (0 : Int)).toNat).snd.fst),
                     ((12 : Nat),
                       SV.int IntKind.i64
                         (gt (Sh.str.pair ((Sh.int IntKind.i64).pair ((Sh.int IntKind.i64).pair (Sh.bool.pair Sh.bool))))
                               kindsL (octV w (0 : Int)).toNat).snd.fst),
                     ((13 : Nat), SV.int IntKind.i64 (0 : Int))],
                 blk := [] })) := by kernel_rfl
theorem vc_opL (w o n i : Int) (Q : List SV → List (Nat × LB) → Prop) (R : List Item → PS → Prop) : sy tt G0 C1 Tryd.f22.ntmps Tryd.f22.results.toList Q R 1000 (hd Tryd.f22 0) ⟨[(0, .int .u32 w), (3, .int .i64 o), (12, .int .i64 n), (13, .int .i64 i)], []⟩ =
    (bc (decide (i < n))
       (ctOctet.pre (w, IntKind.i64.wrap ((1 : Int) + i), ()) ∧
         bc (decide ((15 : Int) < octV w (IntKind.i64.wrap ((1 : Int) + i)))) (Q [SV.int IntKind.i64 (0 : Int)] [])
           (R (hd Tryd.f22 (0 : Nat))
             {
               env :=
                 [((0 : Nat), SV.int IntKind.u32 w), ((3 : Nat), SV.int IntKind.i64 o), ((4 : Nat), SV.int IntKind.i64 i),
                   ((12 : Nat), SV.int IntKind.i64 n), ((13 : Nat), SV.int IntKind.i64 (IntKind.i64.wrap (i + (1 : Int)))),
                   ((14 : Nat), SV.bool (decide (i < n))), ((15 : Nat), SV.int IntKind.i64 i),
                   ((16 : Nat), SV.int IntKind.u32 w), ((17 : Nat), SV.int IntKind.i64 i),
                   ((18 : Nat), SV.int IntKind.i64 (IntKind.i64.wrap ((1 : Int) + i))),
                   ((19 : Nat), SV.int IntKind.i64 (octV w (IntKind.i64.wrap ((1 : Int) + i)))),
                   ((20 : Nat), SV.bool (decide ((15 : Int) < octV w (IntKind.i64.wrap ((1 : Int) + i))))),
                   ((21 : Nat), SV.int IntKind.i64 (IntKind.i64.wrap (i + (1 : Int))))],
               blk := [] }))
       (Q [SV.int IntKind.i64 o] [])) := by kernel_rfl
end Go.Proofs.YtfkbegcinagkmaaDoor
