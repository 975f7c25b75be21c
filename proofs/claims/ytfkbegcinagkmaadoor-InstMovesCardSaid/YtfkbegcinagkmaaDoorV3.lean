/-
  A part of the proof: what a piece of the program gives; conditions: those of each theorem.
-/
import Derived.Test.YtfkbegcinagkmaaDoorC2
set_option linter.unusedVariables false
namespace Go.Proofs.YtfkbegcinagkmaaDoor
open Go.Px Go.Ax
set_option maxRecDepth 100000
theorem vc_number (k : kindSh.D) (w : Int) (Q : List SV → List (Nat × LB) → Prop) (R : List Item → PS → Prop) : sy tt G0 C2 Tryd.f24.ntmps Tryd.f24.results.toList Q R 1000 [.code (bodyOf Tryd.f24)] (entry [kindSh, .int .u32] (k, w, ())) =
    (bc k.snd.snd.snd.fst
       (ctLowS.pre (w, k.snd.snd.fst, ()) ∧
         Q [SV.int IntKind.i64 (lowSV w k.snd.snd.fst)]
           [((2 : Nat),
               LB.var
                 [SV.str k.fst, SV.int IntKind.i64 k.snd.fst, SV.int IntKind.i64 k.snd.snd.fst, SV.bool k.snd.snd.snd.fst,
                   SV.bool k.snd.snd.snd.snd])])
       (ctLow.pre (w, k.snd.snd.fst, ()) ∧
         Q [SV.int IntKind.i64 (lowV w k.snd.snd.fst)]
           [((2 : Nat),
               LB.var
                 [SV.str k.fst, SV.int IntKind.i64 k.snd.fst, SV.int IntKind.i64 k.snd.snd.fst, SV.bool k.snd.snd.snd.fst,
                   SV.bool k.snd.snd.snd.snd])])) := by kernel_rfl
end Go.Proofs.YtfkbegcinagkmaaDoor
