/-
  A part of the proof: what pieces of the program give; conditions: those of each theorem.
-/
import Derived.Test.YtpdhohkamhmjkaaQ1
set_option linter.unusedVariables false
namespace Go.Proofs.Ytpdhohkamhmjkaa
open Go.Px Go.Ax
set_option maxRecDepth 100000
theorem vc_l3 (a b w : List Int) (Q : List SV → List (Nat × LB) → Prop) (R : List Item → PS → Prop) : sy tt G0 D13 Try.f3.ntmps Try.f3.results.toList Q R 1000 [.code (bodyOf Try.f3)] (entry [.sl (.int .u8), .sl (.int .u8), .arr 2 (.int .i16)] (a, b, w, ())) =
    (ctSan.pre () ∧
 bc (decide ((200 : Int) < (↑a.length : Int)))
 (true = true ∧ Q [SV.bool true] [((5 : Nat), LB.var [SV.arr (2 : Nat) (Sh.int IntKind.i16) w])])
 (bc (bif false then true else decide ((200 : Int) < (↑b.length : Int)))
 (Q [SV.bool true] [((5 : Nat), LB.var [SV.arr (2 : Nat) (Sh.int IntKind.i16) w])])
 ((0 : Int) ≤ (0 : Int) ∧
 (0 : Int) < (↑(2 : Nat) : Int) ∧
 Int.toNat (0 : Int) < (2 : Nat) ∧
 (0 : Int) ≤ (1 : Int) ∧
 (1 : Int) < (↑(2 : Nat) : Int) ∧
 Int.toNat (1 : Int) < (2 : Nat) ∧
 (0 : Int) ≤ (0 : Int) ∧
 (0 : Int) < (↑(2 : Nat) : Int) ∧
 Int.toNat (0 : Int) < (2 : Nat) ∧
 (0 : Int) ≤ (1 : Int) ∧
 (1 : Int) < (↑(2 : Nat) : Int) ∧
 Int.toNat (1 : Int) < (2 : Nat) ∧
 ctCut.pre
 (a,
 gt (Sh.int IntKind.i64)
 ((List.set (Sh.arr (2 : Nat) (Sh.int IntKind.i64)).dflt (0 : Nat)
 (IntKind.i64.wrap (gt (Sh.int IntKind.i16) w (Int.toNat (0 : Int))))).set
 (1 : Nat) (IntKind.i64.wrap (gt (Sh.int IntKind.i16) w (Int.toNat (1 : Int)))))
 (Int.toNat (0 : Int)),
 gt (Sh.int IntKind.i64)
 ((List.set (Sh.arr (2 : Nat) (Sh.int IntKind.i64)).dflt (0 : Nat)
 (IntKind.i64.wrap (gt (Sh.int IntKind.i16) w (Int.toNat (0 : Int))))).set
 (1 : Nat) (IntKind.i64.wrap (gt (Sh.int IntKind.i16) w (Int.toNat (1 : Int)))))
 (Int.toNat (1 : Int)),
 ()) ∧
 ctRc.pre
 (a,
 (List.set (Sh.arr (2 : Nat) (Sh.int IntKind.i64)).dflt (0 : Nat)
 (IntKind.i64.wrap (gt (Sh.int IntKind.i16) w (Int.toNat (0 : Int))))).set
 (1 : Nat) (IntKind.i64.wrap (gt (Sh.int IntKind.i16) w (Int.toNat (1 : Int)))),
 ()) ∧
 ctLb.pre
 (a,
 (List.set (Sh.arr (2 : Nat) (Sh.int IntKind.i64)).dflt (0 : Nat)
 (IntKind.i64.wrap (gt (Sh.int IntKind.i16) w (Int.toNat (0 : Int))))).set
 (1 : Nat)
 (IntKind.i64.wrap (gt (Sh.int IntKind.i16) w (Int.toNat (1 : Int)))),
 ()) ∧
 ctRb.pre
 (a,
 (List.set (Sh.arr (2 : Nat) (Sh.int IntKind.i64)).dflt (0 : Nat)
 (IntKind.i64.wrap
 (gt (Sh.int IntKind.i16) w (Int.toNat (0 : Int))))).set
 (1 : Nat)
 (IntKind.i64.wrap (gt (Sh.int IntKind.i16) w (Int.toNat (1 : Int)))),
 ()) ∧
 (0 : Int) ≤ (0 : Int) ∧
 (0 : Int) < (↑(2 : Nat) : Int) ∧
 Int.toNat (0 : Int) < (2 : Nat) ∧
 (0 : Int) ≤ (1 : Int) ∧
 (1 : Int) < (↑(2 : Nat) : Int) ∧
 Int.toNat (1 : Int) < (2 : Nat) ∧
 ctMa.pre
 (a, b,
 gt (Sh.int IntKind.i64)
 ((List.set (Sh.arr (2 : Nat) (Sh.int IntKind.i64)).dflt
 (0 : Nat)
 (IntKind.i64.wrap
 (gt (Sh.int IntKind.i16) w
 (Int.toNat (0 : Int))))).set
 (1 : Nat)
 (IntKind.i64.wrap
 (gt (Sh.int IntKind.i16) w (Int.toNat (1 : Int)))))
 (Int.toNat (0 : Int)),
 gt (Sh.int IntKind.i64)
 ((List.set (Sh.arr (2 : Nat) (Sh.int IntKind.i64)).dflt
 (0 : Nat)
 (IntKind.i64.wrap
 (gt (Sh.int IntKind.i16) w
 (Int.toNat (0 : Int))))).set
 (1 : Nat)
 (IntKind.i64.wrap
 (gt (Sh.int IntKind.i16) w (Int.toNat (1 : Int)))))
 (Int.toNat (1 : Int)),
 ()) ∧
 ctRm.pre
 ((List.set (Sh.arr (2 : Nat) (Sh.int IntKind.u8).sl).dflt
 (0 : Nat) a).set
 (1 : Nat) b,
 (List.set (Sh.arr (2 : Nat) (Sh.int IntKind.i64)).dflt
 (0 : Nat)
 (IntKind.i64.wrap
 (gt (Sh.int IntKind.i16) w
 (Int.toNat (0 : Int))))).set
 (1 : Nat)
 (IntKind.i64.wrap
 (gt (Sh.int IntKind.i16) w (Int.toNat (1 : Int)))),
 ()) ∧
 (0 : Nat) +
 (cutO a
 (gt (Sh.int IntKind.i64)
 ((List.set
 (Sh.arr (2 : Nat) (Sh.int IntKind.i64)).dflt
 (0 : Nat)
 (IntKind.i64.wrap
 (gt (Sh.int IntKind.i16) w
 (Int.toNat (0 : Int))))).set
 (1 : Nat)
 (IntKind.i64.wrap
 (gt (Sh.int IntKind.i16) w
 (Int.toNat (1 : Int)))))
 (Int.toNat (0 : Int)))
 (gt (Sh.int IntKind.i64)
 ((List.set
 (Sh.arr (2 : Nat) (Sh.int IntKind.i64)).dflt
 (0 : Nat)
 (IntKind.i64.wrap
 (gt (Sh.int IntKind.i16) w
 (Int.toNat (0 : Int))))).set
 (1 : Nat)
 (IntKind.i64.wrap
 (gt (Sh.int IntKind.i16) w
 (Int.toNat (1 : Int)))))
 (Int.toNat (1 : Int)))).length ≤
 (cutO a
 (gt (Sh.int IntKind.i64)
 ((List.set (Sh.arr (2 : Nat) (Sh.int IntKind.i64)).dflt
 (0 : Nat)
 (IntKind.i64.wrap
 (gt (Sh.int IntKind.i16) w
 (Int.toNat (0 : Int))))).set
 (1 : Nat)
 (IntKind.i64.wrap
 (gt (Sh.int IntKind.i16) w (Int.toNat (1 : Int)))))
 (Int.toNat (0 : Int)))
 (gt (Sh.int IntKind.i64)
 ((List.set (Sh.arr (2 : Nat) (Sh.int IntKind.i64)).dflt
 (0 : Nat)
 (IntKind.i64.wrap
 (gt (Sh.int IntKind.i16) w
 (Int.toNat (0 : Int))))).set
 (1 : Nat)
 (IntKind.i64.wrap
 (gt (Sh.int IntKind.i16) w (Int.toNat (1 : Int)))))
 (Int.toNat (1 : Int)))).length ∧
 (0 : Nat) +
 (cutO a
 (pr2
 ((List.set
 (Sh.arr (2 : Nat) (Sh.int IntKind.i64)).dflt
 (0 : Nat)
 (IntKind.i64.wrap
 (gt (Sh.int IntKind.i16) w
 (Int.toNat (0 : Int))))).set
 (1 : Nat)
 (IntKind.i64.wrap
 (gt (Sh.int IntKind.i16) w
 (Int.toNat (1 : Int)))))).fst
 (pr2
 ((List.set
 (Sh.arr (2 : Nat) (Sh.int IntKind.i64)).dflt
 (0 : Nat)
 (IntKind.i64.wrap
 (gt (Sh.int IntKind.i16) w
 (Int.toNat (0 : Int))))).set
 (1 : Nat)
 (IntKind.i64.wrap
 (gt (Sh.int IntKind.i16) w
 (Int.toNat (1 : Int)))))).snd).length ≤
 (cutO a
 (pr2
 ((List.set
 (Sh.arr (2 : Nat) (Sh.int IntKind.i64)).dflt
 (0 : Nat)
 (IntKind.i64.wrap
 (gt (Sh.int IntKind.i16) w
 (Int.toNat (0 : Int))))).set
 (1 : Nat)
 (IntKind.i64.wrap
 (gt (Sh.int IntKind.i16) w
 (Int.toNat (1 : Int)))))).fst
 (pr2
 ((List.set
 (Sh.arr (2 : Nat) (Sh.int IntKind.i64)).dflt
 (0 : Nat)
 (IntKind.i64.wrap
 (gt (Sh.int IntKind.i16) w
 (Int.toNat (0 : Int))))).set
 (1 : Nat)
 (IntKind.i64.wrap
 (gt (Sh.int IntKind.i16) w
 (Int.toNat (1 : Int)))))).snd).length ∧
 ctInts.pre
 (winL (Sh.int IntKind.i64) (0 : Nat)
 (cutO a
 (gt (Sh.int IntKind.i64)
 ((List.set
 (Sh.arr (2 : Nat)
 (Sh.int IntKind.i64)).dflt
 (0 : Nat)
 (IntKind.i64.wrap
 (gt (Sh.int IntKind.i16) w
 (Int.toNat (0 : Int))))).set
 (1 : Nat)
 (IntKind.i64.wrap
 (gt (Sh.int IntKind.i16) w
 (Int.toNat (1 : Int)))))
 (Int.toNat (0 : Int)))
 (gt (Sh.int IntKind.i64)
 ((List.set
 (Sh.arr (2 : Nat)
 (Sh.int IntKind.i64)).dflt
 (0 : Nat)
 (IntKind.i64.wrap
 (gt (Sh.int IntKind.i16) w
 (Int.toNat (0 : Int))))).set
 (1 : Nat)
 (IntKind.i64.wrap
 (gt (Sh.int IntKind.i16) w
 (Int.toNat (1 : Int)))))
 (Int.toNat (1 : Int)))).length
 (cutO a
 (gt (Sh.int IntKind.i64)
 ((List.set
 (Sh.arr (2 : Nat) (Sh.int IntKind.i64)).dflt
 (0 : Nat)
 (IntKind.i64.wrap
 (gt (Sh.int IntKind.i16) w
 (Int.toNat (0 : Int))))).set
 (1 : Nat)
 (IntKind.i64.wrap
 (gt (Sh.int IntKind.i16) w
 (Int.toNat (1 : Int)))))
 (Int.toNat (0 : Int)))
 (gt (Sh.int IntKind.i64)
 ((List.set
 (Sh.arr (2 : Nat) (Sh.int IntKind.i64)).dflt
 (0 : Nat)
 (IntKind.i64.wrap
 (gt (Sh.int IntKind.i16) w
 (Int.toNat (0 : Int))))).set
 (1 : Nat)
 (IntKind.i64.wrap
 (gt (Sh.int IntKind.i16) w
 (Int.toNat (1 : Int)))))
 (Int.toNat (1 : Int)))),
 winL (Sh.int IntKind.i64) (0 : Nat)
 (cutO a
 (pr2
 ((List.set
 (Sh.arr (2 : Nat)
 (Sh.int IntKind.i64)).dflt
 (0 : Nat)
 (IntKind.i64.wrap
 (gt (Sh.int IntKind.i16) w
 (Int.toNat (0 : Int))))).set
 (1 : Nat)
 (IntKind.i64.wrap
 (gt (Sh.int IntKind.i16) w
 (Int.toNat (1 : Int)))))).fst
 (pr2
 ((List.set
 (Sh.arr (2 : Nat)
 (Sh.int IntKind.i64)).dflt
 (0 : Nat)
 (IntKind.i64.wrap
 (gt (Sh.int IntKind.i16) w
 (Int.toNat (0 : Int))))).set
 (1 : Nat)
 (IntKind.i64.wrap
 (gt (Sh.int IntKind.i16) w
 (Int.toNat (1 : Int)))))).snd).length
 (cutO a
 (pr2
 ((List.set
 (Sh.arr (2 : Nat)
 (Sh.int IntKind.i64)).dflt
 (0 : Nat)
 (IntKind.i64.wrap
 (gt (Sh.int IntKind.i16) w
 (Int.toNat (0 : Int))))).set
 (1 : Nat)
 (IntKind.i64.wrap
 (gt (Sh.int IntKind.i16) w
 (Int.toNat (1 : Int)))))).fst
 (pr2
 ((List.set
 (Sh.arr (2 : Nat)
 (Sh.int IntKind.i64)).dflt
 (0 : Nat)
 (IntKind.i64.wrap
 (gt (Sh.int IntKind.i16) w
 (Int.toNat (0 : Int))))).set
 (1 : Nat)
 (IntKind.i64.wrap
 (gt (Sh.int IntKind.i16) w
 (Int.toNat (1 : Int)))))).snd),
 ()) ∧
 bc
 (eqI
 (winL (Sh.int IntKind.i64) (0 : Nat)
 (cutO a
 (gt (Sh.int IntKind.i64)
 ((List.set
 (Sh.arr (2 : Nat)
 (Sh.int IntKind.i64)).dflt
 (0 : Nat)
 (IntKind.i64.wrap
 (gt (Sh.int IntKind.i16) w
 (Int.toNat (0 : Int))))).set
 (1 : Nat)
 (IntKind.i64.wrap
 (gt (Sh.int IntKind.i16) w
 (Int.toNat (1 : Int)))))
 (Int.toNat (0 : Int)))
 (gt (Sh.int IntKind.i64)
 ((List.set
 (Sh.arr (2 : Nat)
 (Sh.int IntKind.i64)).dflt
 (0 : Nat)
 (IntKind.i64.wrap
 (gt (Sh.int IntKind.i16) w
 (Int.toNat (0 : Int))))).set
 (1 : Nat)
 (IntKind.i64.wrap
 (gt (Sh.int IntKind.i16) w
 (Int.toNat (1 : Int)))))
 (Int.toNat (1 : Int)))).length
 (cutO a
 (gt (Sh.int IntKind.i64)
 ((List.set
 (Sh.arr (2 : Nat) (Sh.int IntKind.i64)).dflt
 (0 : Nat)
 (IntKind.i64.wrap
 (gt (Sh.int IntKind.i16) w
 (Int.toNat (0 : Int))))).set
 (1 : Nat)
 (IntKind.i64.wrap
 (gt (Sh.int IntKind.i16) w
 (Int.toNat (1 : Int)))))
 (Int.toNat (0 : Int)))
 (gt (Sh.int IntKind.i64)
 ((List.set
 (Sh.arr (2 : Nat) (Sh.int IntKind.i64)).dflt
 (0 : Nat)
 (IntKind.i64.wrap
 (gt (Sh.int IntKind.i16) w
 (Int.toNat (0 : Int))))).set
 (1 : Nat)
 (IntKind.i64.wrap
 (gt (Sh.int IntKind.i16) w
 (Int.toNat (1 : Int)))))
 (Int.toNat (1 : Int)))))
 (winL (Sh.int IntKind.i64) (0 : Nat)
 (cutO a
 (pr2
 ((List.set
 (Sh.arr (2 : Nat)
 (Sh.int IntKind.i64)).dflt
 (0 : Nat)
 (IntKind.i64.wrap
 (gt (Sh.int IntKind.i16) w
 (Int.toNat (0 : Int))))).set
 (1 : Nat)
 (IntKind.i64.wrap
 (gt (Sh.int IntKind.i16) w
 (Int.toNat (1 : Int)))))).fst
 (pr2
 ((List.set
 (Sh.arr (2 : Nat)
 (Sh.int IntKind.i64)).dflt
 (0 : Nat)
 (IntKind.i64.wrap
 (gt (Sh.int IntKind.i16) w
 (Int.toNat (0 : Int))))).set
 (1 : Nat)
 (IntKind.i64.wrap
 (gt (Sh.int IntKind.i16) w
 (Int.toNat (1 : Int)))))).snd).length
 (cutO a
 (pr2
 ((List.set
 (Sh.arr (2 : Nat)
 (Sh.int IntKind.i64)).dflt
 (0 : Nat)
 (IntKind.i64.wrap
 (gt (Sh.int IntKind.i16) w
 (Int.toNat (0 : Int))))).set
 (1 : Nat)
 (IntKind.i64.wrap
 (gt (Sh.int IntKind.i16) w
 (Int.toNat (1 : Int)))))).fst
 (pr2
 ((List.set
 (Sh.arr (2 : Nat)
 (Sh.int IntKind.i64)).dflt
 (0 : Nat)
 (IntKind.i64.wrap
 (gt (Sh.int IntKind.i16) w
 (Int.toNat (0 : Int))))).set
 (1 : Nat)
 (IntKind.i64.wrap
 (gt (Sh.int IntKind.i16) w
 (Int.toNat (1 : Int)))))).snd)))
 (bc
 (bif true then
 decide
 (errO
 (gt (Sh.int IntKind.i64)
 ((List.set
 (Sh.arr (2 : Nat)
 (Sh.int IntKind.i64)).dflt
 (0 : Nat)
 (IntKind.i64.wrap
 (gt (Sh.int IntKind.i16) w
 (Int.toNat (0 : Int))))).set
 (1 : Nat)
 (IntKind.i64.wrap
 (gt (Sh.int IntKind.i16) w
 (Int.toNat (1 : Int)))))
 (Int.toNat (0 : Int)))
 (gt (Sh.int IntKind.i64)
 ((List.set
 (Sh.arr (2 : Nat)
 (Sh.int IntKind.i64)).dflt
 (0 : Nat)
 (IntKind.i64.wrap
 (gt (Sh.int IntKind.i16) w
 (Int.toNat (0 : Int))))).set
 (1 : Nat)
 (IntKind.i64.wrap
 (gt (Sh.int IntKind.i16) w
 (Int.toNat (1 : Int)))))
 (Int.toNat (1 : Int))) =
 errO
 (pr2
 ((List.set
 (Sh.arr (2 : Nat)
 (Sh.int IntKind.i64)).dflt
 (0 : Nat)
 (IntKind.i64.wrap
 (gt (Sh.int IntKind.i16) w
 (Int.toNat (0 : Int))))).set
 (1 : Nat)
 (IntKind.i64.wrap
 (gt (Sh.int IntKind.i16) w
 (Int.toNat (1 : Int)))))).fst
 (pr2
 ((List.set
 (Sh.arr (2 : Nat)
 (Sh.int IntKind.i64)).dflt
 (0 : Nat)
 (IntKind.i64.wrap
 (gt (Sh.int IntKind.i16) w
 (Int.toNat (0 : Int))))).set
 (1 : Nat)
 (IntKind.i64.wrap
 (gt (Sh.int IntKind.i16) w
 (Int.toNat (1 : Int)))))).snd)
 else false)
 ((0 : Nat) +
 (blkO a
 (pr2
 ((List.set
 (Sh.arr (2 : Nat)
 (Sh.int IntKind.i64)).dflt
 (0 : Nat)
 (IntKind.i64.wrap
 (gt (Sh.int IntKind.i16) w
 (Int.toNat (0 : Int))))).set
 (1 : Nat)
 (IntKind.i64.wrap
 (gt (Sh.int IntKind.i16) w
 (Int.toNat (1 : Int)))))).fst
 (pr2
 ((List.set
 (Sh.arr (2 : Nat)
 (Sh.int IntKind.i64)).dflt
 (0 : Nat)
 (IntKind.i64.wrap
 (gt (Sh.int IntKind.i16) w
 (Int.toNat (0 : Int))))).set
 (1 : Nat)
 (IntKind.i64.wrap
 (gt (Sh.int IntKind.i16) w
 (Int.toNat
 (1 : Int)))))).snd).length ≤
 (blkO a
 (pr2
 ((List.set
 (Sh.arr (2 : Nat)
 (Sh.int IntKind.i64)).dflt
 (0 : Nat)
 (IntKind.i64.wrap
 (gt (Sh.int IntKind.i16) w
 (Int.toNat (0 : Int))))).set
 (1 : Nat)
 (IntKind.i64.wrap
 (gt (Sh.int IntKind.i16) w
 (Int.toNat (1 : Int)))))).fst
 (pr2
 ((List.set
 (Sh.arr (2 : Nat)
 (Sh.int IntKind.i64)).dflt
 (0 : Nat)
 (IntKind.i64.wrap
 (gt (Sh.int IntKind.i16) w
 (Int.toNat (0 : Int))))).set
 (1 : Nat)
 (IntKind.i64.wrap
 (gt (Sh.int IntKind.i16) w
 (Int.toNat
 (1 : Int)))))).snd).length ∧
 (0 : Nat) +
 (blkO a
 (pr2
 ((List.set
 (Sh.arr (2 : Nat)
 (Sh.int IntKind.i64)).dflt
 (0 : Nat)
 (IntKind.i64.wrap
 (gt (Sh.int IntKind.i16) w
 (Int.toNat (0 : Int))))).set
 (1 : Nat)
 (IntKind.i64.wrap
 (gt (Sh.int IntKind.i16) w
 (Int.toNat (1 : Int)))))).fst
 (pr2
 ((List.set
 (Sh.arr (2 : Nat)
 (Sh.int IntKind.i64)).dflt
 (0 : Nat)
 (IntKind.i64.wrap
 (gt (Sh.int IntKind.i16) w
 (Int.toNat (0 : Int))))).set
 (1 : Nat)
 (IntKind.i64.wrap
 (gt (Sh.int IntKind.i16) w
 (Int.toNat
 (1 : Int)))))).snd).length ≤
 (blkO a
 (pr2
 ((List.set
 (Sh.arr (2 : Nat)
 (Sh.int IntKind.i64)).dflt
 (0 : Nat)
 (IntKind.i64.wrap
 (gt (Sh.int IntKind.i16) w
 (Int.toNat (0 : Int))))).set
 (1 : Nat)
 (IntKind.i64.wrap
 (gt (Sh.int IntKind.i16) w
 (Int.toNat (1 : Int)))))).fst
 (pr2
 ((List.set
 (Sh.arr (2 : Nat)
 (Sh.int IntKind.i64)).dflt
 (0 : Nat)
 (IntKind.i64.wrap
 (gt (Sh.int IntKind.i16) w
 (Int.toNat (0 : Int))))).set
 (1 : Nat)
 (IntKind.i64.wrap
 (gt (Sh.int IntKind.i16) w
 (Int.toNat
 (1 : Int)))))).snd).length ∧
 ctRngs.pre
 (winL rgS (0 : Nat)
 (blkO a
 (pr2
 ((List.set
 (Sh.arr (2 : Nat)
 (Sh.int IntKind.i64)).dflt
 (0 : Nat)
 (IntKind.i64.wrap
 (gt (Sh.int IntKind.i16) w
 (Int.toNat
 (0 : Int))))).set
 (1 : Nat)
 (IntKind.i64.wrap
 (gt (Sh.int IntKind.i16) w
 (Int.toNat (1 : Int)))))).fst
 (pr2
 ((List.set
 (Sh.arr (2 : Nat)
 (Sh.int IntKind.i64)).dflt
 (0 : Nat)
 (IntKind.i64.wrap
 (gt (Sh.int IntKind.i16) w
 (Int.toNat
 (0 : Int))))).set
 (1 : Nat)
 (IntKind.i64.wrap
 (gt (Sh.int IntKind.i16) w
 (Int.toNat
 (1 : Int)))))).snd).length
 (blkO a
 (pr2
 ((List.set
 (Sh.arr (2 : Nat)
 (Sh.int IntKind.i64)).dflt
 (0 : Nat)
 (IntKind.i64.wrap
 (gt (Sh.int IntKind.i16) w
 (Int.toNat (0 : Int))))).set
 (1 : Nat)
 (IntKind.i64.wrap
 (gt (Sh.int IntKind.i16) w
 (Int.toNat (1 : Int)))))).fst
 (pr2
 ((List.set
 (Sh.arr (2 : Nat)
 (Sh.int IntKind.i64)).dflt
 (0 : Nat)
 (IntKind.i64.wrap
 (gt (Sh.int IntKind.i16) w
 (Int.toNat (0 : Int))))).set
 (1 : Nat)
 (IntKind.i64.wrap
 (gt (Sh.int IntKind.i16) w
 (Int.toNat (1 : Int)))))).snd),
 winL rgS (0 : Nat)
 (blkO a
 (pr2
 ((List.set
 (Sh.arr (2 : Nat)
 (Sh.int IntKind.i64)).dflt
 (0 : Nat)
 (IntKind.i64.wrap
 (gt (Sh.int IntKind.i16) w
 (Int.toNat
 (0 : Int))))).set
 (1 : Nat)
 (IntKind.i64.wrap
 (gt (Sh.int IntKind.i16) w
 (Int.toNat (1 : Int)))))).fst
 (pr2
 ((List.set
 (Sh.arr (2 : Nat)
 (Sh.int IntKind.i64)).dflt
 (0 : Nat)
 (IntKind.i64.wrap
 (gt (Sh.int IntKind.i16) w
 (Int.toNat
 (0 : Int))))).set
 (1 : Nat)
 (IntKind.i64.wrap
 (gt (Sh.int IntKind.i16) w
 (Int.toNat
 (1 : Int)))))).snd).length
 (blkO a
 (pr2
 ((List.set
 (Sh.arr (2 : Nat)
 (Sh.int IntKind.i64)).dflt
 (0 : Nat)
 (IntKind.i64.wrap
 (gt (Sh.int IntKind.i16) w
 (Int.toNat (0 : Int))))).set
 (1 : Nat)
 (IntKind.i64.wrap
 (gt (Sh.int IntKind.i16) w
 (Int.toNat (1 : Int)))))).fst
 (pr2
 ((List.set
 (Sh.arr (2 : Nat)
 (Sh.int IntKind.i64)).dflt
 (0 : Nat)
 (IntKind.i64.wrap
 (gt (Sh.int IntKind.i16) w
 (Int.toNat (0 : Int))))).set
 (1 : Nat)
 (IntKind.i64.wrap
 (gt (Sh.int IntKind.i16) w
 (Int.toNat (1 : Int)))))).snd),
 ()) ∧
 bc
 (bif true then
 eqR
 (winL rgS (0 : Nat)
 (blkO a
 (pr2
 ((List.set
 (Sh.arr (2 : Nat)
 (Sh.int
 IntKind.i64)).dflt
 (0 : Nat)
 (IntKind.i64.wrap
 (gt (Sh.int IntKind.i16) w
 (Int.toNat
 (0 : Int))))).set
 (1 : Nat)
 (IntKind.i64.wrap
 (gt (Sh.int IntKind.i16) w
 (Int.toNat
 (1 : Int)))))).fst
 (pr2
 ((List.set
 (Sh.arr (2 : Nat)
 (Sh.int
 IntKind.i64)).dflt
 (0 : Nat)
 (IntKind.i64.wrap
 (gt (Sh.int IntKind.i16) w
 (Int.toNat
 (0 : Int))))).set
 (1 : Nat)
 (IntKind.i64.wrap
 (gt (Sh.int IntKind.i16) w
 (Int.toNat
 (1 : Int)))))).snd).length
 (blkO a
 (pr2
 ((List.set
 (Sh.arr (2 : Nat)
 (Sh.int IntKind.i64)).dflt
 (0 : Nat)
 (IntKind.i64.wrap
 (gt (Sh.int IntKind.i16) w
 (Int.toNat
 (0 : Int))))).set
 (1 : Nat)
 (IntKind.i64.wrap
 (gt (Sh.int IntKind.i16) w
 (Int.toNat (1 : Int)))))).fst
 (pr2
 ((List.set
 (Sh.arr (2 : Nat)
 (Sh.int IntKind.i64)).dflt
 (0 : Nat)
 (IntKind.i64.wrap
 (gt (Sh.int IntKind.i16) w
 (Int.toNat
 (0 : Int))))).set
 (1 : Nat)
 (IntKind.i64.wrap
 (gt (Sh.int IntKind.i16) w
 (Int.toNat
 (1 : Int)))))).snd))
 (winL rgS (0 : Nat)
 (blkO a
 (pr2
 ((List.set
 (Sh.arr (2 : Nat)
 (Sh.int
 IntKind.i64)).dflt
 (0 : Nat)
 (IntKind.i64.wrap
 (gt (Sh.int IntKind.i16) w
 (Int.toNat
 (0 : Int))))).set
 (1 : Nat)
 (IntKind.i64.wrap
 (gt (Sh.int IntKind.i16) w
 (Int.toNat
 (1 : Int)))))).fst
 (pr2
 ((List.set
 (Sh.arr (2 : Nat)
 (Sh.int
 IntKind.i64)).dflt
 (0 : Nat)
 (IntKind.i64.wrap
 (gt (Sh.int IntKind.i16) w
 (Int.toNat
 (0 : Int))))).set
 (1 : Nat)
 (IntKind.i64.wrap
 (gt (Sh.int IntKind.i16) w
 (Int.toNat
 (1 : Int)))))).snd).length
 (blkO a
 (pr2
 ((List.set
 (Sh.arr (2 : Nat)
 (Sh.int IntKind.i64)).dflt
 (0 : Nat)
 (IntKind.i64.wrap
 (gt (Sh.int IntKind.i16) w
 (Int.toNat
 (0 : Int))))).set
 (1 : Nat)
 (IntKind.i64.wrap
 (gt (Sh.int IntKind.i16) w
 (Int.toNat (1 : Int)))))).fst
 (pr2
 ((List.set
 (Sh.arr (2 : Nat)
 (Sh.int IntKind.i64)).dflt
 (0 : Nat)
 (IntKind.i64.wrap
 (gt (Sh.int IntKind.i16) w
 (Int.toNat
 (0 : Int))))).set
 (1 : Nat)
 (IntKind.i64.wrap
 (gt (Sh.int IntKind.i16) w
 (Int.toNat
 (1 : Int)))))).snd))
 else false)
 (bc
 (bif true then
 decide
 (errO
 (pr2
 ((List.set
 (Sh.arr (2 : Nat)
 (Sh.int
 IntKind.i64)).dflt
 (0 : Nat)
 (IntKind.i64.wrap
 (gt (Sh.int IntKind.i16) w
 (Int.toNat
 (0 : Int))))).set
 (1 : Nat)
 (IntKind.i64.wrap
 (gt (Sh.int IntKind.i16) w
 (Int.toNat
 (1 : Int)))))).fst
 (pr2
 ((List.set
 (Sh.arr (2 : Nat)
 (Sh.int
 IntKind.i64)).dflt
 (0 : Nat)
 (IntKind.i64.wrap
 (gt (Sh.int IntKind.i16) w
 (Int.toNat
 (0 : Int))))).set
 (1 : Nat)
 (IntKind.i64.wrap
 (gt (Sh.int IntKind.i16) w
 (Int.toNat
 (1 : Int)))))).snd =
 errO
 (pr2
 ((List.set
 (Sh.arr (2 : Nat)
 (Sh.int
 IntKind.i64)).dflt
 (0 : Nat)
 (IntKind.i64.wrap
 (gt (Sh.int IntKind.i16) w
 (Int.toNat
 (0 : Int))))).set
 (1 : Nat)
 (IntKind.i64.wrap
 (gt (Sh.int IntKind.i16) w
 (Int.toNat
 (1 : Int)))))).fst
 (pr2
 ((List.set
 (Sh.arr (2 : Nat)
 (Sh.int
 IntKind.i64)).dflt
 (0 : Nat)
 (IntKind.i64.wrap
 (gt (Sh.int IntKind.i16) w
 (Int.toNat
 (0 : Int))))).set
 (1 : Nat)
 (IntKind.i64.wrap
 (gt (Sh.int IntKind.i16) w
 (Int.toNat
 (1 : Int)))))).snd)
 else false)
 ((0 : Nat) +
 (matO a b
 (gt (Sh.int IntKind.i64)
 ((List.set
 (Sh.arr (2 : Nat)
 (Sh.int
 IntKind.i64)).dflt
 (0 : Nat)
 (IntKind.i64.wrap
 (gt (Sh.int IntKind.i16) w
 (Int.toNat
 (0 : Int))))).set
 (1 : Nat)
 (IntKind.i64.wrap
 (gt (Sh.int IntKind.i16) w
 (Int.toNat (1 : Int)))))
 (Int.toNat (0 : Int)))
 (gt (Sh.int IntKind.i64)
 ((List.set
 (Sh.arr (2 : Nat)
 (Sh.int
 IntKind.i64)).dflt
 (0 : Nat)
 (IntKind.i64.wrap
 (gt (Sh.int IntKind.i16) w
 (Int.toNat
 (0 : Int))))).set
 (1 : Nat)
 (IntKind.i64.wrap
 (gt (Sh.int IntKind.i16) w
 (Int.toNat (1 : Int)))))
 (Int.toNat (1 : Int)))).length ≤
 (matO a b
 (gt (Sh.int IntKind.i64)
 ((List.set
 (Sh.arr (2 : Nat)
 (Sh.int IntKind.i64)).dflt
 (0 : Nat)
 (IntKind.i64.wrap
 (gt (Sh.int IntKind.i16) w
 (Int.toNat
 (0 : Int))))).set
 (1 : Nat)
 (IntKind.i64.wrap
 (gt (Sh.int IntKind.i16) w
 (Int.toNat (1 : Int)))))
 (Int.toNat (0 : Int)))
 (gt (Sh.int IntKind.i64)
 ((List.set
 (Sh.arr (2 : Nat)
 (Sh.int IntKind.i64)).dflt
 (0 : Nat)
 (IntKind.i64.wrap
 (gt (Sh.int IntKind.i16) w
 (Int.toNat
 (0 : Int))))).set
 (1 : Nat)
 (IntKind.i64.wrap
 (gt (Sh.int IntKind.i16) w
 (Int.toNat (1 : Int)))))
 (Int.toNat (1 : Int)))).length ∧
 (0 : Nat) +
 (matO
 (x0
 ((List.set
 (Sh.arr (2 : Nat)
 (Sh.int
 IntKind.u8).sl).dflt
 (0 : Nat) a).set
 (1 : Nat) b))
 (x1
 ((List.set
 (Sh.arr (2 : Nat)
 (Sh.int
 IntKind.u8).sl).dflt
 (0 : Nat) a).set
 (1 : Nat) b))
 (pr2
 ((List.set
 (Sh.arr (2 : Nat)
 (Sh.int
 IntKind.i64)).dflt
 (0 : Nat)
 (IntKind.i64.wrap
 (gt
 (Sh.int IntKind.i16)
 w
 (Int.toNat
 (0 : Int))))).set
 (1 : Nat)
 (IntKind.i64.wrap
 (gt (Sh.int IntKind.i16) w
 (Int.toNat
 (1 : Int)))))).fst
 (pr2
 ((List.set
 (Sh.arr (2 : Nat)
 (Sh.int
 IntKind.i64)).dflt
 (0 : Nat)
 (IntKind.i64.wrap
 (gt
 (Sh.int IntKind.i16)
 w
 (Int.toNat
 (0 : Int))))).set
 (1 : Nat)
 (IntKind.i64.wrap
 (gt (Sh.int IntKind.i16) w
 (Int.toNat
 (1 :
 Int)))))).snd).length ≤
 (matO
 (x0
 ((List.set
 (Sh.arr (2 : Nat)
 (Sh.int
 IntKind.u8).sl).dflt
 (0 : Nat) a).set
 (1 : Nat) b))
 (x1
 ((List.set
 (Sh.arr (2 : Nat)
 (Sh.int
 IntKind.u8).sl).dflt
 (0 : Nat) a).set
 (1 : Nat) b))
 (pr2
 ((List.set
 (Sh.arr (2 : Nat)
 (Sh.int
 IntKind.i64)).dflt
 (0 : Nat)
 (IntKind.i64.wrap
 (gt (Sh.int IntKind.i16)
 w
 (Int.toNat
 (0 : Int))))).set
 (1 : Nat)
 (IntKind.i64.wrap
 (gt (Sh.int IntKind.i16) w
 (Int.toNat
 (1 : Int)))))).fst
 (pr2
 ((List.set
 (Sh.arr (2 : Nat)
 (Sh.int
 IntKind.i64)).dflt
 (0 : Nat)
 (IntKind.i64.wrap
 (gt (Sh.int IntKind.i16)
 w
 (Int.toNat
 (0 : Int))))).set
 (1 : Nat)
 (IntKind.i64.wrap
 (gt (Sh.int IntKind.i16) w
 (Int.toNat
 (1 :
 Int)))))).snd).length ∧
 ctPrs.pre
 (winL paS (0 : Nat)
 (matO a b
 (gt (Sh.int IntKind.i64)
 ((List.set
 (Sh.arr (2 : Nat)
 (Sh.int
 IntKind.i64)).dflt
 (0 : Nat)
 (IntKind.i64.wrap
 (gt
 (Sh.int
 IntKind.i16)
 w
 (Int.toNat
 (0 :
 Int))))).set
 (1 : Nat)
 (IntKind.i64.wrap
 (gt (Sh.int IntKind.i16)
 w
 (Int.toNat
 (1 : Int)))))
 (Int.toNat (0 : Int)))
 (gt (Sh.int IntKind.i64)
 ((List.set
 (Sh.arr (2 : Nat)
 (Sh.int
 IntKind.i64)).dflt
 (0 : Nat)
 (IntKind.i64.wrap
 (gt
 (Sh.int
 IntKind.i16)
 w
 (Int.toNat
 (0 :
 Int))))).set
 (1 : Nat)
 (IntKind.i64.wrap
 (gt (Sh.int IntKind.i16)
 w
 (Int.toNat
 (1 : Int)))))
 (Int.toNat
 (1 : Int)))).length
 (matO a b
 (gt (Sh.int IntKind.i64)
 ((List.set
 (Sh.arr (2 : Nat)
 (Sh.int
 IntKind.i64)).dflt
 (0 : Nat)
 (IntKind.i64.wrap
 (gt
 (Sh.int IntKind.i16)
 w
 (Int.toNat
 (0 : Int))))).set
 (1 : Nat)
 (IntKind.i64.wrap
 (gt (Sh.int IntKind.i16) w
 (Int.toNat (1 : Int)))))
 (Int.toNat (0 : Int)))
 (gt (Sh.int IntKind.i64)
 ((List.set
 (Sh.arr (2 : Nat)
 (Sh.int
 IntKind.i64)).dflt
 (0 : Nat)
 (IntKind.i64.wrap
 (gt
 (Sh.int IntKind.i16)
 w
 (Int.toNat
 (0 : Int))))).set
 (1 : Nat)
 (IntKind.i64.wrap
 (gt (Sh.int IntKind.i16) w
 (Int.toNat (1 : Int)))))
 (Int.toNat (1 : Int)))),
 winL paS (0 : Nat)
 (matO
 (x0
 ((List.set
 (Sh.arr (2 : Nat)
 (Sh.int
 IntKind.u8).sl).dflt
 (0 : Nat) a).set
 (1 : Nat) b))
 (x1
 ((List.set
 (Sh.arr (2 : Nat)
 (Sh.int
 IntKind.u8).sl).dflt
 (0 : Nat) a).set
 (1 : Nat) b))
 (pr2
 ((List.set
 (Sh.arr (2 : Nat)
 (Sh.int
 IntKind.i64)).dflt
 (0 : Nat)
 (IntKind.i64.wrap
 (gt
 (Sh.int
 IntKind.i16)
 w
 (Int.toNat
 (0 :
 Int))))).set
 (1 : Nat)
 (IntKind.i64.wrap
 (gt
 (Sh.int IntKind.i16)
 w
 (Int.toNat
 (1 : Int)))))).fst
 (pr2
 ((List.set
 (Sh.arr (2 : Nat)
 (Sh.int
 IntKind.i64)).dflt
 (0 : Nat)
 (IntKind.i64.wrap
 (gt
 (Sh.int
 IntKind.i16)
 w
 (Int.toNat
 (0 :
 Int))))).set
 (1 : Nat)
 (IntKind.i64.wrap
 (gt
 (Sh.int IntKind.i16)
 w
 (Int.toNat
 (1 :
 Int)))))).snd).length
 (matO
 (x0
 ((List.set
 (Sh.arr (2 : Nat)
 (Sh.int
 IntKind.u8).sl).dflt
 (0 : Nat) a).set
 (1 : Nat) b))
 (x1
 ((List.set
 (Sh.arr (2 : Nat)
 (Sh.int
 IntKind.u8).sl).dflt
 (0 : Nat) a).set
 (1 : Nat) b))
 (pr2
 ((List.set
 (Sh.arr (2 : Nat)
 (Sh.int
 IntKind.i64)).dflt
 (0 : Nat)
 (IntKind.i64.wrap
 (gt
 (Sh.int
 IntKind.i16)
 w
 (Int.toNat
 (0 :
 Int))))).set
 (1 : Nat)
 (IntKind.i64.wrap
 (gt (Sh.int IntKind.i16)
 w
 (Int.toNat
 (1 : Int)))))).fst
 (pr2
 ((List.set
 (Sh.arr (2 : Nat)
 (Sh.int
 IntKind.i64)).dflt
 (0 : Nat)
 (IntKind.i64.wrap
 (gt
 (Sh.int
 IntKind.i16)
 w
 (Int.toNat
 (0 :
 Int))))).set
 (1 : Nat)
 (IntKind.i64.wrap
 (gt (Sh.int IntKind.i16)
 w
 (Int.toNat
 (1 : Int)))))).snd),
 ()) ∧
 bc
 (bif true then
 eqP
 (winL paS (0 : Nat)
 (matO a b
 (gt (Sh.int IntKind.i64)
 ((List.set
 (Sh.arr (2 : Nat)
 (Sh.int
 IntKind.i64)).dflt
 (0 : Nat)
 (IntKind.i64.wrap
 (gt
 (Sh.int
 IntKind.i16)
 w
 (Int.toNat
 (0 :
 Int))))).set
 (1 : Nat)
 (IntKind.i64.wrap
 (gt
 (Sh.int IntKind.i16)
 w
 (Int.toNat
 (1 : Int)))))
 (Int.toNat (0 : Int)))
 (gt (Sh.int IntKind.i64)
 ((List.set
 (Sh.arr (2 : Nat)
 (Sh.int
 IntKind.i64)).dflt
 (0 : Nat)
 (IntKind.i64.wrap
 (gt
 (Sh.int
 IntKind.i16)
 w
 (Int.toNat
 (0 :
 Int))))).set
 (1 : Nat)
 (IntKind.i64.wrap
 (gt
 (Sh.int IntKind.i16)
 w
 (Int.toNat
 (1 : Int)))))
 (Int.toNat
 (1 : Int)))).length
 (matO a b
 (gt (Sh.int IntKind.i64)
 ((List.set
 (Sh.arr (2 : Nat)
 (Sh.int
 IntKind.i64)).dflt
 (0 : Nat)
 (IntKind.i64.wrap
 (gt
 (Sh.int
 IntKind.i16)
 w
 (Int.toNat
 (0 :
 Int))))).set
 (1 : Nat)
 (IntKind.i64.wrap
 (gt (Sh.int IntKind.i16)
 w
 (Int.toNat
 (1 : Int)))))
 (Int.toNat (0 : Int)))
 (gt (Sh.int IntKind.i64)
 ((List.set
 (Sh.arr (2 : Nat)
 (Sh.int
 IntKind.i64)).dflt
 (0 : Nat)
 (IntKind.i64.wrap
 (gt
 (Sh.int
 IntKind.i16)
 w
 (Int.toNat
 (0 :
 Int))))).set
 (1 : Nat)
 (IntKind.i64.wrap
 (gt (Sh.int IntKind.i16)
 w
 (Int.toNat
 (1 : Int)))))
 (Int.toNat (1 : Int)))))
 (winL paS (0 : Nat)
 (matO
 (x0
 ((List.set
 (Sh.arr (2 : Nat)
 (Sh.int
 IntKind.u8).sl).dflt
 (0 : Nat) a).set
 (1 : Nat) b))
 (x1
 ((List.set
 (Sh.arr (2 : Nat)
 (Sh.int
 IntKind.u8).sl).dflt
 (0 : Nat) a).set
 (1 : Nat) b))
 (pr2
 ((List.set
 (Sh.arr (2 : Nat)
 (Sh.int
 IntKind.i64)).dflt
 (0 : Nat)
 (IntKind.i64.wrap
 (gt
 (Sh.int
 IntKind.i16)
 w
 (Int.toNat
 (0 :
 Int))))).set
 (1 : Nat)
 (IntKind.i64.wrap
 (gt
 (Sh.int
 IntKind.i16)
 w
 (Int.toNat
 (1 :
 Int)))))).fst
 (pr2
 ((List.set
 (Sh.arr (2 : Nat)
 (Sh.int
 IntKind.i64)).dflt
 (0 : Nat)
 (IntKind.i64.wrap
 (gt
 (Sh.int
 IntKind.i16)
 w
 (Int.toNat
 (0 :
 Int))))).set
 (1 : Nat)
 (IntKind.i64.wrap
 (gt
 (Sh.int
 IntKind.i16)
 w
 (Int.toNat
 (1 :
 Int)))))).snd).length
 (matO
 (x0
 ((List.set
 (Sh.arr (2 : Nat)
 (Sh.int
 IntKind.u8).sl).dflt
 (0 : Nat) a).set
 (1 : Nat) b))
 (x1
 ((List.set
 (Sh.arr (2 : Nat)
 (Sh.int
 IntKind.u8).sl).dflt
 (0 : Nat) a).set
 (1 : Nat) b))
 (pr2
 ((List.set
 (Sh.arr (2 : Nat)
 (Sh.int
 IntKind.i64)).dflt
 (0 : Nat)
 (IntKind.i64.wrap
 (gt
 (Sh.int
 IntKind.i16)
 w
 (Int.toNat
 (0 :
 Int))))).set
 (1 : Nat)
 (IntKind.i64.wrap
 (gt
 (Sh.int IntKind.i16)
 w
 (Int.toNat
 (1 : Int)))))).fst
 (pr2
 ((List.set
 (Sh.arr (2 : Nat)
 (Sh.int
 IntKind.i64)).dflt
 (0 : Nat)
 (IntKind.i64.wrap
 (gt
 (Sh.int
 IntKind.i16)
 w
 (Int.toNat
 (0 :
 Int))))).set
 (1 : Nat)
 (IntKind.i64.wrap
 (gt
 (Sh.int IntKind.i16)
 w
 (Int.toNat
 (1 :
 Int)))))).snd))
 else false)
 (bc
 (bif true then
 decide
 (errO
 (gt (Sh.int IntKind.i64)
 ((List.set
 (Sh.arr (2 : Nat)
 (Sh.int
 IntKind.i64)).dflt
 (0 : Nat)
 (IntKind.i64.wrap
 (gt
 (Sh.int
 IntKind.i16)
 w
 (Int.toNat
 (0 :
 Int))))).set
 (1 : Nat)
 (IntKind.i64.wrap
 (gt
 (Sh.int IntKind.i16)
 w
 (Int.toNat
 (1 : Int)))))
 (Int.toNat (0 : Int)))
 (gt (Sh.int IntKind.i64)
 ((List.set
 (Sh.arr (2 : Nat)
 (Sh.int
 IntKind.i64)).dflt
 (0 : Nat)
 (IntKind.i64.wrap
 (gt
 (Sh.int
 IntKind.i16)
 w
 (Int.toNat
 (0 :
 Int))))).set
 (1 : Nat)
 (IntKind.i64.wrap
 (gt
 (Sh.int IntKind.i16)
 w
 (Int.toNat
 (1 : Int)))))
 (Int.toNat (1 : Int))) =
 errO
 (pr2
 ((List.set
 (Sh.arr (2 : Nat)
 (Sh.int
 IntKind.i64)).dflt
 (0 : Nat)
 (IntKind.i64.wrap
 (gt
 (Sh.int
 IntKind.i16)
 w
 (Int.toNat
 (0 :
 Int))))).set
 (1 : Nat)
 (IntKind.i64.wrap
 (gt
 (Sh.int
 IntKind.i16)
 w
 (Int.toNat
 (1 :
 Int)))))).fst
 (pr2
 ((List.set
 (Sh.arr (2 : Nat)
 (Sh.int
 IntKind.i64)).dflt
 (0 : Nat)
 (IntKind.i64.wrap
 (gt
 (Sh.int
 IntKind.i16)
 w
 (Int.toNat
 (0 :
 Int))))).set
 (1 : Nat)
 (IntKind.i64.wrap
 (gt
 (Sh.int
 IntKind.i16)
 w
 (Int.toNat
 (1 :
 Int)))))).snd)
 else false)
 (Q
 [SV.bool
 (bif true then true
 else false)]
 [((5 : Nat),
 LB.var
 [SV.arr (2 : Nat)
 (Sh.int IntKind.i16)
 w]),
 ((8 : Nat),
 LB.var
 [SV.arr (2 : Nat)
 (Sh.int IntKind.i64)
 ((List.set
 (Sh.arr (2 : Nat)
 (Sh.int
 IntKind.i64)).dflt
 (0 : Nat)
 (IntKind.i64.wrap
 (gt
 (Sh.int
 IntKind.i16)
 w
 (Int.toNat
 (0 :
 Int))))).set
 (1 : Nat)
 (IntKind.i64.wrap
 (gt
 (Sh.int
 IntKind.i16)
 w
 (Int.toNat
 (1 : Int)))))]),
 ((1180224 : Nat),
 LB.row (3 : Nat)
 (Sh.int IntKind.i64)
 (cutO a
 (gt (Sh.int IntKind.i64)
 ((List.set
 (Sh.arr (2 : Nat)
 (Sh.int
 IntKind.i64)).dflt
 (0 : Nat)
 (IntKind.i64.wrap
 (gt
 (Sh.int
 IntKind.i16)
 w
 (Int.toNat
 (0 :
 Int))))).set
 (1 : Nat)
 (IntKind.i64.wrap
 (gt
 (Sh.int
 IntKind.i16)
 w
 (Int.toNat
 (1 : Int)))))
 (Int.toNat (0 : Int)))
 (gt (Sh.int IntKind.i64)
 ((List.set
 (Sh.arr (2 : Nat)
 (Sh.int
 IntKind.i64)).dflt
 (0 : Nat)
 (IntKind.i64.wrap
 (gt
 (Sh.int
 IntKind.i16)
 w
 (Int.toNat
 (0 :
 Int))))).set
 (1 : Nat)
 (IntKind.i64.wrap
 (gt
 (Sh.int
 IntKind.i16)
 w
 (Int.toNat
 (1 : Int)))))
 (Int.toNat
 (1 : Int))))),
 ((1204800 : Nat),
 LB.row (3 : Nat)
 (Sh.int IntKind.i64)
 (cutO a
 (pr2
 ((List.set
 (Sh.arr
 (2 : Nat)
 (Sh.int
 IntKind.i64)).dflt
 (0 : Nat)
 (IntKind.i64.wrap
 (gt
 (Sh.int
 IntKind.i16)
 w
 (Int.toNat
 (0 :
 Int))))).set
 (1 : Nat)
 (IntKind.i64.wrap
 (gt
 (Sh.int
 IntKind.i16)
 w
 (Int.toNat
 (1 :
 Int)))))).fst
 (pr2
 ((List.set
 (Sh.arr
 (2 : Nat)
 (Sh.int
 IntKind.i64)).dflt
 (0 : Nat)
 (IntKind.i64.wrap
 (gt
 (Sh.int
 IntKind.i16)
 w
 (Int.toNat
 (0 :
 Int))))).set
 (1 : Nat)
 (IntKind.i64.wrap
 (gt
 (Sh.int
 IntKind.i16)
 w
 (Int.toNat
 (1 :
 Int)))))).snd)),
 ((1229376 : Nat),
 LB.row (48 : Nat)
 ((Sh.int IntKind.i64).pair
 (Sh.int IntKind.i64))
 (blkO a
 (pr2
 ((List.set
 (Sh.arr
 (2 : Nat)
 (Sh.int
 IntKind.i64)).dflt
 (0 : Nat)
 (IntKind.i64.wrap
 (gt
 (Sh.int
 IntKind.i16)
 w
 (Int.toNat
 (0 :
 Int))))).set
 (1 : Nat)
 (IntKind.i64.wrap
 (gt
 (Sh.int
 IntKind.i16)
 w
 (Int.toNat
 (1 :
 Int)))))).fst
 (pr2
 ((List.set
 (Sh.arr
 (2 : Nat)
 (Sh.int
 IntKind.i64)).dflt
 (0 : Nat)
 (IntKind.i64.wrap
 (gt
 (Sh.int
 IntKind.i16)
 w
 (Int.toNat
 (0 :
 Int))))).set
 (1 : Nat)
 (IntKind.i64.wrap
 (gt
 (Sh.int
 IntKind.i16)
 w
 (Int.toNat
 (1 :
 Int)))))).snd)),
 ((1253952 : Nat),
 LB.row (48 : Nat)
 ((Sh.int IntKind.i64).pair
 (Sh.int IntKind.i64))
 (blkO a
 (pr2
 ((List.set
 (Sh.arr
 (2 : Nat)
 (Sh.int
 IntKind.i64)).dflt
 (0 : Nat)
 (IntKind.i64.wrap
 (gt
 (Sh.int
 IntKind.i16)
 w
 (Int.toNat
 (0 :
 Int))))).set
 (1 : Nat)
 (IntKind.i64.wrap
 (gt
 (Sh.int
 IntKind.i16)
 w
 (Int.toNat
 (1 :
 Int)))))).fst
 (pr2
 ((List.set
 (Sh.arr
 (2 : Nat)
 (Sh.int
 IntKind.i64)).dflt
 (0 : Nat)
 (IntKind.i64.wrap
 (gt
 (Sh.int
 IntKind.i16)
 w
 (Int.toNat
 (0 :
 Int))))).set
 (1 : Nat)
 (IntKind.i64.wrap
 (gt
 (Sh.int
 IntKind.i16)
 w
 (Int.toNat
 (1 :
 Int)))))).snd)),
 ((1294912 : Nat),
 LB.row (26 : Nat)
 (Sh.arr (2 : Nat)
 (Sh.int IntKind.i64))
 (matO a b
 (gt (Sh.int IntKind.i64)
 ((List.set
 (Sh.arr (2 : Nat)
 (Sh.int
 IntKind.i64)).dflt
 (0 : Nat)
 (IntKind.i64.wrap
 (gt
 (Sh.int
 IntKind.i16)
 w
 (Int.toNat
 (0 :
 Int))))).set
 (1 : Nat)
 (IntKind.i64.wrap
 (gt
 (Sh.int
 IntKind.i16)
 w
 (Int.toNat
 (1 : Int)))))
 (Int.toNat (0 : Int)))
 (gt (Sh.int IntKind.i64)
 ((List.set
 (Sh.arr (2 : Nat)
 (Sh.int
 IntKind.i64)).dflt
 (0 : Nat)
 (IntKind.i64.wrap
 (gt
 (Sh.int
 IntKind.i16)
 w
 (Int.toNat
 (0 :
 Int))))).set
 (1 : Nat)
 (IntKind.i64.wrap
 (gt
 (Sh.int
 IntKind.i16)
 w
 (Int.toNat
 (1 : Int)))))
 (Int.toNat
 (1 : Int))))),
 ((1327680 : Nat),
 LB.row (26 : Nat)
 (Sh.arr (2 : Nat)
 (Sh.int IntKind.i64))
 (matO
 (x0
 ((List.set
 (Sh.arr (2 : Nat)
 (Sh.int
 IntKind.u8).sl).dflt
 (0 : Nat) a).set
 (1 : Nat) b))
 (x1
 ((List.set
 (Sh.arr (2 : Nat)
 (Sh.int
 IntKind.u8).sl).dflt
 (0 : Nat) a).set
 (1 : Nat) b))
 (pr2
 ((List.set
 (Sh.arr
 (2 : Nat)
 (Sh.int
 IntKind.i64)).dflt
 (0 : Nat)
 (IntKind.i64.wrap
 (gt
 (Sh.int
 IntKind.i16)
 w
 (Int.toNat
 (0 :
 Int))))).set
 (1 : Nat)
 (IntKind.i64.wrap
 (gt
 (Sh.int
 IntKind.i16)
 w
 (Int.toNat
 (1 :
 Int)))))).fst
 (pr2
 ((List.set
 (Sh.arr
 (2 : Nat)
 (Sh.int
 IntKind.i64)).dflt
 (0 : Nat)
 (IntKind.i64.wrap
 (gt
 (Sh.int
 IntKind.i16)
 w
 (Int.toNat
 (0 :
 Int))))).set
 (1 : Nat)
 (IntKind.i64.wrap
 (gt
 (Sh.int
 IntKind.i16)
 w
 (Int.toNat
 (1 :
 Int)))))).snd))])
 (false = false ∧
 Q [SV.bool false]
 [((5 : Nat),
 LB.var
 [SV.arr (2 : Nat)
 (Sh.int IntKind.i16)
 w]),
 ((8 : Nat),
 LB.var
 [SV.arr (2 : Nat)
 (Sh.int IntKind.i64)
 ((List.set
 (Sh.arr
 (2 : Nat)
 (Sh.int
 IntKind.i64)).dflt
 (0 : Nat)
 (IntKind.i64.wrap
 (gt
 (Sh.int
 IntKind.i16)
 w
 (Int.toNat
 (0 :
 Int))))).set
 (1 : Nat)
 (IntKind.i64.wrap
 (gt
 (Sh.int
 IntKind.i16)
 w
 (Int.toNat
 (1 :
 Int)))))]),
 ((1180224 : Nat),
 LB.row (3 : Nat)
 (Sh.int IntKind.i64)
 (cutO a
 (gt (Sh.int IntKind.i64)
 ((List.set
 (Sh.arr
 (2 : Nat)
 (Sh.int
 IntKind.i64)).dflt
 (0 : Nat)
 (IntKind.i64.wrap
 (gt
 (Sh.int
 IntKind.i16)
 w
 (Int.toNat
 (0 :
 Int))))).set
 (1 : Nat)
 (IntKind.i64.wrap
 (gt
 (Sh.int
 IntKind.i16)
 w
 (Int.toNat
 (1 : Int)))))
 (Int.toNat (0 : Int)))
 (gt (Sh.int IntKind.i64)
 ((List.set
 (Sh.arr
 (2 : Nat)
 (Sh.int
 IntKind.i64)).dflt
 (0 : Nat)
 (IntKind.i64.wrap
 (gt
 (Sh.int
 IntKind.i16)
 w
 (Int.toNat
 (0 :
 Int))))).set
 (1 : Nat)
 (IntKind.i64.wrap
 (gt
 (Sh.int
 IntKind.i16)
 w
 (Int.toNat
 (1 : Int)))))
 (Int.toNat
 (1 : Int))))),
 ((1204800 : Nat),
 LB.row (3 : Nat)
 (Sh.int IntKind.i64)
 (cutO a
 (pr2
 ((List.set
 (Sh.arr
 (2 : Nat)
 (Sh.int
 IntKind.i64)).dflt
 (0 : Nat)
 (IntKind.i64.wrap
 (gt
 (Sh.int
 IntKind.i16)
 w
 (Int.toNat
 (0 :
 Int))))).set
 (1 : Nat)
 (IntKind.i64.wrap
 (gt
 (Sh.int
 IntKind.i16)
 w
 (Int.toNat
 (1 :
 Int)))))).fst
 (pr2
 ((List.set
 (Sh.arr
 (2 : Nat)
 (Sh.int
 IntKind.i64)).dflt
 (0 : Nat)
 (IntKind.i64.wrap
 (gt
 (Sh.int
 IntKind.i16)
 w
 (Int.toNat
 (0 :
 Int))))).set
 (1 : Nat)
 (IntKind.i64.wrap
 (gt
 (Sh.int
 IntKind.i16)
 w
 (Int.toNat
 (1 :
 Int)))))).snd)),
 ((1229376 : Nat),
 LB.row (48 : Nat)
 ((Sh.int IntKind.i64).pair
 (Sh.int IntKind.i64))
 (blkO a
 (pr2
 ((List.set
 (Sh.arr
 (2 : Nat)
 (Sh.int
 IntKind.i64)).dflt
 (0 : Nat)
 (IntKind.i64.wrap
 (gt
 (Sh.int
 IntKind.i16)
 w
 (Int.toNat
 (0 :
 Int))))).set
 (1 : Nat)
 (IntKind.i64.wrap
 (gt
 (Sh.int
 IntKind.i16)
 w
 (Int.toNat
 (1 :
 Int)))))).fst
 (pr2
 ((List.set
 (Sh.arr
 (2 : Nat)
 (Sh.int
 IntKind.i64)).dflt
 (0 : Nat)
 (IntKind.i64.wrap
 (gt
 (Sh.int
 IntKind.i16)
 w
 (Int.toNat
 (0 :
 Int))))).set
 (1 : Nat)
 (IntKind.i64.wrap
 (gt
 (Sh.int
 IntKind.i16)
 w
 (Int.toNat
 (1 :
 Int)))))).snd)),
 ((1253952 : Nat),
 LB.row (48 : Nat)
 ((Sh.int IntKind.i64).pair
 (Sh.int IntKind.i64))
 (blkO a
 (pr2
 ((List.set
 (Sh.arr
 (2 : Nat)
 (Sh.int
 IntKind.i64)).dflt
 (0 : Nat)
 (IntKind.i64.wrap
 (gt
 (Sh.int
 IntKind.i16)
 w
 (Int.toNat
 (0 :
 Int))))).set
 (1 : Nat)
 (IntKind.i64.wrap
 (gt
 (Sh.int
 IntKind.i16)
 w
 (Int.toNat
 (1 :
 Int)))))).fst
 (pr2
 ((List.set
 (Sh.arr
 (2 : Nat)
 (Sh.int
 IntKind.i64)).dflt
 (0 : Nat)
 (IntKind.i64.wrap
 (gt
 (Sh.int
 IntKind.i16)
 w
 (Int.toNat
 (0 :
 Int))))).set
 (1 : Nat)
 (IntKind.i64.wrap
 (gt
 (Sh.int
 IntKind.i16)
 w
 (Int.toNat
 (1 :
 Int)))))).snd)),
 ((1294912 : Nat),
 LB.row (26 : Nat)
 (Sh.arr (2 : Nat)
 (Sh.int IntKind.i64))
 (matO a b
 (gt (Sh.int IntKind.i64)
 ((List.set
 (Sh.arr
 (2 : Nat)
 (Sh.int
 IntKind.i64)).dflt
 (0 : Nat)
 (IntKind.i64.wrap
 (gt
 (Sh.int
 IntKind.i16)
 w
 (Int.toNat
 (0 :
 Int))))).set
 (1 : Nat)
 (IntKind.i64.wrap
 (gt
 (Sh.int
 IntKind.i16)
 w
 (Int.toNat
 (1 : Int)))))
 (Int.toNat (0 : Int)))
 (gt (Sh.int IntKind.i64)
 ((List.set
 (Sh.arr
 (2 : Nat)
 (Sh.int
 IntKind.i64)).dflt
 (0 : Nat)
 (IntKind.i64.wrap
 (gt
 (Sh.int
 IntKind.i16)
 w
 (Int.toNat
 (0 :
 Int))))).set
 (1 : Nat)
 (IntKind.i64.wrap
 (gt
 (Sh.int
 IntKind.i16)
 w
 (Int.toNat
 (1 : Int)))))
 (Int.toNat
 (1 : Int))))),
 ((1327680 : Nat),
 LB.row (26 : Nat)
 (Sh.arr (2 : Nat)
 (Sh.int IntKind.i64))
 (matO
 (x0
 ((List.set
 (Sh.arr
 (2 : Nat)
 (Sh.int
 IntKind.u8).sl).dflt
 (0 : Nat) a).set
 (1 : Nat) b))
 (x1
 ((List.set
 (Sh.arr
 (2 : Nat)
 (Sh.int
 IntKind.u8).sl).dflt
 (0 : Nat) a).set
 (1 : Nat) b))
 (pr2
 ((List.set
 (Sh.arr
 (2 : Nat)
 (Sh.int
 IntKind.i64)).dflt
 (0 : Nat)
 (IntKind.i64.wrap
 (gt
 (Sh.int
 IntKind.i16)
 w
 (Int.toNat
 (0 :
 Int))))).set
 (1 : Nat)
 (IntKind.i64.wrap
 (gt
 (Sh.int
 IntKind.i16)
 w
 (Int.toNat
 (1 :
 Int)))))).fst
 (pr2
 ((List.set
 (Sh.arr
 (2 : Nat)
 (Sh.int
 IntKind.i64)).dflt
 (0 : Nat)
 (IntKind.i64.wrap
 (gt
 (Sh.int
 IntKind.i16)
 w
 (Int.toNat
 (0 :
 Int))))).set
 (1 : Nat)
 (IntKind.i64.wrap
 (gt
 (Sh.int
 IntKind.i16)
 w
 (Int.toNat
 (1 :
 Int)))))).snd))]))
 (false = false ∧
 false = false ∧
 Q [SV.bool false]
 [((5 : Nat),
 LB.var
 [SV.arr (2 : Nat)
 (Sh.int IntKind.i16)
 w]),
 ((8 : Nat),
 LB.var
 [SV.arr (2 : Nat)
 (Sh.int IntKind.i64)
 ((List.set
 (Sh.arr
 (2 : Nat)
 (Sh.int
 IntKind.i64)).dflt
 (0 : Nat)
 (IntKind.i64.wrap
 (gt
 (Sh.int
 IntKind.i16)
 w
 (Int.toNat
 (0 :
 Int))))).set
 (1 : Nat)
 (IntKind.i64.wrap
 (gt
 (Sh.int
 IntKind.i16)
 w
 (Int.toNat
 (1 :
 Int)))))]),
 ((1180224 : Nat),
 LB.row (3 : Nat)
 (Sh.int IntKind.i64)
 (cutO a
 (gt (Sh.int IntKind.i64)
 ((List.set
 (Sh.arr
 (2 : Nat)
 (Sh.int
 IntKind.i64)).dflt
 (0 : Nat)
 (IntKind.i64.wrap
 (gt
 (Sh.int
 IntKind.i16)
 w
 (Int.toNat
 (0 :
 Int))))).set
 (1 : Nat)
 (IntKind.i64.wrap
 (gt
 (Sh.int
 IntKind.i16)
 w
 (Int.toNat
 (1 : Int)))))
 (Int.toNat (0 : Int)))
 (gt (Sh.int IntKind.i64)
 ((List.set
 (Sh.arr
 (2 : Nat)
 (Sh.int
 IntKind.i64)).dflt
 (0 : Nat)
 (IntKind.i64.wrap
 (gt
 (Sh.int
 IntKind.i16)
 w
 (Int.toNat
 (0 :
 Int))))).set
 (1 : Nat)
 (IntKind.i64.wrap
 (gt
 (Sh.int
 IntKind.i16)
 w
 (Int.toNat
 (1 : Int)))))
 (Int.toNat
 (1 : Int))))),
 ((1204800 : Nat),
 LB.row (3 : Nat)
 (Sh.int IntKind.i64)
 (cutO a
 (pr2
 ((List.set
 (Sh.arr
 (2 : Nat)
 (Sh.int
 IntKind.i64)).dflt
 (0 : Nat)
 (IntKind.i64.wrap
 (gt
 (Sh.int
 IntKind.i16)
 w
 (Int.toNat
 (0 :
 Int))))).set
 (1 : Nat)
 (IntKind.i64.wrap
 (gt
 (Sh.int
 IntKind.i16)
 w
 (Int.toNat
 (1 :
 Int)))))).fst
 (pr2
 ((List.set
 (Sh.arr
 (2 : Nat)
 (Sh.int
 IntKind.i64)).dflt
 (0 : Nat)
 (IntKind.i64.wrap
 (gt
 (Sh.int
 IntKind.i16)
 w
 (Int.toNat
 (0 :
 Int))))).set
 (1 : Nat)
 (IntKind.i64.wrap
 (gt
 (Sh.int
 IntKind.i16)
 w
 (Int.toNat
 (1 :
 Int)))))).snd)),
 ((1229376 : Nat),
 LB.row (48 : Nat)
 ((Sh.int IntKind.i64).pair
 (Sh.int IntKind.i64))
 (blkO a
 (pr2
 ((List.set
 (Sh.arr
 (2 : Nat)
 (Sh.int
 IntKind.i64)).dflt
 (0 : Nat)
 (IntKind.i64.wrap
 (gt
 (Sh.int
 IntKind.i16)
 w
 (Int.toNat
 (0 :
 Int))))).set
 (1 : Nat)
 (IntKind.i64.wrap
 (gt
 (Sh.int
 IntKind.i16)
 w
 (Int.toNat
 (1 :
 Int)))))).fst
 (pr2
 ((List.set
 (Sh.arr
 (2 : Nat)
 (Sh.int
 IntKind.i64)).dflt
 (0 : Nat)
 (IntKind.i64.wrap
 (gt
 (Sh.int
 IntKind.i16)
 w
 (Int.toNat
 (0 :
 Int))))).set
 (1 : Nat)
 (IntKind.i64.wrap
 (gt
 (Sh.int
 IntKind.i16)
 w
 (Int.toNat
 (1 :
 Int)))))).snd)),
 ((1253952 : Nat),
 LB.row (48 : Nat)
 ((Sh.int IntKind.i64).pair
 (Sh.int IntKind.i64))
 (blkO a
 (pr2
 ((List.set
 (Sh.arr
 (2 : Nat)
 (Sh.int
 IntKind.i64)).dflt
 (0 : Nat)
 (IntKind.i64.wrap
 (gt
 (Sh.int
 IntKind.i16)
 w
 (Int.toNat
 (0 :
 Int))))).set
 (1 : Nat)
 (IntKind.i64.wrap
 (gt
 (Sh.int
 IntKind.i16)
 w
 (Int.toNat
 (1 :
 Int)))))).fst
 (pr2
 ((List.set
 (Sh.arr
 (2 : Nat)
 (Sh.int
 IntKind.i64)).dflt
 (0 : Nat)
 (IntKind.i64.wrap
 (gt
 (Sh.int
 IntKind.i16)
 w
 (Int.toNat
 (0 :
 Int))))).set
 (1 : Nat)
 (IntKind.i64.wrap
 (gt
 (Sh.int
 IntKind.i16)
 w
 (Int.toNat
 (1 :
 Int)))))).snd)),
 ((1294912 : Nat),
 LB.row (26 : Nat)
 (Sh.arr (2 : Nat)
 (Sh.int IntKind.i64))
 (matO a b
 (gt (Sh.int IntKind.i64)
 ((List.set
 (Sh.arr
 (2 : Nat)
 (Sh.int
 IntKind.i64)).dflt
 (0 : Nat)
 (IntKind.i64.wrap
 (gt
 (Sh.int
 IntKind.i16)
 w
 (Int.toNat
 (0 :
 Int))))).set
 (1 : Nat)
 (IntKind.i64.wrap
 (gt
 (Sh.int
 IntKind.i16)
 w
 (Int.toNat
 (1 : Int)))))
 (Int.toNat (0 : Int)))
 (gt (Sh.int IntKind.i64)
 ((List.set
 (Sh.arr
 (2 : Nat)
 (Sh.int
 IntKind.i64)).dflt
 (0 : Nat)
 (IntKind.i64.wrap
 (gt
 (Sh.int
 IntKind.i16)
 w
 (Int.toNat
 (0 :
 Int))))).set
 (1 : Nat)
 (IntKind.i64.wrap
 (gt
 (Sh.int
 IntKind.i16)
 w
 (Int.toNat
 (1 : Int)))))
 (Int.toNat
 (1 : Int))))),
 ((1327680 : Nat),
 LB.row (26 : Nat)
 (Sh.arr (2 : Nat)
 (Sh.int IntKind.i64))
 (matO
 (x0
 ((List.set
 (Sh.arr
 (2 : Nat)
 (Sh.int
 IntKind.u8).sl).dflt
 (0 : Nat) a).set
 (1 : Nat) b))
 (x1
 ((List.set
 (Sh.arr
 (2 : Nat)
 (Sh.int
 IntKind.u8).sl).dflt
 (0 : Nat) a).set
 (1 : Nat) b))
 (pr2
 ((List.set
 (Sh.arr
 (2 : Nat)
 (Sh.int
 IntKind.i64)).dflt
 (0 : Nat)
 (IntKind.i64.wrap
 (gt
 (Sh.int
 IntKind.i16)
 w
 (Int.toNat
 (0 :
 Int))))).set
 (1 : Nat)
 (IntKind.i64.wrap
 (gt
 (Sh.int
 IntKind.i16)
 w
 (Int.toNat
 (1 :
 Int)))))).fst
 (pr2
 ((List.set
 (Sh.arr
 (2 : Nat)
 (Sh.int
 IntKind.i64)).dflt
 (0 : Nat)
 (IntKind.i64.wrap
 (gt
 (Sh.int
 IntKind.i16)
 w
 (Int.toNat
 (0 :
 Int))))).set
 (1 : Nat)
 (IntKind.i64.wrap
 (gt
 (Sh.int
 IntKind.i16)
 w
 (Int.toNat
 (1 :
 Int)))))).snd))]))
 (false = false ∧
 false = false ∧
 false = false ∧
 Q [SV.bool false]
 [((5 : Nat),
 LB.var
 [SV.arr (2 : Nat)
 (Sh.int IntKind.i16) w]),
 ((8 : Nat),
 LB.var
 [SV.arr (2 : Nat)
 (Sh.int IntKind.i64)
 ((List.set
 (Sh.arr (2 : Nat)
 (Sh.int
 IntKind.i64)).dflt
 (0 : Nat)
 (IntKind.i64.wrap
 (gt
 (Sh.int
 IntKind.i16)
 w
 (Int.toNat
 (0 :
 Int))))).set
 (1 : Nat)
 (IntKind.i64.wrap
 (gt (Sh.int IntKind.i16)
 w
 (Int.toNat
 (1 : Int)))))]),
 ((1180224 : Nat),
 LB.row (3 : Nat)
 (Sh.int IntKind.i64)
 (cutO a
 (gt (Sh.int IntKind.i64)
 ((List.set
 (Sh.arr (2 : Nat)
 (Sh.int
 IntKind.i64)).dflt
 (0 : Nat)
 (IntKind.i64.wrap
 (gt
 (Sh.int
 IntKind.i16)
 w
 (Int.toNat
 (0 :
 Int))))).set
 (1 : Nat)
 (IntKind.i64.wrap
 (gt (Sh.int IntKind.i16)
 w
 (Int.toNat
 (1 : Int)))))
 (Int.toNat (0 : Int)))
 (gt (Sh.int IntKind.i64)
 ((List.set
 (Sh.arr (2 : Nat)
 (Sh.int
 IntKind.i64)).dflt
 (0 : Nat)
 (IntKind.i64.wrap
 (gt
 (Sh.int
 IntKind.i16)
 w
 (Int.toNat
 (0 :
 Int))))).set
 (1 : Nat)
 (IntKind.i64.wrap
 (gt (Sh.int IntKind.i16)
 w
 (Int.toNat
 (1 : Int)))))
 (Int.toNat (1 : Int))))),
 ((1204800 : Nat),
 LB.row (3 : Nat)
 (Sh.int IntKind.i64)
 (cutO a
 (pr2
 ((List.set
 (Sh.arr (2 : Nat)
 (Sh.int
 IntKind.i64)).dflt
 (0 : Nat)
 (IntKind.i64.wrap
 (gt
 (Sh.int
 IntKind.i16)
 w
 (Int.toNat
 (0 :
 Int))))).set
 (1 : Nat)
 (IntKind.i64.wrap
 (gt
 (Sh.int IntKind.i16)
 w
 (Int.toNat
 (1 : Int)))))).fst
 (pr2
 ((List.set
 (Sh.arr (2 : Nat)
 (Sh.int
 IntKind.i64)).dflt
 (0 : Nat)
 (IntKind.i64.wrap
 (gt
 (Sh.int
 IntKind.i16)
 w
 (Int.toNat
 (0 :
 Int))))).set
 (1 : Nat)
 (IntKind.i64.wrap
 (gt
 (Sh.int IntKind.i16)
 w
 (Int.toNat
 (1 :
 Int)))))).snd)),
 ((1229376 : Nat),
 LB.row (48 : Nat)
 ((Sh.int IntKind.i64).pair
 (Sh.int IntKind.i64))
 (blkO a
 (pr2
 ((List.set
 (Sh.arr (2 : Nat)
 (Sh.int
 IntKind.i64)).dflt
 (0 : Nat)
 (IntKind.i64.wrap
 (gt
 (Sh.int
 IntKind.i16)
 w
 (Int.toNat
 (0 :
 Int))))).set
 (1 : Nat)
 (IntKind.i64.wrap
 (gt
 (Sh.int IntKind.i16)
 w
 (Int.toNat
 (1 : Int)))))).fst
 (pr2
 ((List.set
 (Sh.arr (2 : Nat)
 (Sh.int
 IntKind.i64)).dflt
 (0 : Nat)
 (IntKind.i64.wrap
 (gt
 (Sh.int
 IntKind.i16)
 w
 (Int.toNat
 (0 :
 Int))))).set
 (1 : Nat)
 (IntKind.i64.wrap
 (gt
 (Sh.int IntKind.i16)
 w
 (Int.toNat
 (1 :
 Int)))))).snd)),
 ((1253952 : Nat),
 LB.row (48 : Nat)
 ((Sh.int IntKind.i64).pair
 (Sh.int IntKind.i64))
 (blkO a
 (pr2
 ((List.set
 (Sh.arr (2 : Nat)
 (Sh.int
 IntKind.i64)).dflt
 (0 : Nat)
 (IntKind.i64.wrap
 (gt
 (Sh.int
 IntKind.i16)
 w
 (Int.toNat
 (0 :
 Int))))).set
 (1 : Nat)
 (IntKind.i64.wrap
 (gt
 (Sh.int IntKind.i16)
 w
 (Int.toNat
 (1 : Int)))))).fst
 (pr2
 ((List.set
 (Sh.arr (2 : Nat)
 (Sh.int
 IntKind.i64)).dflt
 (0 : Nat)
 (IntKind.i64.wrap
 (gt
 (Sh.int
 IntKind.i16)
 w
 (Int.toNat
 (0 :
 Int))))).set
 (1 : Nat)
 (IntKind.i64.wrap
 (gt
 (Sh.int IntKind.i16)
 w
 (Int.toNat
 (1 :
 Int)))))).snd)),
 ((1294912 : Nat),
 LB.row (26 : Nat)
 (Sh.arr (2 : Nat)
 (Sh.int IntKind.i64))
 (matO a b
 (gt (Sh.int IntKind.i64)
 ((List.set
 (Sh.arr (2 : Nat)
 (Sh.int
 IntKind.i64)).dflt
 (0 : Nat)
 (IntKind.i64.wrap
 (gt
 (Sh.int
 IntKind.i16)
 w
 (Int.toNat
 (0 :
 Int))))).set
 (1 : Nat)
 (IntKind.i64.wrap
 (gt (Sh.int IntKind.i16)
 w
 (Int.toNat
 (1 : Int)))))
 (Int.toNat (0 : Int)))
 (gt (Sh.int IntKind.i64)
 ((List.set
 (Sh.arr (2 : Nat)
 (Sh.int
 IntKind.i64)).dflt
 (0 : Nat)
 (IntKind.i64.wrap
 (gt
 (Sh.int
 IntKind.i16)
 w
 (Int.toNat
 (0 :
 Int))))).set
 (1 : Nat)
 (IntKind.i64.wrap
 (gt (Sh.int IntKind.i16)
 w
 (Int.toNat
 (1 : Int)))))
 (Int.toNat (1 : Int))))),
 ((1327680 : Nat),
 LB.row (26 : Nat)
 (Sh.arr (2 : Nat)
 (Sh.int IntKind.i64))
 (matO
 (x0
 ((List.set
 (Sh.arr (2 : Nat)
 (Sh.int
 IntKind.u8).sl).dflt
 (0 : Nat) a).set
 (1 : Nat) b))
 (x1
 ((List.set
 (Sh.arr (2 : Nat)
 (Sh.int
 IntKind.u8).sl).dflt
 (0 : Nat) a).set
 (1 : Nat) b))
 (pr2
 ((List.set
 (Sh.arr (2 : Nat)
 (Sh.int
 IntKind.i64)).dflt
 (0 : Nat)
 (IntKind.i64.wrap
 (gt
 (Sh.int
 IntKind.i16)
 w
 (Int.toNat
 (0 :
 Int))))).set
 (1 : Nat)
 (IntKind.i64.wrap
 (gt
 (Sh.int IntKind.i16)
 w
 (Int.toNat
 (1 : Int)))))).fst
 (pr2
 ((List.set
 (Sh.arr (2 : Nat)
 (Sh.int
 IntKind.i64)).dflt
 (0 : Nat)
 (IntKind.i64.wrap
 (gt
 (Sh.int
 IntKind.i16)
 w
 (Int.toNat
 (0 :
 Int))))).set
 (1 : Nat)
 (IntKind.i64.wrap
 (gt
 (Sh.int IntKind.i16)
 w
 (Int.toNat
 (1 :
 Int)))))).snd))]))
 (false = false ∧
 false = false ∧
 false = false ∧
 false = false ∧
 Q [SV.bool false]
 [((5 : Nat),
 LB.var
 [SV.arr (2 : Nat)
 (Sh.int IntKind.i16) w]),
 ((8 : Nat),
 LB.var
 [SV.arr (2 : Nat)
 (Sh.int IntKind.i64)
 ((List.set
 (Sh.arr (2 : Nat)
 (Sh.int
 IntKind.i64)).dflt
 (0 : Nat)
 (IntKind.i64.wrap
 (gt
 (Sh.int
 IntKind.i16)
 w
 (Int.toNat
 (0 :
 Int))))).set
 (1 : Nat)
 (IntKind.i64.wrap
 (gt (Sh.int IntKind.i16)
 w
 (Int.toNat
 (1 : Int)))))]),
 ((1180224 : Nat),
 LB.row (3 : Nat)
 (Sh.int IntKind.i64)
 (cutO a
 (gt (Sh.int IntKind.i64)
 ((List.set
 (Sh.arr (2 : Nat)
 (Sh.int
 IntKind.i64)).dflt
 (0 : Nat)
 (IntKind.i64.wrap
 (gt
 (Sh.int
 IntKind.i16)
 w
 (Int.toNat
 (0 :
 Int))))).set
 (1 : Nat)
 (IntKind.i64.wrap
 (gt (Sh.int IntKind.i16)
 w
 (Int.toNat
 (1 : Int)))))
 (Int.toNat (0 : Int)))
 (gt (Sh.int IntKind.i64)
 ((List.set
 (Sh.arr (2 : Nat)
 (Sh.int
 IntKind.i64)).dflt
 (0 : Nat)
 (IntKind.i64.wrap
 (gt
 (Sh.int
 IntKind.i16)
 w
 (Int.toNat
 (0 :
 Int))))).set
 (1 : Nat)
 (IntKind.i64.wrap
 (gt (Sh.int IntKind.i16)
 w
 (Int.toNat
 (1 : Int)))))
 (Int.toNat (1 : Int))))),
 ((1204800 : Nat),
 LB.row (3 : Nat)
 (Sh.int IntKind.i64)
 (cutO a
 (pr2
 ((List.set
 (Sh.arr (2 : Nat)
 (Sh.int
 IntKind.i64)).dflt
 (0 : Nat)
 (IntKind.i64.wrap
 (gt
 (Sh.int
 IntKind.i16)
 w
 (Int.toNat
 (0 :
 Int))))).set
 (1 : Nat)
 (IntKind.i64.wrap
 (gt
 (Sh.int IntKind.i16)
 w
 (Int.toNat
 (1 : Int)))))).fst
 (pr2
 ((List.set
 (Sh.arr (2 : Nat)
 (Sh.int
 IntKind.i64)).dflt
 (0 : Nat)
 (IntKind.i64.wrap
 (gt
 (Sh.int
 IntKind.i16)
 w
 (Int.toNat
 (0 :
 Int))))).set
 (1 : Nat)
 (IntKind.i64.wrap
 (gt
 (Sh.int IntKind.i16)
 w
 (Int.toNat
 (1 :
 Int)))))).snd)),
 ((1229376 : Nat),
 LB.row (48 : Nat)
 ((Sh.int IntKind.i64).pair
 (Sh.int IntKind.i64))
 (blkO a
 (pr2
 ((List.set
 (Sh.arr (2 : Nat)
 (Sh.int
 IntKind.i64)).dflt
 (0 : Nat)
 (IntKind.i64.wrap
 (gt
 (Sh.int
 IntKind.i16)
 w
 (Int.toNat
 (0 :
 Int))))).set
 (1 : Nat)
 (IntKind.i64.wrap
 (gt
 (Sh.int IntKind.i16)
 w
 (Int.toNat
 (1 : Int)))))).fst
 (pr2
 ((List.set
 (Sh.arr (2 : Nat)
 (Sh.int
 IntKind.i64)).dflt
 (0 : Nat)
 (IntKind.i64.wrap
 (gt
 (Sh.int
 IntKind.i16)
 w
 (Int.toNat
 (0 :
 Int))))).set
 (1 : Nat)
 (IntKind.i64.wrap
 (gt
 (Sh.int IntKind.i16)
 w
 (Int.toNat
 (1 :
 Int)))))).snd)),
 ((1253952 : Nat),
 LB.row (48 : Nat)
 ((Sh.int IntKind.i64).pair
 (Sh.int IntKind.i64))
 (blkO a
 (pr2
 ((List.set
 (Sh.arr (2 : Nat)
 (Sh.int
 IntKind.i64)).dflt
 (0 : Nat)
 (IntKind.i64.wrap
 (gt
 (Sh.int
 IntKind.i16)
 w
 (Int.toNat
 (0 :
 Int))))).set
 (1 : Nat)
 (IntKind.i64.wrap
 (gt
 (Sh.int IntKind.i16)
 w
 (Int.toNat
 (1 : Int)))))).fst
 (pr2
 ((List.set
 (Sh.arr (2 : Nat)
 (Sh.int
 IntKind.i64)).dflt
 (0 : Nat)
 (IntKind.i64.wrap
 (gt
 (Sh.int
 IntKind.i16)
 w
 (Int.toNat
 (0 :
 Int))))).set
 (1 : Nat)
 (IntKind.i64.wrap
 (gt
 (Sh.int IntKind.i16)
 w
 (Int.toNat
 (1 :
 Int)))))).snd)),
 ((1294912 : Nat),
 LB.row (26 : Nat)
 (Sh.arr (2 : Nat)
 (Sh.int IntKind.i64))
 (matO a b
 (gt (Sh.int IntKind.i64)
 ((List.set
 (Sh.arr (2 : Nat)
 (Sh.int
 IntKind.i64)).dflt
 (0 : Nat)
 (IntKind.i64.wrap
 (gt
 (Sh.int
 IntKind.i16)
 w
 (Int.toNat
 (0 :
 Int))))).set
 (1 : Nat)
 (IntKind.i64.wrap
 (gt (Sh.int IntKind.i16)
 w
 (Int.toNat
 (1 : Int)))))
 (Int.toNat (0 : Int)))
 (gt (Sh.int IntKind.i64)
 ((List.set
 (Sh.arr (2 : Nat)
 (Sh.int
 IntKind.i64)).dflt
 (0 : Nat)
 (IntKind.i64.wrap
 (gt
 (Sh.int
 IntKind.i16)
 w
 (Int.toNat
 (0 :
 Int))))).set
 (1 : Nat)
 (IntKind.i64.wrap
 (gt (Sh.int IntKind.i16)
 w
 (Int.toNat
 (1 : Int)))))
 (Int.toNat (1 : Int))))),
 ((1327680 : Nat),
 LB.row (26 : Nat)
 (Sh.arr (2 : Nat)
 (Sh.int IntKind.i64))
 (matO
 (x0
 ((List.set
 (Sh.arr (2 : Nat)
 (Sh.int
 IntKind.u8).sl).dflt
 (0 : Nat) a).set
 (1 : Nat) b))
 (x1
 ((List.set
 (Sh.arr (2 : Nat)
 (Sh.int
 IntKind.u8).sl).dflt
 (0 : Nat) a).set
 (1 : Nat) b))
 (pr2
 ((List.set
 (Sh.arr (2 : Nat)
 (Sh.int
 IntKind.i64)).dflt
 (0 : Nat)
 (IntKind.i64.wrap
 (gt
 (Sh.int
 IntKind.i16)
 w
 (Int.toNat
 (0 :
 Int))))).set
 (1 : Nat)
 (IntKind.i64.wrap
 (gt
 (Sh.int IntKind.i16)
 w
 (Int.toNat
 (1 : Int)))))).fst
 (pr2
 ((List.set
 (Sh.arr (2 : Nat)
 (Sh.int
 IntKind.i64)).dflt
 (0 : Nat)
 (IntKind.i64.wrap
 (gt
 (Sh.int
 IntKind.i16)
 w
 (Int.toNat
 (0 :
 Int))))).set
 (1 : Nat)
 (IntKind.i64.wrap
 (gt
 (Sh.int IntKind.i16)
 w
 (Int.toNat
 (1 :
 Int)))))).snd))]))
 (false = false ∧
 false = false ∧
 false = false ∧
 false = false ∧
 false = false ∧
 Q [SV.bool false]
 [((5 : Nat),
 LB.var
 [SV.arr (2 : Nat) (Sh.int IntKind.i16)
 w]),
 ((8 : Nat),
 LB.var
 [SV.arr (2 : Nat) (Sh.int IntKind.i64)
 ((List.set
 (Sh.arr (2 : Nat)
 (Sh.int
 IntKind.i64)).dflt
 (0 : Nat)
 (IntKind.i64.wrap
 (gt (Sh.int IntKind.i16) w
 (Int.toNat
 (0 : Int))))).set
 (1 : Nat)
 (IntKind.i64.wrap
 (gt (Sh.int IntKind.i16) w
 (Int.toNat (1 : Int)))))]),
 ((1180224 : Nat),
 LB.row (3 : Nat) (Sh.int IntKind.i64)
 (cutO a
 (gt (Sh.int IntKind.i64)
 ((List.set
 (Sh.arr (2 : Nat)
 (Sh.int
 IntKind.i64)).dflt
 (0 : Nat)
 (IntKind.i64.wrap
 (gt (Sh.int IntKind.i16) w
 (Int.toNat
 (0 : Int))))).set
 (1 : Nat)
 (IntKind.i64.wrap
 (gt (Sh.int IntKind.i16) w
 (Int.toNat (1 : Int)))))
 (Int.toNat (0 : Int)))
 (gt (Sh.int IntKind.i64)
 ((List.set
 (Sh.arr (2 : Nat)
 (Sh.int
 IntKind.i64)).dflt
 (0 : Nat)
 (IntKind.i64.wrap
 (gt (Sh.int IntKind.i16) w
 (Int.toNat
 (0 : Int))))).set
 (1 : Nat)
 (IntKind.i64.wrap
 (gt (Sh.int IntKind.i16) w
 (Int.toNat (1 : Int)))))
 (Int.toNat (1 : Int))))),
 ((1204800 : Nat),
 LB.row (3 : Nat) (Sh.int IntKind.i64)
 (cutO a
 (pr2
 ((List.set
 (Sh.arr (2 : Nat)
 (Sh.int
 IntKind.i64)).dflt
 (0 : Nat)
 (IntKind.i64.wrap
 (gt (Sh.int IntKind.i16)
 w
 (Int.toNat
 (0 : Int))))).set
 (1 : Nat)
 (IntKind.i64.wrap
 (gt (Sh.int IntKind.i16) w
 (Int.toNat
 (1 : Int)))))).fst
 (pr2
 ((List.set
 (Sh.arr (2 : Nat)
 (Sh.int
 IntKind.i64)).dflt
 (0 : Nat)
 (IntKind.i64.wrap
 (gt (Sh.int IntKind.i16)
 w
 (Int.toNat
 (0 : Int))))).set
 (1 : Nat)
 (IntKind.i64.wrap
 (gt (Sh.int IntKind.i16) w
 (Int.toNat
 (1 : Int)))))).snd)),
 ((1229376 : Nat),
 LB.row (48 : Nat)
 ((Sh.int IntKind.i64).pair
 (Sh.int IntKind.i64))
 (blkO a
 (pr2
 ((List.set
 (Sh.arr (2 : Nat)
 (Sh.int
 IntKind.i64)).dflt
 (0 : Nat)
 (IntKind.i64.wrap
 (gt (Sh.int IntKind.i16)
 w
 (Int.toNat
 (0 : Int))))).set
 (1 : Nat)
 (IntKind.i64.wrap
 (gt (Sh.int IntKind.i16) w
 (Int.toNat
 (1 : Int)))))).fst
 (pr2
 ((List.set
 (Sh.arr (2 : Nat)
 (Sh.int
 IntKind.i64)).dflt
 (0 : Nat)
 (IntKind.i64.wrap
 (gt (Sh.int IntKind.i16)
 w
 (Int.toNat
 (0 : Int))))).set
 (1 : Nat)
 (IntKind.i64.wrap
 (gt (Sh.int IntKind.i16) w
 (Int.toNat
 (1 : Int)))))).snd)),
 ((1253952 : Nat),
 LB.row (48 : Nat)
 ((Sh.int IntKind.i64).pair
 (Sh.int IntKind.i64))
 (blkO a
 (pr2
 ((List.set
 (Sh.arr (2 : Nat)
 (Sh.int
 IntKind.i64)).dflt
 (0 : Nat)
 (IntKind.i64.wrap
 (gt (Sh.int IntKind.i16)
 w
 (Int.toNat
 (0 : Int))))).set
 (1 : Nat)
 (IntKind.i64.wrap
 (gt (Sh.int IntKind.i16) w
 (Int.toNat
 (1 : Int)))))).fst
 (pr2
 ((List.set
 (Sh.arr (2 : Nat)
 (Sh.int
 IntKind.i64)).dflt
 (0 : Nat)
 (IntKind.i64.wrap
 (gt (Sh.int IntKind.i16)
 w
 (Int.toNat
 (0 : Int))))).set
 (1 : Nat)
 (IntKind.i64.wrap
 (gt (Sh.int IntKind.i16) w
 (Int.toNat
 (1 : Int)))))).snd)),
 ((1294912 : Nat),
 LB.row (26 : Nat)
 (Sh.arr (2 : Nat)
 (Sh.int IntKind.i64))
 (matO a b
 (gt (Sh.int IntKind.i64)
 ((List.set
 (Sh.arr (2 : Nat)
 (Sh.int
 IntKind.i64)).dflt
 (0 : Nat)
 (IntKind.i64.wrap
 (gt (Sh.int IntKind.i16) w
 (Int.toNat
 (0 : Int))))).set
 (1 : Nat)
 (IntKind.i64.wrap
 (gt (Sh.int IntKind.i16) w
 (Int.toNat (1 : Int)))))
 (Int.toNat (0 : Int)))
 (gt (Sh.int IntKind.i64)
 ((List.set
 (Sh.arr (2 : Nat)
 (Sh.int
 IntKind.i64)).dflt
 (0 : Nat)
 (IntKind.i64.wrap
 (gt (Sh.int IntKind.i16) w
 (Int.toNat
 (0 : Int))))).set
 (1 : Nat)
 (IntKind.i64.wrap
 (gt (Sh.int IntKind.i16) w
 (Int.toNat (1 : Int)))))
 (Int.toNat (1 : Int))))),
 ((1327680 : Nat),
 LB.row (26 : Nat)
 (Sh.arr (2 : Nat)
 (Sh.int IntKind.i64))
 (matO
 (x0
 ((List.set
 (Sh.arr (2 : Nat)
 (Sh.int
 IntKind.u8).sl).dflt
 (0 : Nat) a).set
 (1 : Nat) b))
 (x1
 ((List.set
 (Sh.arr (2 : Nat)
 (Sh.int
 IntKind.u8).sl).dflt
 (0 : Nat) a).set
 (1 : Nat) b))
 (pr2
 ((List.set
 (Sh.arr (2 : Nat)
 (Sh.int
 IntKind.i64)).dflt
 (0 : Nat)
 (IntKind.i64.wrap
 (gt (Sh.int IntKind.i16)
 w
 (Int.toNat
 (0 : Int))))).set
 (1 : Nat)
 (IntKind.i64.wrap
 (gt (Sh.int IntKind.i16) w
 (Int.toNat
 (1 : Int)))))).fst
 (pr2
 ((List.set
 (Sh.arr (2 : Nat)
 (Sh.int
 IntKind.i64)).dflt
 (0 : Nat)
 (IntKind.i64.wrap
 (gt (Sh.int IntKind.i16)
 w
 (Int.toNat
 (0 : Int))))).set
 (1 : Nat)
 (IntKind.i64.wrap
 (gt (Sh.int IntKind.i16) w
 (Int.toNat
 (1 : Int)))))).snd))]))
 (false = false ∧
 false = false ∧
 false = false ∧
 false = false ∧
 false = false ∧
 false = false ∧
 Q [SV.bool false]
 [((5 : Nat),
 LB.var
 [SV.arr (2 : Nat) (Sh.int IntKind.i16)
 w]),
 ((8 : Nat),
 LB.var
 [SV.arr (2 : Nat) (Sh.int IntKind.i64)
 ((List.set
 (Sh.arr (2 : Nat)
 (Sh.int
 IntKind.i64)).dflt
 (0 : Nat)
 (IntKind.i64.wrap
 (gt (Sh.int IntKind.i16) w
 (Int.toNat
 (0 : Int))))).set
 (1 : Nat)
 (IntKind.i64.wrap
 (gt (Sh.int IntKind.i16) w
 (Int.toNat (1 : Int)))))]),
 ((1180224 : Nat),
 LB.row (3 : Nat) (Sh.int IntKind.i64)
 (cutO a
 (gt (Sh.int IntKind.i64)
 ((List.set
 (Sh.arr (2 : Nat)
 (Sh.int
 IntKind.i64)).dflt
 (0 : Nat)
 (IntKind.i64.wrap
 (gt (Sh.int IntKind.i16) w
 (Int.toNat
 (0 : Int))))).set
 (1 : Nat)
 (IntKind.i64.wrap
 (gt (Sh.int IntKind.i16) w
 (Int.toNat (1 : Int)))))
 (Int.toNat (0 : Int)))
 (gt (Sh.int IntKind.i64)
 ((List.set
 (Sh.arr (2 : Nat)
 (Sh.int
 IntKind.i64)).dflt
 (0 : Nat)
 (IntKind.i64.wrap
 (gt (Sh.int IntKind.i16) w
 (Int.toNat
 (0 : Int))))).set
 (1 : Nat)
 (IntKind.i64.wrap
 (gt (Sh.int IntKind.i16) w
 (Int.toNat (1 : Int)))))
 (Int.toNat (1 : Int))))),
 ((1204800 : Nat),
 LB.row (3 : Nat) (Sh.int IntKind.i64)
 (cutO a
 (pr2
 ((List.set
 (Sh.arr (2 : Nat)
 (Sh.int
 IntKind.i64)).dflt
 (0 : Nat)
 (IntKind.i64.wrap
 (gt (Sh.int IntKind.i16)
 w
 (Int.toNat
 (0 : Int))))).set
 (1 : Nat)
 (IntKind.i64.wrap
 (gt (Sh.int IntKind.i16) w
 (Int.toNat
 (1 : Int)))))).fst
 (pr2
 ((List.set
 (Sh.arr (2 : Nat)
 (Sh.int
 IntKind.i64)).dflt
 (0 : Nat)
 (IntKind.i64.wrap
 (gt (Sh.int IntKind.i16)
 w
 (Int.toNat
 (0 : Int))))).set
 (1 : Nat)
 (IntKind.i64.wrap
 (gt (Sh.int IntKind.i16) w
 (Int.toNat
 (1 : Int)))))).snd)),
 ((1229376 : Nat),
 LB.row (48 : Nat)
 ((Sh.int IntKind.i64).pair
 (Sh.int IntKind.i64))
 (blkO a
 (pr2
 ((List.set
 (Sh.arr (2 : Nat)
 (Sh.int
 IntKind.i64)).dflt
 (0 : Nat)
 (IntKind.i64.wrap
 (gt (Sh.int IntKind.i16)
 w
 (Int.toNat
 (0 : Int))))).set
 (1 : Nat)
 (IntKind.i64.wrap
 (gt (Sh.int IntKind.i16) w
 (Int.toNat
 (1 : Int)))))).fst
 (pr2
 ((List.set
 (Sh.arr (2 : Nat)
 (Sh.int
 IntKind.i64)).dflt
 (0 : Nat)
 (IntKind.i64.wrap
 (gt (Sh.int IntKind.i16)
 w
 (Int.toNat
 (0 : Int))))).set
 (1 : Nat)
 (IntKind.i64.wrap
 (gt (Sh.int IntKind.i16) w
 (Int.toNat
 (1 : Int)))))).snd)),
 ((1253952 : Nat),
 LB.row (48 : Nat)
 ((Sh.int IntKind.i64).pair
 (Sh.int IntKind.i64))
 (blkO a
 (pr2
 ((List.set
 (Sh.arr (2 : Nat)
 (Sh.int
 IntKind.i64)).dflt
 (0 : Nat)
 (IntKind.i64.wrap
 (gt (Sh.int IntKind.i16)
 w
 (Int.toNat
 (0 : Int))))).set
 (1 : Nat)
 (IntKind.i64.wrap
 (gt (Sh.int IntKind.i16) w
 (Int.toNat
 (1 : Int)))))).fst
 (pr2
 ((List.set
 (Sh.arr (2 : Nat)
 (Sh.int
 IntKind.i64)).dflt
 (0 : Nat)
 (IntKind.i64.wrap
 (gt (Sh.int IntKind.i16)
 w
 (Int.toNat
 (0 : Int))))).set
 (1 : Nat)
 (IntKind.i64.wrap
 (gt (Sh.int IntKind.i16) w
 (Int.toNat
 (1 : Int)))))).snd)),
 ((1294912 : Nat),
 LB.row (26 : Nat)
 (Sh.arr (2 : Nat)
 (Sh.int IntKind.i64))
 (matO a b
 (gt (Sh.int IntKind.i64)
 ((List.set
 (Sh.arr (2 : Nat)
 (Sh.int
 IntKind.i64)).dflt
 (0 : Nat)
 (IntKind.i64.wrap
 (gt (Sh.int IntKind.i16) w
 (Int.toNat
 (0 : Int))))).set
 (1 : Nat)
 (IntKind.i64.wrap
 (gt (Sh.int IntKind.i16) w
 (Int.toNat (1 : Int)))))
 (Int.toNat (0 : Int)))
 (gt (Sh.int IntKind.i64)
 ((List.set
 (Sh.arr (2 : Nat)
 (Sh.int
 IntKind.i64)).dflt
 (0 : Nat)
 (IntKind.i64.wrap
 (gt (Sh.int IntKind.i16) w
 (Int.toNat
 (0 : Int))))).set
 (1 : Nat)
 (IntKind.i64.wrap
 (gt (Sh.int IntKind.i16) w
 (Int.toNat (1 : Int)))))
 (Int.toNat (1 : Int))))),
 ((1327680 : Nat),
 LB.row (26 : Nat)
 (Sh.arr (2 : Nat)
 (Sh.int IntKind.i64))
 (matO
 (x0
 ((List.set
 (Sh.arr (2 : Nat)
 (Sh.int
 IntKind.u8).sl).dflt
 (0 : Nat) a).set
 (1 : Nat) b))
 (x1
 ((List.set
 (Sh.arr (2 : Nat)
 (Sh.int
 IntKind.u8).sl).dflt
 (0 : Nat) a).set
 (1 : Nat) b))
 (pr2
 ((List.set
 (Sh.arr (2 : Nat)
 (Sh.int
 IntKind.i64)).dflt
 (0 : Nat)
 (IntKind.i64.wrap
 (gt (Sh.int IntKind.i16)
 w
 (Int.toNat
 (0 : Int))))).set
 (1 : Nat)
 (IntKind.i64.wrap
 (gt (Sh.int IntKind.i16) w
 (Int.toNat
 (1 : Int)))))).fst
 (pr2
 ((List.set
 (Sh.arr (2 : Nat)
 (Sh.int
 IntKind.i64)).dflt
 (0 : Nat)
 (IntKind.i64.wrap
 (gt (Sh.int IntKind.i16)
 w
 (Int.toNat
 (0 : Int))))).set
 (1 : Nat)
 (IntKind.i64.wrap
 (gt (Sh.int IntKind.i16) w
 (Int.toNat
 (1 : Int)))))).snd))])))) := by kernel_rfl
end Go.Proofs.Ytpdhohkamhmjkaa
namespace Go.Proofs.Ytpdhohkamhmjkaa
open Go.Px Go.Ax
attribute [local irreducible] Go.Px.sy Go.Px.syE
theorem winB {e : Sh} (l : List e.D) : winL e 0 l.length l = l := by
  unfold winL
  rw [List.drop_zero, List.take_length]
theorem eqI_self (l : List Int) : eqI l l = true := decide_eq_true rfl
theorem eqR_self (l : List (Int × Int)) : eqR l l = true := decide_eq_true rfl
theorem eqP_self (l : List (List Int)) : eqP l l = true := decide_eq_true rfl
theorem cutO_len (b : List Int) (l m : Int) : (cutO b l m).length ≤ b.length := Nat.le_trans (cutsL_len _ _) (blkO_len b l m)
theorem matO_len (a b : List Int) (l m : Int) : (matO a b l m).length ≤ b.length := by
  unfold matO
  cases hl : limR l m with
  | false => exact Nat.zero_le _
  | true =>
    have hlim : 4 ≤ l ∧ l ≤ m ∧ m ≤ 4096 := of_decide_eq_true hl
    exact Nat.le_trans (matF_len _ _ _ _) (blksF_len b _ _ (by omega) _ _)
def ctL3 : Ctr := ⟨[slB, slB, .arr 2 (.int .i16)], fun x => bytesOK x.1 ∧ bytesOK x.2.1, fun _ => [.bool true], fun _ => []⟩
set_option maxRecDepth 20000 in
theorem l3_run (a b w : List Int) (ha : bytesOK a) (hb : bytesOK b) (R : List Item → PS → Prop) : sy tt G0 D13 Try.f3.ntmps Try.f3.results.toList (QC ctL3 (a, b, w, ())) R 1000 [.code (bodyOf Try.f3)] (entry [slB, slB, .arr 2 (.int .i16)] (a, b, w, ())) := by
  rw [vc_l3]
  refine ⟨trivial, bc_of (fun h => ⟨rfl, QC.flat rfl rfl rfl⟩) (fun h1 => bc_of (fun h => QC.flat rfl rfl rfl) (fun h2 => ?_))⟩
  have h1 : ¬ (200 : Int) < a.length := of_decide_eq_false h1
  have h2 : ¬ (200 : Int) < b.length := of_decide_eq_false h2
  have pa : preT a := ⟨by omega, ha⟩
  have pb : preT b := ⟨by omega, hb⟩
  have px : ctRm.pre ((List.set (Sh.arr 2 slB).dflt 0 a).set 1 b, ((List.set (Sh.arr 2 (Sh.int .i64)).dflt 0 (IntKind.i64.wrap (gt (Sh.int .i16) w (Int.toNat 0)))).set 1 (IntKind.i64.wrap (gt (Sh.int .i16) w (Int.toNat 1)))), ()) := ⟨pa, pb⟩
  have hx0 : x0 ((List.set (Sh.arr 2 slB).dflt 0 a).set 1 b) = a := rfl
  have hx1 : x1 ((List.set (Sh.arr 2 slB).dflt 0 a).set 1 b) = b := rfl
  revert px
  generalize ((List.set (Sh.arr 2 (Sh.int .i64)).dflt 0 (IntKind.i64.wrap (gt (Sh.int .i16) w (Int.toNat 0)))).set 1 (IntKind.i64.wrap (gt (Sh.int .i16) w (Int.toNat 1)))) = W
  intro px
  have g0 : gt (Sh.int .i64) W (Int.toNat 0) = (pr2 W).1 := rfl
  have g1 : gt (Sh.int .i64) W (Int.toNat 1) = (pr2 W).2 := rfl
  have q1 : preLn (cutO a (pr2 W).1 (pr2 W).2).length := by have := cutO_len a (pr2 W).1 (pr2 W).2; unfold preLn; omega
  have q2 : preLn (blkO a (pr2 W).1 (pr2 W).2).length := by have := blkO_len a (pr2 W).1 (pr2 W).2; unfold preLn; omega
  have q3 : preLn (matO a b (pr2 W).1 (pr2 W).2).length := by have := matO_len a b (pr2 W).1 (pr2 W).2; unfold preLn; omega
  simp only [g0, g1, hx0, hx1, winB, eqI_self, eqR_self, eqP_self, cond_true, bc_t, decide_true]
  repeat' first
    | exact trivial
    | exact pa
    | exact px
    | exact q1
    | exact q2
    | exact q3
    | (show preLn (List.length _); rw [winB]; first | exact q1 | exact q2 | exact q3)
    | exact ⟨pa, pb⟩
    | omega
    | exact QC.flat rfl rfl rfl
    | (refine And.intro ?_ ?_)
theorem l3_held : Held Try.prog G0 3 ctL3 := Held.run dx13 (fn := Try.f3) rfl rfl ⟨by decide, by decide⟩ fun x hp => l3_run x.1 x.2.1 x.2.2.1 hp.1 hp.2 _
end Go.Proofs.Ytpdhohkamhmjkaa
