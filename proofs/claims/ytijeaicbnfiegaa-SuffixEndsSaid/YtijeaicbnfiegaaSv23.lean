/-
  A part of the proof: what a piece of the program gives; conditions: those of each theorem.
-/
import Derived.Test.YtijeaicbnfiegaaSc22
set_option linter.unusedVariables false
namespace Go.Proofs.Ytijeaicbnfiegaa
open Go.Px Go.Ax
set_option maxRecDepth 100000
theorem vc_sortW (m : Nat) (s : List Int) (lo n : Nat) (l : List Int) (p : List (List Int)) (Q : List SV → List (Nat × LB) → Prop) (R : List Item → PS → Prop) : sy tt G0 (D4 m) Try.f35.ntmps Try.f35.results.toList Q R 1000 [.code (bodyOf Try.f35)] (entryI K35 (s, (lo, n, l), ((), ((p, ()), ())), ())) =
    (bc (decide ((↑n : Int) < (2 : Int)))
 (Q []
 [((1099511627776 : Nat), LB.row (3 : Nat) (Sh.int IntKind.i64) s),
 ((1099511627777 : Nat), LB.row (3 : Nat) (Sh.int IntKind.i64) l),
 ((1099511627778 : Nat),
 LB.var [SV.win true (Sh.arr (2 : Nat) (Sh.int IntKind.i64)) (1099511627779 : Nat) (0 : Nat) p.length]),
 ((1099511627779 : Nat), LB.row (45 : Nat) (Sh.arr (2 : Nat) (Sh.int IntKind.i64)) p)])
 ((2 : Int) ≠ (0 : Int) ∧
 (0 : Int) ≤ IntKind.i64.wrap ((↑n : Int).tdiv (2 : Int)) ∧
 IntKind.i64.wrap ((↑n : Int).tdiv (2 : Int)) ≤ (↑n : Int) ∧
 lo + n ≤ l.length ∧
 s.length = s.length ∧
 p.length = p.length ∧
 (ctSort m).pre
 (s, (lo + (0 : Nat), (IntKind.i64.wrap ((↑n : Int).tdiv (2 : Int))).toNat - (0 : Nat), l),
 ((), (p, ()), ()), ()) ∧
 (0 : Int) ≤ IntKind.i64.wrap ((↑n : Int).tdiv (2 : Int)) ∧
 IntKind.i64.wrap ((↑n : Int).tdiv (2 : Int)) ≤ (↑n : Int) ∧
 lo + n ≤
 (putP l (lo + (0 : Nat))
 (lo + (0 : Nat) + ((IntKind.i64.wrap ((↑n : Int).tdiv (2 : Int))).toNat - (0 : Nat)))
 (srtF p s
 (seg l (lo + (0 : Nat))
 ((IntKind.i64.wrap ((↑n : Int).tdiv (2 : Int))).toNat - (0 : Nat)))).snd).length ∧
 s.length =
 (srtF p s
 (seg l (lo + (0 : Nat))
 ((IntKind.i64.wrap ((↑n : Int).tdiv (2 : Int))).toNat - (0 : Nat)))).fst.length ∧
 p.length = p.length ∧
 (ctSort m).pre
 ((srtF p s
 (seg l (lo + (0 : Nat))
 ((IntKind.i64.wrap ((↑n : Int).tdiv (2 : Int))).toNat - (0 : Nat)))).fst,
 (lo + (IntKind.i64.wrap ((↑n : Int).tdiv (2 : Int))).toNat,
 n - (IntKind.i64.wrap ((↑n : Int).tdiv (2 : Int))).toNat,
 putP l (lo + (0 : Nat))
 (lo + (0 : Nat) +
 ((IntKind.i64.wrap ((↑n : Int).tdiv (2 : Int))).toNat - (0 : Nat)))
 (srtF p s
 (seg l (lo + (0 : Nat))
 ((IntKind.i64.wrap ((↑n : Int).tdiv (2 : Int))).toNat - (0 : Nat)))).snd),
 ((), (p, ()), ()), ()) ∧
 (0 : Int) ≤ IntKind.i64.wrap ((↑n : Int).tdiv (2 : Int)) ∧
 IntKind.i64.wrap ((↑n : Int).tdiv (2 : Int)) < (↑n : Int) ∧
 lo + (IntKind.i64.wrap ((↑n : Int).tdiv (2 : Int))).toNat <
 (putP
 (putP l (lo + (0 : Nat))
 (lo + (0 : Nat) +
 ((IntKind.i64.wrap ((↑n : Int).tdiv (2 : Int))).toNat - (0 : Nat)))
 (srtF p s
 (seg l (lo + (0 : Nat))
 ((IntKind.i64.wrap ((↑n : Int).tdiv (2 : Int))).toNat -
 (0 : Nat)))).snd)
 (lo + (IntKind.i64.wrap ((↑n : Int).tdiv (2 : Int))).toNat)
 (lo + (IntKind.i64.wrap ((↑n : Int).tdiv (2 : Int))).toNat +
 (n - (IntKind.i64.wrap ((↑n : Int).tdiv (2 : Int))).toNat))
 (srtF p
 (srtF p s
 (seg l (lo + (0 : Nat))
 ((IntKind.i64.wrap ((↑n : Int).tdiv (2 : Int))).toNat -
 (0 : Nat)))).fst
 (seg
 (putP l (lo + (0 : Nat))
 (lo + (0 : Nat) +
 ((IntKind.i64.wrap ((↑n : Int).tdiv (2 : Int))).toNat - (0 : Nat)))
 (srtF p s
 (seg l (lo + (0 : Nat))
 ((IntKind.i64.wrap ((↑n : Int).tdiv (2 : Int))).toNat -
 (0 : Nat)))).snd)
 (lo + (IntKind.i64.wrap ((↑n : Int).tdiv (2 : Int))).toNat)
 (n - (IntKind.i64.wrap ((↑n : Int).tdiv (2 : Int))).toNat))).snd).length ∧
 (0 : Int) ≤
 IntKind.i64.wrap (IntKind.i64.wrap ((↑n : Int).tdiv (2 : Int)) - (1 : Int)) ∧
 IntKind.i64.wrap (IntKind.i64.wrap ((↑n : Int).tdiv (2 : Int)) - (1 : Int)) <
 (↑n : Int) ∧
 lo +
 (IntKind.i64.wrap
 (IntKind.i64.wrap ((↑n : Int).tdiv (2 : Int)) - (1 : Int))).toNat <
 (putP
 (putP l (lo + (0 : Nat))
 (lo + (0 : Nat) +
 ((IntKind.i64.wrap ((↑n : Int).tdiv (2 : Int))).toNat - (0 : Nat)))
 (srtF p s
 (seg l (lo + (0 : Nat))
 ((IntKind.i64.wrap ((↑n : Int).tdiv (2 : Int))).toNat -
 (0 : Nat)))).snd)
 (lo + (IntKind.i64.wrap ((↑n : Int).tdiv (2 : Int))).toNat)
 (lo + (IntKind.i64.wrap ((↑n : Int).tdiv (2 : Int))).toNat +
 (n - (IntKind.i64.wrap ((↑n : Int).tdiv (2 : Int))).toNat))
 (srtF p
 (srtF p s
 (seg l (lo + (0 : Nat))
 ((IntKind.i64.wrap ((↑n : Int).tdiv (2 : Int))).toNat -
 (0 : Nat)))).fst
 (seg
 (putP l (lo + (0 : Nat))
 (lo + (0 : Nat) +
 ((IntKind.i64.wrap ((↑n : Int).tdiv (2 : Int))).toNat -
 (0 : Nat)))
 (srtF p s
 (seg l (lo + (0 : Nat))
 ((IntKind.i64.wrap ((↑n : Int).tdiv (2 : Int))).toNat -
 (0 : Nat)))).snd)
 (lo + (IntKind.i64.wrap ((↑n : Int).tdiv (2 : Int))).toNat)
 (n -
 (IntKind.i64.wrap
 ((↑n : Int).tdiv (2 : Int))).toNat))).snd).length ∧
 p.length = p.length ∧
 ctPb.pre
 (gt (Sh.int IntKind.i64)
 (putP
 (putP l (lo + (0 : Nat))
 (lo + (0 : Nat) +
 ((IntKind.i64.wrap ((↑n : Int).tdiv (2 : Int))).toNat -
 (0 : Nat)))
 (srtF p s
 (seg l (lo + (0 : Nat))
 ((IntKind.i64.wrap ((↑n : Int).tdiv (2 : Int))).toNat -
 (0 : Nat)))).snd)
 (lo + (IntKind.i64.wrap ((↑n : Int).tdiv (2 : Int))).toNat)
 (lo + (IntKind.i64.wrap ((↑n : Int).tdiv (2 : Int))).toNat +
 (n - (IntKind.i64.wrap ((↑n : Int).tdiv (2 : Int))).toNat))
 (srtF p
 (srtF p s
 (seg l (lo + (0 : Nat))
 ((IntKind.i64.wrap ((↑n : Int).tdiv (2 : Int))).toNat -
 (0 : Nat)))).fst
 (seg
 (putP l (lo + (0 : Nat))
 (lo + (0 : Nat) +
 ((IntKind.i64.wrap ((↑n : Int).tdiv (2 : Int))).toNat -
 (0 : Nat)))
 (srtF p s
 (seg l (lo + (0 : Nat))
 ((IntKind.i64.wrap
 ((↑n : Int).tdiv (2 : Int))).toNat -
 (0 : Nat)))).snd)
 (lo + (IntKind.i64.wrap ((↑n : Int).tdiv (2 : Int))).toNat)
 (n -
 (IntKind.i64.wrap ((↑n : Int).tdiv (2 : Int))).toNat))).snd)
 (lo + (IntKind.i64.wrap ((↑n : Int).tdiv (2 : Int))).toNat),
 gt (Sh.int IntKind.i64)
 (putP
 (putP l (lo + (0 : Nat))
 (lo + (0 : Nat) +
 ((IntKind.i64.wrap ((↑n : Int).tdiv (2 : Int))).toNat -
 (0 : Nat)))
 (srtF p s
 (seg l (lo + (0 : Nat))
 ((IntKind.i64.wrap ((↑n : Int).tdiv (2 : Int))).toNat -
 (0 : Nat)))).snd)
 (lo + (IntKind.i64.wrap ((↑n : Int).tdiv (2 : Int))).toNat)
 (lo + (IntKind.i64.wrap ((↑n : Int).tdiv (2 : Int))).toNat +
 (n - (IntKind.i64.wrap ((↑n : Int).tdiv (2 : Int))).toNat))
 (srtF p
 (srtF p s
 (seg l (lo + (0 : Nat))
 ((IntKind.i64.wrap ((↑n : Int).tdiv (2 : Int))).toNat -
 (0 : Nat)))).fst
 (seg
 (putP l (lo + (0 : Nat))
 (lo + (0 : Nat) +
 ((IntKind.i64.wrap ((↑n : Int).tdiv (2 : Int))).toNat -
 (0 : Nat)))
 (srtF p s
 (seg l (lo + (0 : Nat))
 ((IntKind.i64.wrap
 ((↑n : Int).tdiv (2 : Int))).toNat -
 (0 : Nat)))).snd)
 (lo + (IntKind.i64.wrap ((↑n : Int).tdiv (2 : Int))).toNat)
 (n -
 (IntKind.i64.wrap ((↑n : Int).tdiv (2 : Int))).toNat))).snd)
 (lo +
 (IntKind.i64.wrap
 (IntKind.i64.wrap ((↑n : Int).tdiv (2 : Int)) -
 (1 : Int))).toNat),
 (p, ()), ()) ∧
 bc
 (pbB p
 (gt (Sh.int IntKind.i64)
 (putP
 (putP l (lo + (0 : Nat))
 (lo + (0 : Nat) +
 ((IntKind.i64.wrap ((↑n : Int).tdiv (2 : Int))).toNat -
 (0 : Nat)))
 (srtF p s
 (seg l (lo + (0 : Nat))
 ((IntKind.i64.wrap ((↑n : Int).tdiv (2 : Int))).toNat -
 (0 : Nat)))).snd)
 (lo + (IntKind.i64.wrap ((↑n : Int).tdiv (2 : Int))).toNat)
 (lo + (IntKind.i64.wrap ((↑n : Int).tdiv (2 : Int))).toNat +
 (n - (IntKind.i64.wrap ((↑n : Int).tdiv (2 : Int))).toNat))
 (srtF p
 (srtF p s
 (seg l (lo + (0 : Nat))
 ((IntKind.i64.wrap ((↑n : Int).tdiv (2 : Int))).toNat -
 (0 : Nat)))).fst
 (seg
 (putP l (lo + (0 : Nat))
 (lo + (0 : Nat) +
 ((IntKind.i64.wrap ((↑n : Int).tdiv (2 : Int))).toNat -
 (0 : Nat)))
 (srtF p s
 (seg l (lo + (0 : Nat))
 ((IntKind.i64.wrap
 ((↑n : Int).tdiv (2 : Int))).toNat -
 (0 : Nat)))).snd)
 (lo + (IntKind.i64.wrap ((↑n : Int).tdiv (2 : Int))).toNat)
 (n -
 (IntKind.i64.wrap ((↑n : Int).tdiv (2 : Int))).toNat))).snd)
 (lo + (IntKind.i64.wrap ((↑n : Int).tdiv (2 : Int))).toNat))
 (gt (Sh.int IntKind.i64)
 (putP
 (putP l (lo + (0 : Nat))
 (lo + (0 : Nat) +
 ((IntKind.i64.wrap ((↑n : Int).tdiv (2 : Int))).toNat -
 (0 : Nat)))
 (srtF p s
 (seg l (lo + (0 : Nat))
 ((IntKind.i64.wrap ((↑n : Int).tdiv (2 : Int))).toNat -
 (0 : Nat)))).snd)
 (lo + (IntKind.i64.wrap ((↑n : Int).tdiv (2 : Int))).toNat)
 (lo + (IntKind.i64.wrap ((↑n : Int).tdiv (2 : Int))).toNat +
 (n - (IntKind.i64.wrap ((↑n : Int).tdiv (2 : Int))).toNat))
 (srtF p
 (srtF p s
 (seg l (lo + (0 : Nat))
 ((IntKind.i64.wrap ((↑n : Int).tdiv (2 : Int))).toNat -
 (0 : Nat)))).fst
 (seg
 (putP l (lo + (0 : Nat))
 (lo + (0 : Nat) +
 ((IntKind.i64.wrap ((↑n : Int).tdiv (2 : Int))).toNat -
 (0 : Nat)))
 (srtF p s
 (seg l (lo + (0 : Nat))
 ((IntKind.i64.wrap
 ((↑n : Int).tdiv (2 : Int))).toNat -
 (0 : Nat)))).snd)
 (lo + (IntKind.i64.wrap ((↑n : Int).tdiv (2 : Int))).toNat)
 (n -
 (IntKind.i64.wrap ((↑n : Int).tdiv (2 : Int))).toNat))).snd)
 (lo +
 (IntKind.i64.wrap
 (IntKind.i64.wrap ((↑n : Int).tdiv (2 : Int)) -
 (1 : Int))).toNat)))
 (s.length =
 (srtF p
 (srtF p s
 (seg l (lo + (0 : Nat))
 ((IntKind.i64.wrap ((↑n : Int).tdiv (2 : Int))).toNat -
 (0 : Nat)))).fst
 (seg
 (putP l (lo + (0 : Nat))
 (lo + (0 : Nat) +
 ((IntKind.i64.wrap ((↑n : Int).tdiv (2 : Int))).toNat -
 (0 : Nat)))
 (srtF p s
 (seg l (lo + (0 : Nat))
 ((IntKind.i64.wrap
 ((↑n : Int).tdiv (2 : Int))).toNat -
 (0 : Nat)))).snd)
 (lo + (IntKind.i64.wrap ((↑n : Int).tdiv (2 : Int))).toNat)
 (n -
 (IntKind.i64.wrap
 ((↑n : Int).tdiv (2 : Int))).toNat))).fst.length ∧
 p.length = p.length ∧
 ctMrg.pre
 ((srtF p
 (srtF p s
 (seg l (lo + (0 : Nat))
 ((IntKind.i64.wrap
 ((↑n : Int).tdiv (2 : Int))).toNat -
 (0 : Nat)))).fst
 (seg
 (putP l (lo + (0 : Nat))
 (lo + (0 : Nat) +
 ((IntKind.i64.wrap
 ((↑n : Int).tdiv (2 : Int))).toNat -
 (0 : Nat)))
 (srtF p s
 (seg l (lo + (0 : Nat))
 ((IntKind.i64.wrap
 ((↑n : Int).tdiv (2 : Int))).toNat -
 (0 : Nat)))).snd)
 (lo +
 (IntKind.i64.wrap ((↑n : Int).tdiv (2 : Int))).toNat)
 (n -
 (IntKind.i64.wrap
 ((↑n : Int).tdiv (2 : Int))).toNat))).fst,
 (lo, n,
 putP
 (putP l (lo + (0 : Nat))
 (lo + (0 : Nat) +
 ((IntKind.i64.wrap ((↑n : Int).tdiv (2 : Int))).toNat -
 (0 : Nat)))
 (srtF p s
 (seg l (lo + (0 : Nat))
 ((IntKind.i64.wrap
 ((↑n : Int).tdiv (2 : Int))).toNat -
 (0 : Nat)))).snd)
 (lo + (IntKind.i64.wrap ((↑n : Int).tdiv (2 : Int))).toNat)
 (lo + (IntKind.i64.wrap ((↑n : Int).tdiv (2 : Int))).toNat +
 (n -
 (IntKind.i64.wrap ((↑n : Int).tdiv (2 : Int))).toNat))
 (srtF p
 (srtF p s
 (seg l (lo + (0 : Nat))
 ((IntKind.i64.wrap
 ((↑n : Int).tdiv (2 : Int))).toNat -
 (0 : Nat)))).fst
 (seg
 (putP l (lo + (0 : Nat))
 (lo + (0 : Nat) +
 ((IntKind.i64.wrap
 ((↑n : Int).tdiv (2 : Int))).toNat -
 (0 : Nat)))
 (srtF p s
 (seg l (lo + (0 : Nat))
 ((IntKind.i64.wrap
 ((↑n : Int).tdiv (2 : Int))).toNat -
 (0 : Nat)))).snd)
 (lo +
 (IntKind.i64.wrap
 ((↑n : Int).tdiv (2 : Int))).toNat)
 (n -
 (IntKind.i64.wrap
 ((↑n : Int).tdiv (2 : Int))).toNat))).snd),
 IntKind.i64.wrap ((↑n : Int).tdiv (2 : Int)), ((), (p, ()), ()),
 ()) ∧
 Q []
 [((1099511627776 : Nat),
 LB.row (3 : Nat) (Sh.int IntKind.i64)
 (setRow
 (srtF p
 (srtF p s
 (seg l (lo + (0 : Nat))
 ((IntKind.i64.wrap
 ((↑n : Int).tdiv (2 : Int))).toNat -
 (0 : Nat)))).fst
 (seg
 (putP l (lo + (0 : Nat))
 (lo + (0 : Nat) +
 ((IntKind.i64.wrap
 ((↑n : Int).tdiv (2 : Int))).toNat -
 (0 : Nat)))
 (srtF p s
 (seg l (lo + (0 : Nat))
 ((IntKind.i64.wrap
 ((↑n : Int).tdiv (2 : Int))).toNat -
 (0 : Nat)))).snd)
 (lo +
 (IntKind.i64.wrap
 ((↑n : Int).tdiv (2 : Int))).toNat)
 (n -
 (IntKind.i64.wrap
 ((↑n : Int).tdiv (2 : Int))).toNat))).fst
 (0 : Nat)
 (seg
 (putP
 (putP l (lo + (0 : Nat))
 (lo + (0 : Nat) +
 ((IntKind.i64.wrap
 ((↑n : Int).tdiv (2 : Int))).toNat -
 (0 : Nat)))
 (srtF p s
 (seg l (lo + (0 : Nat))
 ((IntKind.i64.wrap
 ((↑n : Int).tdiv (2 : Int))).toNat -
 (0 : Nat)))).snd)
 (lo +
 (IntKind.i64.wrap
 ((↑n : Int).tdiv (2 : Int))).toNat)
 (lo +
 (IntKind.i64.wrap
 ((↑n : Int).tdiv (2 : Int))).toNat +
 (n -
 (IntKind.i64.wrap
 ((↑n : Int).tdiv (2 : Int))).toNat))
 (srtF p
 (srtF p s
 (seg l (lo + (0 : Nat))
 ((IntKind.i64.wrap
 ((↑n : Int).tdiv (2 : Int))).toNat -
 (0 : Nat)))).fst
 (seg
 (putP l (lo + (0 : Nat))
 (lo + (0 : Nat) +
 ((IntKind.i64.wrap
 ((↑n : Int).tdiv (2 : Int))).toNat -
 (0 : Nat)))
 (srtF p s
 (seg l (lo + (0 : Nat))
 ((IntKind.i64.wrap
 ((↑n : Int).tdiv
 (2 : Int))).toNat -
 (0 : Nat)))).snd)
 (lo +
 (IntKind.i64.wrap
 ((↑n : Int).tdiv (2 : Int))).toNat)
 (n -
 (IntKind.i64.wrap
 ((↑n : Int).tdiv (2 : Int))).toNat))).snd)
 lo
 (IntKind.i64.wrap ((↑n : Int).tdiv (2 : Int))).toNat))),
 ((1099511627777 : Nat),
 LB.row (3 : Nat) (Sh.int IntKind.i64)
 (mrgL lo n
 (putP
 (putP l (lo + (0 : Nat))
 (lo + (0 : Nat) +
 ((IntKind.i64.wrap
 ((↑n : Int).tdiv (2 : Int))).toNat -
 (0 : Nat)))
 (srtF p s
 (seg l (lo + (0 : Nat))
 ((IntKind.i64.wrap
 ((↑n : Int).tdiv (2 : Int))).toNat -
 (0 : Nat)))).snd)
 (lo +
 (IntKind.i64.wrap ((↑n : Int).tdiv (2 : Int))).toNat)
 (lo +
 (IntKind.i64.wrap
 ((↑n : Int).tdiv (2 : Int))).toNat +
 (n -
 (IntKind.i64.wrap
 ((↑n : Int).tdiv (2 : Int))).toNat))
 (srtF p
 (srtF p s
 (seg l (lo + (0 : Nat))
 ((IntKind.i64.wrap
 ((↑n : Int).tdiv (2 : Int))).toNat -
 (0 : Nat)))).fst
 (seg
 (putP l (lo + (0 : Nat))
 (lo + (0 : Nat) +
 ((IntKind.i64.wrap
 ((↑n : Int).tdiv (2 : Int))).toNat -
 (0 : Nat)))
 (srtF p s
 (seg l (lo + (0 : Nat))
 ((IntKind.i64.wrap
 ((↑n : Int).tdiv (2 : Int))).toNat -
 (0 : Nat)))).snd)
 (lo +
 (IntKind.i64.wrap
 ((↑n : Int).tdiv (2 : Int))).toNat)
 (n -
 (IntKind.i64.wrap
 ((↑n : Int).tdiv (2 : Int))).toNat))).snd)
 (IntKind.i64.wrap ((↑n : Int).tdiv (2 : Int))) p)),
 ((1099511627778 : Nat),
 LB.var
 [SV.win true (Sh.arr (2 : Nat) (Sh.int IntKind.i64))
 (1099511627779 : Nat) (0 : Nat) p.length]),
 ((1099511627779 : Nat),
 LB.row (45 : Nat) (Sh.arr (2 : Nat) (Sh.int IntKind.i64)) p)])
 (Q []
 [((1099511627776 : Nat),
 LB.row (3 : Nat) (Sh.int IntKind.i64)
 (srtF p
 (srtF p s
 (seg l (lo + (0 : Nat))
 ((IntKind.i64.wrap ((↑n : Int).tdiv (2 : Int))).toNat -
 (0 : Nat)))).fst
 (seg
 (putP l (lo + (0 : Nat))
 (lo + (0 : Nat) +
 ((IntKind.i64.wrap ((↑n : Int).tdiv (2 : Int))).toNat -
 (0 : Nat)))
 (srtF p s
 (seg l (lo + (0 : Nat))
 ((IntKind.i64.wrap
 ((↑n : Int).tdiv (2 : Int))).toNat -
 (0 : Nat)))).snd)
 (lo + (IntKind.i64.wrap ((↑n : Int).tdiv (2 : Int))).toNat)
 (n -
 (IntKind.i64.wrap
 ((↑n : Int).tdiv (2 : Int))).toNat))).fst),
 ((1099511627777 : Nat),
 LB.row (3 : Nat) (Sh.int IntKind.i64)
 (putP
 (putP l (lo + (0 : Nat))
 (lo + (0 : Nat) +
 ((IntKind.i64.wrap ((↑n : Int).tdiv (2 : Int))).toNat -
 (0 : Nat)))
 (srtF p s
 (seg l (lo + (0 : Nat))
 ((IntKind.i64.wrap ((↑n : Int).tdiv (2 : Int))).toNat -
 (0 : Nat)))).snd)
 (lo + (IntKind.i64.wrap ((↑n : Int).tdiv (2 : Int))).toNat)
 (lo + (IntKind.i64.wrap ((↑n : Int).tdiv (2 : Int))).toNat +
 (n - (IntKind.i64.wrap ((↑n : Int).tdiv (2 : Int))).toNat))
 (srtF p
 (srtF p s
 (seg l (lo + (0 : Nat))
 ((IntKind.i64.wrap
 ((↑n : Int).tdiv (2 : Int))).toNat -
 (0 : Nat)))).fst
 (seg
 (putP l (lo + (0 : Nat))
 (lo + (0 : Nat) +
 ((IntKind.i64.wrap
 ((↑n : Int).tdiv (2 : Int))).toNat -
 (0 : Nat)))
 (srtF p s
 (seg l (lo + (0 : Nat))
 ((IntKind.i64.wrap
 ((↑n : Int).tdiv (2 : Int))).toNat -
 (0 : Nat)))).snd)
 (lo +
 (IntKind.i64.wrap ((↑n : Int).tdiv (2 : Int))).toNat)
 (n -
 (IntKind.i64.wrap
 ((↑n : Int).tdiv (2 : Int))).toNat))).snd)),
 ((1099511627778 : Nat),
 LB.var
 [SV.win true (Sh.arr (2 : Nat) (Sh.int IntKind.i64))
 (1099511627779 : Nat) (0 : Nat) p.length]),
 ((1099511627779 : Nat),
 LB.row (45 : Nat) (Sh.arr (2 : Nat) (Sh.int IntKind.i64)) p)]))) := by kernel_rfl
end Go.Proofs.Ytijeaicbnfiegaa
