/-
  A part of the proof: what a piece of the program gives; conditions: those of each theorem.
-/
import Derived.Test.YtijeaicbnfiegaaSc23
set_option linter.unusedVariables false
namespace Go.Proofs.Ytijeaicbnfiegaa
open Go.Px Go.Ax
set_option maxRecDepth 100000
theorem vc_places (l : List Int) (p : List (List Int)) (Q : List SV → List (Nat × LB) → Prop) (R : List Item → PS → Prop) : sy tt G0 D5 Try.f23.ntmps Try.f23.results.toList Q R 1000 [.code (bodyOf Try.f23)] (entryI K23 (l, ((), ((p, ()), ())), ())) =
    ((2 : Int) ≠ (0 : Int) ∧
 (0 : Int) ≤ IntKind.i64.wrap ((↑l.length : Int).tdiv (2 : Int)) ∧
 IntKind.i64.wrap ((↑l.length : Int).tdiv (2 : Int)) ≤ IntKind.i64.wrap ((↑l.length : Int).tdiv (2 : Int)) ∧
 IntKind.i64.wrap ((↑l.length : Int).tdiv (2 : Int)) < (2 : Int) ^ (24 : Nat) ∧
 (↑(8 : Nat) : Int) * IntKind.i64.wrap ((↑l.length : Int).tdiv (2 : Int)) ≤ (2 : Int) ^ (48 : Nat) ∧
 (IntKind.i64.wrap ((↑l.length : Int).tdiv (2 : Int))).toNat =
 (List.replicate (IntKind.i64.wrap ((↑l.length : Int).tdiv (2 : Int))).toNat
 (Sh.int IntKind.i64).dflt).length ∧
 p.length = p.length ∧
 ctSort'.pre
 (List.replicate (IntKind.i64.wrap ((↑l.length : Int).tdiv (2 : Int))).toNat (Sh.int IntKind.i64).dflt,
 ((0 : Nat), l.length, l), ((), (p, ()), ()), ()) ∧
 Q []
 [((7 : Nat),
 LB.row (3 : Nat) (Sh.int IntKind.i64)
 (srtF p
 (List.replicate (IntKind.i64.wrap ((↑l.length : Int).tdiv (2 : Int))).toNat
 (Sh.int IntKind.i64).dflt)
 (seg l (0 : Nat) l.length)).fst),
 ((1099511627776 : Nat),
 LB.row (3 : Nat) (Sh.int IntKind.i64)
 (putP l (0 : Nat) ((0 : Nat) + l.length)
 (srtF p
 (List.replicate (IntKind.i64.wrap ((↑l.length : Int).tdiv (2 : Int))).toNat
 (Sh.int IntKind.i64).dflt)
 (seg l (0 : Nat) l.length)).snd)),
 ((1099511627777 : Nat),
 LB.var
 [SV.win true (Sh.arr (2 : Nat) (Sh.int IntKind.i64)) (1099511627778 : Nat) (0 : Nat) p.length]),
 ((1099511627778 : Nat), LB.row (45 : Nat) (Sh.arr (2 : Nat) (Sh.int IntKind.i64)) p)]) := by kernel_rfl
end Go.Proofs.Ytijeaicbnfiegaa
