/-
  A part of the proof: what a piece of the program gives; conditions: those of each theorem.
-/
import Derived.Test.YtijeaicbnfiegaaSc25
set_option linter.unusedVariables false
namespace Go.Proofs.Ytijeaicbnfiegaa
open Go.Px Go.Ax
set_option maxRecDepth 100000
theorem vc_permL (o : List Int) (u : List Bool) (i : Int) (Q : List SV → List (Nat × LB) → Prop) (R : List Item → PS → Prop) : sy tt G0 [] Try.f19.ntmps Try.f19.results.toList Q (fun it S => R it (keepS [0, 3, 4] [7] S)) 1000 (hd Try.f19 0) ⟨[(0, .sl (.int .i64) o), (3, .win true .bool 7 0 u.length), (4, .int .i64 i)], [(7, .row 4 .bool u)]⟩ =
    (bc (decide (i < (↑o.length : Int)))
 ((0 : Int) ≤ i ∧
 i < (↑o.length : Int) ∧
 bc (decide (gt (Sh.int IntKind.i64) o i.toNat < (0 : Int)))
 (true = true ∧ true = true ∧ Q [SV.bool false] [((7 : Nat), LB.row (4 : Nat) Sh.bool u)])
 ((0 : Int) ≤ i ∧
 i < (↑o.length : Int) ∧
 bc (bif false then true else decide ((↑o.length : Int) ≤ gt (Sh.int IntKind.i64) o i.toNat))
 (true = true ∧ Q [SV.bool false] [((7 : Nat), LB.row (4 : Nat) Sh.bool u)])
 ((0 : Int) ≤ i ∧
 i < (↑o.length : Int) ∧
 (0 : Int) ≤ gt (Sh.int IntKind.i64) o i.toNat ∧
 gt (Sh.int IntKind.i64) o i.toNat < (↑u.length : Int) ∧
 (0 : Nat) + Int.toNat (gt (Sh.int IntKind.i64) o i.toNat) < u.length ∧
 bc
 (bif false then true
 else gt Sh.bool u ((0 : Nat) + Int.toNat (gt (Sh.int IntKind.i64) o i.toNat)))
 (Q [SV.bool false] [((7 : Nat), LB.row (4 : Nat) Sh.bool u)])
 ((0 : Int) ≤ i ∧
 i < (↑o.length : Int) ∧
 (0 : Int) ≤ gt (Sh.int IntKind.i64) o i.toNat ∧
 gt (Sh.int IntKind.i64) o i.toNat < (↑u.length : Int) ∧
 (0 : Nat) + Int.toNat (gt (Sh.int IntKind.i64) o i.toNat) < u.length ∧
 R (hd Try.f19 (0 : Nat))
 {
 env :=
 [((0 : Nat), SV.sl (Sh.int IntKind.i64) o),
 ((3 : Nat), SV.win true Sh.bool (7 : Nat) (0 : Nat) u.length),
 ((4 : Nat), SV.int IntKind.i64 (IntKind.i64.wrap (i + (1 : Int))))],
 blk :=
 [((7 : Nat),
 LB.row (4 : Nat) Sh.bool
 (u.set ((0 : Nat) + Int.toNat (gt (Sh.int IntKind.i64) o i.toNat))
 true))] }))))
 (Q [SV.bool true] [((7 : Nat), LB.row (4 : Nat) Sh.bool u)])) := by kernel_rfl
end Go.Proofs.Ytijeaicbnfiegaa
