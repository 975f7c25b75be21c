/-
  A part of the proof: what a piece of the program gives; conditions: those of each theorem.
-/
import Derived.Test.YtijeaicbnfiegaaSc26
set_option linter.unusedVariables false
namespace Go.Proofs.Ytijeaicbnfiegaa
open Go.Px Go.Ax
set_option maxRecDepth 100000
theorem vc_law4 (b : List Int) (Q : List SV → List (Nat × LB) → Prop) (R : List Item → PS → Prop) : sy tt G0 D7 Try.f4.ntmps Try.f4.results.toList Q (fun it S => R it (keepS [3, 4, 5, 6] [1045056] S)) 1000 [.code (bodyOf Try.f4)] (entry [slB] (b, ())) =
    (ctSan.pre () ∧
 ctLimited.pre (b, (400 : Int), ()) ∧
 ctSo.pre (List.take (Int.toNat (400 : Int)) b, ()) ∧
 bc
 (decide
 ((↑(mapI (ordB (List.take (Int.toNat (400 : Int)) b))).length : Int) ≠
 (↑(List.take (Int.toNat (400 : Int)) b).length : Int)))
 (true = true ∧
 Q [SV.bool false]
 [((1045056 : Nat),
 LB.row (3 : Nat) (Sh.int IntKind.i64) (mapI (ordB (List.take (Int.toNat (400 : Int)) b))))])
 ((0 : Nat) + (mapI (ordB (List.take (Int.toNat (400 : Int)) b))).length ≤
 (mapI (ordB (List.take (Int.toNat (400 : Int)) b))).length ∧
 ctIsP.pre
 (winL (Sh.int IntKind.i64) (0 : Nat) (mapI (ordB (List.take (Int.toNat (400 : Int)) b))).length
 (mapI (ordB (List.take (Int.toNat (400 : Int)) b))),
 ()) ∧
 R (hd Try.f4 (0 : Nat))
 {
 env :=
 [((3 : Nat), SV.bool true),
 ((4 : Nat), SV.sl (Sh.int IntKind.u8) (List.take (Int.toNat (400 : Int)) b)),
 ((5 : Nat),
 SV.win true (Sh.int IntKind.i64) (1045056 : Nat) (0 : Nat)
 (mapI (ordB (List.take (Int.toNat (400 : Int)) b))).length),
 ((6 : Nat), SV.int IntKind.i64 (1 : Int))],
 blk :=
 [((1045056 : Nat),
 LB.row (3 : Nat) (Sh.int IntKind.i64) (mapI (ordB (List.take (Int.toNat (400 : Int)) b))))] })) := by kernel_rfl
theorem vc_law4L (x o : List Int) (i : Int) (Q : List SV → List (Nat × LB) → Prop) (R : List Item → PS → Prop) : sy tt G0 D7 Try.f4.ntmps Try.f4.results.toList Q (fun it S => R it (keepS [3, 4, 5, 6] [1045056] S)) 1000 (hd Try.f4 0) ⟨[(3, .bool true), (4, .sl (.int .u8) x), (5, .win true (.int .i64) 1045056 0 o.length), (6, .int .i64 i)], [(1045056, .row 3 (.int .i64) o)]⟩ =
    (bc (decide (i < (↑o.length : Int)))
 ((0 : Int) ≤ IntKind.i64.wrap (i - (1 : Int)) ∧
 IntKind.i64.wrap (i - (1 : Int)) < (↑o.length : Int) ∧
 (0 : Nat) + (IntKind.i64.wrap (i - (1 : Int))).toNat < o.length ∧
 (0 : Int) ≤ gt (Sh.int IntKind.i64) o ((0 : Nat) + (IntKind.i64.wrap (i - (1 : Int))).toNat) ∧
 gt (Sh.int IntKind.i64) o ((0 : Nat) + (IntKind.i64.wrap (i - (1 : Int))).toNat) ≤ (↑x.length : Int) ∧
 (0 : Int) ≤ i ∧
 i < (↑o.length : Int) ∧
 (0 : Nat) + i.toNat < o.length ∧
 (0 : Int) ≤ gt (Sh.int IntKind.i64) o ((0 : Nat) + i.toNat) ∧
 gt (Sh.int IntKind.i64) o ((0 : Nat) + i.toNat) ≤ (↑x.length : Int) ∧
 ctLess.pre
 (List.drop
 (Int.toNat
 (gt (Sh.int IntKind.i64) o ((0 : Nat) + (IntKind.i64.wrap (i - (1 : Int))).toNat)))
 x,
 List.drop (Int.toNat (gt (Sh.int IntKind.i64) o ((0 : Nat) + i.toNat))) x, ()) ∧
 bc
 (!lexLt
 (List.drop
 (Int.toNat
 (gt (Sh.int IntKind.i64) o ((0 : Nat) + (IntKind.i64.wrap (i - (1 : Int))).toNat)))
 x)
 (List.drop (Int.toNat (gt (Sh.int IntKind.i64) o ((0 : Nat) + i.toNat))) x))
 (Q [SV.bool false] [((1045056 : Nat), LB.row (3 : Nat) (Sh.int IntKind.i64) o)])
 (R (hd Try.f4 (0 : Nat))
 {
 env :=
 [((3 : Nat), SV.bool true), ((4 : Nat), SV.sl (Sh.int IntKind.u8) x),
 ((5 : Nat), SV.win true (Sh.int IntKind.i64) (1045056 : Nat) (0 : Nat) o.length),
 ((6 : Nat), SV.int IntKind.i64 (IntKind.i64.wrap (i + (1 : Int))))],
 blk := [((1045056 : Nat), LB.row (3 : Nat) (Sh.int IntKind.i64) o)] }))
 (Q [SV.bool true] [((1045056 : Nat), LB.row (3 : Nat) (Sh.int IntKind.i64) o)])) := by kernel_rfl
end Go.Proofs.Ytijeaicbnfiegaa
