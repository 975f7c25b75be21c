/-
  A part of the proof: what a piece of the program gives; conditions: those of each theorem.
-/
import Derived.Test.YtijeaicbnfiegaaSc12
set_option linter.unusedVariables false
namespace Go.Proofs.Ytijeaicbnfiegaa
open Go.Px Go.Ax
abbrev shP : Sh := .arr 2 (.int .i64)
set_option maxRecDepth 100000
theorem vc_isBefore (p q : List Int) (Q : List SV → List (Nat × LB) → Prop) (R : List Item → PS → Prop) : sy tt G0 [] Try.f25.ntmps Try.f25.results.toList Q R 1000 [.code (bodyOf Try.f25)] (entry [shP, shP] (p, q, ())) =
    ((0 : Int) ≤ (0 : Int) ∧
 (0 : Int) < (↑(2 : Nat) : Int) ∧
 Int.toNat (0 : Int) < (2 : Nat) ∧
 (0 : Int) ≤ (0 : Int) ∧
 (0 : Int) < (↑(2 : Nat) : Int) ∧
 Int.toNat (0 : Int) < (2 : Nat) ∧
 bc
 (decide
 (gt (Sh.int IntKind.i64) p (Int.toNat (0 : Int)) ≠ gt (Sh.int IntKind.i64) q (Int.toNat (0 : Int))))
 ((0 : Int) ≤ (0 : Int) ∧
 (0 : Int) < (↑(2 : Nat) : Int) ∧
 Int.toNat (0 : Int) < (2 : Nat) ∧
 (0 : Int) ≤ (0 : Int) ∧
 (0 : Int) < (↑(2 : Nat) : Int) ∧
 Int.toNat (0 : Int) < (2 : Nat) ∧
 Q
 [SV.bool
 (decide
 (gt (Sh.int IntKind.i64) p (Int.toNat (0 : Int)) <
 gt (Sh.int IntKind.i64) q (Int.toNat (0 : Int))))]
 [((2 : Nat), LB.var [SV.arr (2 : Nat) (Sh.int IntKind.i64) p]),
 ((3 : Nat), LB.var [SV.arr (2 : Nat) (Sh.int IntKind.i64) q])])
 ((0 : Int) ≤ (1 : Int) ∧
 (1 : Int) < (↑(2 : Nat) : Int) ∧
 Int.toNat (1 : Int) < (2 : Nat) ∧
 (0 : Int) ≤ (1 : Int) ∧
 (1 : Int) < (↑(2 : Nat) : Int) ∧
 Int.toNat (1 : Int) < (2 : Nat) ∧
 Q
 [SV.bool
 (decide
 (gt (Sh.int IntKind.i64) p (Int.toNat (1 : Int)) <
 gt (Sh.int IntKind.i64) q (Int.toNat (1 : Int))))]
 [((2 : Nat), LB.var [SV.arr (2 : Nat) (Sh.int IntKind.i64) p]),
 ((3 : Nat), LB.var [SV.arr (2 : Nat) (Sh.int IntKind.i64) q])])) := by kernel_rfl
theorem vc_pairs (r : List Int) (n : Int) (Q : List SV → List (Nat × LB) → Prop) (R : List Item → PS → Prop) : sy tt G0 [] Try.f22.ntmps Try.f22.results.toList Q R 1000 [.code (bodyOf Try.f22)] (entry [.sl (.int .i64), .int .i64] (r, n, ())) =
    ((0 : Int) ≤ (↑r.length : Int) ∧
 (↑r.length : Int) ≤ (↑r.length : Int) ∧
 (↑r.length : Int) < (2 : Int) ^ (24 : Nat) ∧
 (↑(16 : Nat) : Int) * (↑r.length : Int) ≤ (2 : Int) ^ (48 : Nat) ∧
 R (hd Try.f22 (0 : Nat))
 {
 env :=
 [((0 : Nat), SV.sl (Sh.int IntKind.i64) r), ((1 : Nat), SV.int IntKind.i64 n), ((4 : Nat), SV.nils),
 ((5 : Nat),
 SV.win true (Sh.arr (2 : Nat) (Sh.int IntKind.i64)) (10 : Nat) (0 : Nat) (↑r.length : Int).toNat),
 ((8 : Nat), SV.sl (Sh.int IntKind.i64) r), ((9 : Nat), SV.int IntKind.i64 (↑r.length : Int)),
 ((10 : Nat),
 SV.win true (Sh.arr (2 : Nat) (Sh.int IntKind.i64)) (10 : Nat) (0 : Nat) (↑r.length : Int).toNat),
 ((11 : Nat), SV.sl (Sh.int IntKind.i64) r), ((12 : Nat), SV.int IntKind.i64 (↑r.length : Int)),
 ((13 : Nat), SV.int IntKind.i64 (0 : Int))],
 blk :=
 [((10 : Nat),
 LB.row (45 : Nat) (Sh.arr (2 : Nat) (Sh.int IntKind.i64))
 (List.replicate (↑r.length : Int).toNat (Sh.arr (2 : Nat) (Sh.int IntKind.i64)).dflt))] }) := by kernel_rfl
theorem vc_ranks (o : List Int) (p : List (List Int)) (Q : List SV → List (Nat × LB) → Prop) (R : List Item → PS → Prop) : sy tt G0 [] Try.f26.ntmps Try.f26.results.toList Q R 1000 [.code (bodyOf Try.f26)] (entry [.sl (.int .i64), .sl shP] (o, p, ())) =
    ((0 : Int) ≤ (↑o.length : Int) ∧
 (↑o.length : Int) ≤ (↑o.length : Int) ∧
 (↑o.length : Int) < (2 : Int) ^ (24 : Nat) ∧
 (↑(8 : Nat) : Int) * (↑o.length : Int) ≤ (2 : Int) ^ (48 : Nat) ∧
 R (hd Try.f26 (0 : Nat))
 {
 env :=
 [((0 : Nat), SV.sl (Sh.int IntKind.i64) o), ((1 : Nat), SV.sl (Sh.arr (2 : Nat) (Sh.int IntKind.i64)) p),
 ((4 : Nat), SV.nils),
 ((5 : Nat), SV.win true (Sh.int IntKind.i64) (11 : Nat) (0 : Nat) (↑o.length : Int).toNat),
 ((6 : Nat), SV.int IntKind.i64 (0 : Int)), ((9 : Nat), SV.sl (Sh.int IntKind.i64) o),
 ((10 : Nat), SV.int IntKind.i64 (↑o.length : Int)),
 ((11 : Nat), SV.win true (Sh.int IntKind.i64) (11 : Nat) (0 : Nat) (↑o.length : Int).toNat),
 ((12 : Nat), SV.sl (Sh.int IntKind.i64) o), ((13 : Nat), SV.int IntKind.i64 (↑o.length : Int)),
 ((14 : Nat), SV.int IntKind.i64 (0 : Int))],
 blk :=
 [((11 : Nat),
 LB.row (3 : Nat) (Sh.int IntKind.i64)
 (List.replicate (↑o.length : Int).toNat (Sh.int IntKind.i64).dflt))] }) := by kernel_rfl
end Go.Proofs.Ytijeaicbnfiegaa
