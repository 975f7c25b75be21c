/-
  A part of the proof: what a piece of the program gives; conditions: those of each theorem.
-/
import Derived.Test.YtijeaicbnfiegaaSc9
set_option linter.unusedVariables false
namespace Go.Proofs.Ytijeaicbnfiegaa
open Go.Px Go.Ax
set_option maxRecDepth 100000
theorem vc_ns (k : Int) (b o s : List Int) (n : Int) (Q : List SV → List (Nat × LB) → Prop) (R : List Item → PS → Prop) : sy tt G0 C6 Try.f32.ntmps Try.f32.results.toList Q R 1000 [.code (bodyOf Try.f32)] (entryI K32 (k, (((), ((b, ()), (o, ()), (s, ()), (n, ()), ())), ()), ())) =
    (ctSt.pre (k, (b, ()), (o, ()), (s, ()), (n, ()), ()) ∧
 Q [SV.bool !stB b o s n k]
 [((1099511627776 : Nat),
 LB.var
 [SV.fn (28 : Nat) []
 [SV.ptr (1099511627777 : Nat) (0 : Nat), SV.ptr (1099511627778 : Nat) (0 : Nat),
 SV.ptr (1099511627779 : Nat) (0 : Nat), SV.ptr (1099511627780 : Nat) (0 : Nat)]]),
 ((1099511627777 : Nat), LB.var [SV.sl (Sh.int IntKind.u8) b]),
 ((1099511627778 : Nat), LB.var [SV.sl (Sh.int IntKind.i64) o]),
 ((1099511627779 : Nat), LB.var [SV.sl (Sh.int IntKind.u8) s]),
 ((1099511627780 : Nat), LB.var [SV.int IntKind.i64 n])]) := by kernel_rfl
end Go.Proofs.Ytijeaicbnfiegaa
