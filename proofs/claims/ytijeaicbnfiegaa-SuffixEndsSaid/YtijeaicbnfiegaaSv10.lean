/-
  A part of the proof: what a piece of the program gives; conditions: those of each theorem.
-/
import Derived.Test.YtijeaicbnfiegaaSc10
set_option linter.unusedVariables false
namespace Go.Proofs.Ytijeaicbnfiegaa
open Go.Px Go.Ax
set_option maxRecDepth 100000
theorem vc_fb (low high : Int) (b o s : List Int) (n : Int) (Q : List SV → List (Nat × LB) → Prop) (R : List Item → PS → Prop) : sy tt G0 C8 Try.f31.ntmps Try.f31.results.toList Q R 1000 [.code (bodyOf Try.f31)] (entryI K31b (low, high, ((), ((((), ((b, ()), (o, ()), (s, ()), (n, ()), ())), ()), ())), ())) =
    (R (hd Try.f31 (0 : Nat))
 {
 env :=
 [((0 : Nat), SV.int IntKind.i64 low), ((1 : Nat), SV.int IntKind.i64 high),
 ((2 : Nat), SV.fn (32 : Nat) [] [SV.ptr (1099511627776 : Nat) (0 : Nat)]),
 ((6 : Nat), SV.int IntKind.i64 (0 : Int))],
 blk :=
 [((1099511627776 : Nat),
 LB.var
 [SV.fn (28 : Nat) []
 [SV.ptr (1099511627777 : Nat) (0 : Nat), SV.ptr (1099511627778 : Nat) (0 : Nat),
 SV.ptr (1099511627779 : Nat) (0 : Nat), SV.ptr (1099511627780 : Nat) (0 : Nat)]]),
 ((1099511627777 : Nat), LB.var [SV.sl (Sh.int IntKind.u8) b]),
 ((1099511627778 : Nat), LB.var [SV.sl (Sh.int IntKind.i64) o]),
 ((1099511627779 : Nat), LB.var [SV.sl (Sh.int IntKind.u8) s]),
 ((1099511627780 : Nat), LB.var [SV.int IntKind.i64 n])] }) := by kernel_rfl
theorem vc_fbL (low high : Int) (b o s : List Int) (n : Int) (Q : List SV → List (Nat × LB) → Prop) (R : List Item → PS → Prop) : sy tt G0 C8 Try.f31.ntmps Try.f31.results.toList Q R 1000 (hd Try.f31 0) ⟨[(0, .int .i64 low), (1, .int .i64 high), (2, .fn 32 [] [.ptr 1099511627776 0])], [(1099511627776, .var [.fn 28 [] [.ptr 1099511627777 0, .ptr 1099511627778 0, .ptr 1099511627779 0, .ptr 1099511627780 0]]), (1099511627777, .var [.sl (.int .u8) b]), (1099511627778, .var [.sl (.int .i64) o]), (1099511627779, .var [.sl (.int .u8) s]), (1099511627780, .var [.int .i64 n])]⟩ =
    (bc (decide (low < high))
 ((2 : Int) ≠ (0 : Int) ∧
 ctNs.pre
 (IntKind.i64.wrap (low + IntKind.i64.wrap ((IntKind.i64.wrap (high - low)).tdiv (2 : Int))),
 (((), (b, ()), (o, ()), (s, ()), (n, ()), ()), ()), ()) ∧
 bc
 (!cap32 stB ((((), (b, ()), (o, ()), (s, ()), (n, ()), ()), ()), ())
 (IntKind.i64.wrap (low + IntKind.i64.wrap ((IntKind.i64.wrap (high - low)).tdiv (2 : Int)))))
 (R (hd Try.f31 (0 : Nat))
 {
 env :=
 [((0 : Nat), SV.int IntKind.i64 low),
 ((1 : Nat),
 SV.int IntKind.i64
 (IntKind.i64.wrap (low + IntKind.i64.wrap ((IntKind.i64.wrap (high - low)).tdiv (2 : Int))))),
 ((2 : Nat), SV.fn (32 : Nat) [] [SV.ptr (1099511627776 : Nat) (0 : Nat)]),
 ((7 : Nat),
 SV.int IntKind.i64
 (IntKind.i64.wrap (low + IntKind.i64.wrap ((IntKind.i64.wrap (high - low)).tdiv (2 : Int))))),
 ((8 : Nat), SV.int IntKind.i64 low), ((9 : Nat), SV.int IntKind.i64 high),
 ((10 : Nat), SV.bool (decide (low < high))), ((11 : Nat), SV.int IntKind.i64 low),
 ((12 : Nat), SV.int IntKind.i64 high), ((13 : Nat), SV.int IntKind.i64 low),
 ((14 : Nat), SV.int IntKind.i64 (IntKind.i64.wrap (high - low))),
 ((15 : Nat), SV.int IntKind.i64 (IntKind.i64.wrap ((IntKind.i64.wrap (high - low)).tdiv (2 : Int)))),
 ((16 : Nat),
 SV.int IntKind.i64
 (IntKind.i64.wrap (low + IntKind.i64.wrap ((IntKind.i64.wrap (high - low)).tdiv (2 : Int))))),
 ((17 : Nat), SV.fn (32 : Nat) [] [SV.ptr (1099511627776 : Nat) (0 : Nat)]),
 ((18 : Nat),
 SV.int IntKind.i64
 (IntKind.i64.wrap (low + IntKind.i64.wrap ((IntKind.i64.wrap (high - low)).tdiv (2 : Int))))),
 ((19 : Nat),
 SV.bool
 !cap32 stB ((((), (b, ()), (o, ()), (s, ()), (n, ()), ()), ()), ())
 (IntKind.i64.wrap (low + IntKind.i64.wrap ((IntKind.i64.wrap (high - low)).tdiv (2 : Int))))),
 ((20 : Nat),
 SV.int IntKind.i64
 (IntKind.i64.wrap (low + IntKind.i64.wrap ((IntKind.i64.wrap (high - low)).tdiv (2 : Int)))))],
 blk :=
 [((1099511627776 : Nat),
 LB.var
 [SV.fn (28 : Nat) []
 [SV.ptr (1099511627777 : Nat) (0 : Nat), SV.ptr (1099511627778 : Nat) (0 : Nat),
 SV.ptr (1099511627779 : Nat) (0 : Nat), SV.ptr (1099511627780 : Nat) (0 : Nat)]]),
 ((1099511627777 : Nat), LB.var [SV.sl (Sh.int IntKind.u8) b]),
 ((1099511627778 : Nat), LB.var [SV.sl (Sh.int IntKind.i64) o]),
 ((1099511627779 : Nat), LB.var [SV.sl (Sh.int IntKind.u8) s]),
 ((1099511627780 : Nat), LB.var [SV.int IntKind.i64 n])] })
 (R (hd Try.f31 (0 : Nat))
 {
 env :=
 [((0 : Nat),
 SV.int IntKind.i64
 (IntKind.i64.wrap
 (IntKind.i64.wrap (low + IntKind.i64.wrap ((IntKind.i64.wrap (high - low)).tdiv (2 : Int))) +
 (1 : Int)))),
 ((1 : Nat), SV.int IntKind.i64 high),
 ((2 : Nat), SV.fn (32 : Nat) [] [SV.ptr (1099511627776 : Nat) (0 : Nat)]),
 ((7 : Nat),
 SV.int IntKind.i64
 (IntKind.i64.wrap (low + IntKind.i64.wrap ((IntKind.i64.wrap (high - low)).tdiv (2 : Int))))),
 ((8 : Nat), SV.int IntKind.i64 low), ((9 : Nat), SV.int IntKind.i64 high),
 ((10 : Nat), SV.bool (decide (low < high))), ((11 : Nat), SV.int IntKind.i64 low),
 ((12 : Nat), SV.int IntKind.i64 high), ((13 : Nat), SV.int IntKind.i64 low),
 ((14 : Nat), SV.int IntKind.i64 (IntKind.i64.wrap (high - low))),
 ((15 : Nat), SV.int IntKind.i64 (IntKind.i64.wrap ((IntKind.i64.wrap (high - low)).tdiv (2 : Int)))),
 ((16 : Nat),
 SV.int IntKind.i64
 (IntKind.i64.wrap (low + IntKind.i64.wrap ((IntKind.i64.wrap (high - low)).tdiv (2 : Int))))),
 ((17 : Nat), SV.fn (32 : Nat) [] [SV.ptr (1099511627776 : Nat) (0 : Nat)]),
 ((18 : Nat),
 SV.int IntKind.i64
 (IntKind.i64.wrap (low + IntKind.i64.wrap ((IntKind.i64.wrap (high - low)).tdiv (2 : Int))))),
 ((19 : Nat),
 SV.bool
 !cap32 stB ((((), (b, ()), (o, ()), (s, ()), (n, ()), ()), ()), ())
 (IntKind.i64.wrap (low + IntKind.i64.wrap ((IntKind.i64.wrap (high - low)).tdiv (2 : Int))))),
 ((21 : Nat),
 SV.int IntKind.i64
 (IntKind.i64.wrap (low + IntKind.i64.wrap ((IntKind.i64.wrap (high - low)).tdiv (2 : Int))))),
 ((22 : Nat),
 SV.int IntKind.i64
 (IntKind.i64.wrap
 (IntKind.i64.wrap (low + IntKind.i64.wrap ((IntKind.i64.wrap (high - low)).tdiv (2 : Int))) +
 (1 : Int))))],
 blk :=
 [((1099511627776 : Nat),
 LB.var
 [SV.fn (28 : Nat) []
 [SV.ptr (1099511627777 : Nat) (0 : Nat), SV.ptr (1099511627778 : Nat) (0 : Nat),
 SV.ptr (1099511627779 : Nat) (0 : Nat), SV.ptr (1099511627780 : Nat) (0 : Nat)]]),
 ((1099511627777 : Nat), LB.var [SV.sl (Sh.int IntKind.u8) b]),
 ((1099511627778 : Nat), LB.var [SV.sl (Sh.int IntKind.i64) o]),
 ((1099511627779 : Nat), LB.var [SV.sl (Sh.int IntKind.u8) s]),
 ((1099511627780 : Nat), LB.var [SV.int IntKind.i64 n])] }))
 (Q [SV.int IntKind.i64 low]
 [((1099511627776 : Nat),
 LB.var
 [SV.fn (28 : Nat) []
 [SV.ptr (1099511627777 : Nat) (0 : Nat), SV.ptr (1099511627778 : Nat) (0 : Nat),
 SV.ptr (1099511627779 : Nat) (0 : Nat), SV.ptr (1099511627780 : Nat) (0 : Nat)]]),
 ((1099511627777 : Nat), LB.var [SV.sl (Sh.int IntKind.u8) b]),
 ((1099511627778 : Nat), LB.var [SV.sl (Sh.int IntKind.i64) o]),
 ((1099511627779 : Nat), LB.var [SV.sl (Sh.int IntKind.u8) s]),
 ((1099511627780 : Nat), LB.var [SV.int IntKind.i64 n])])) := by kernel_rfl
end Go.Proofs.Ytijeaicbnfiegaa
