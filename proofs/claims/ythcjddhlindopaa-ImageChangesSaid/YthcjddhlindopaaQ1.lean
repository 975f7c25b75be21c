/-
  A part of the proof: what pieces of the program give; conditions: those of each theorem.
-/
import Derived.Test.YthcjddhlindopaaQ0
import Derived.Test.YthcjddhlindopaaHD
set_option linter.unusedVariables false
namespace Go.Proofs.Ythcjddhlindopaa
open Go.Px Go.Ax
abbrev rgS : Sh := .pair (.int .i64) (.int .i64)
abbrev Rg : Type := Int × Int
abbrev uB : Sh := .int .u8
abbrev p2S : Sh := .arr 2 (.int .u8)
abbrev gtR (l : List Rg) (i : Nat) : Rg := gt rgS l i
abbrev gtB (l : List Int) (i : Nat) : Int := gt uB l i
abbrev gtP (l : List (List Int)) (i : Nat) : List Int := gt p2S l i
abbrev capK : List AK := [.ptr [.dat (.sl (.int .u8))], .ptr [.dat (.sl (.int .u8))]]
abbrev ySh : List Sh := [.pair (.int .i64) (.int .i64)]
abbrev KR : List AK := [.ptr [.row 57 (.pair (.int .i64) (.int .i64))]]
set_option maxRecDepth 100000
theorem vc_lim (b : List Int) (n : Int) (Q : List SV → List (Nat × LB) → Prop) (R : List Item → PS → Prop) : sy tt G0 D4 Try.f12.ntmps Try.f12.results.toList Q R 1000 [.code (bodyOf Try.f12)] (entry [.sl (.int .u8), .int .i64] (b, n, ())) =
    (bc (decide (n < (↑b.length : Int))) ((0 : Int) ≤ n ∧
 n ≤ (↑b.length : Int) ∧
 Q [SV.sl (Sh.int IntKind.u8) (List.take n.toNat b)] []) (Q [SV.sl (Sh.int IntKind.u8) b] [])) := by kernel_rfl
theorem vc_edi (b : List Int) (l : List (List Int)) (Q : List SV → List (Nat × LB) → Prop) (R : List Item → PS → Prop) : sy tt G0 D4 Try.f14.ntmps Try.f14.results.toList Q R 1000 [.code (bodyOf Try.f14)] (entry [.sl (.int .u8), .sl (.arr 2 (.int .u8))] (b, l, ())) =
    ((0 : Nat) = (List.replicate (0 : Nat) (Sh.int IntKind.u8).dflt).length ∧
 (0 : Nat) = (0 : Nat) ∧
 (0 : Nat) + b.length < (2 : Nat) ^ (30 : Nat) ∧
 (1 : Nat) ≤ (2 : Nat) ^ (10 : Nat) ∧
 R (hd Try.f14 (0 : Nat)) { env := [((0 : Nat), SV.sl (Sh.int IntKind.u8) b), ((1 : Nat), SV.sl (Sh.arr (2 : Nat) (Sh.int IntKind.u8)) l), ((4 : Nat), SV.nils), ((5 : Nat), SV.win true (Sh.int IntKind.u8) (9 : Nat) (0 : Nat) ((0 : Nat) + b.length)), ((6 : Nat), SV.int IntKind.i64 (0 : Int)), ((8 : Nat), SV.sl (Sh.int IntKind.u8) b), ((9 : Nat), SV.win true (Sh.int IntKind.u8) (9 : Nat) (0 : Nat) ((0 : Nat) + b.length))], blk := [((9 : Nat), LB.row (5 : Nat) (Sh.int IntKind.u8) (List.replicate (0 : Nat) (Sh.int IntKind.u8).dflt ++ b))] }) := by kernel_rfl
theorem vc_ediL (b o : List Int) (l : List (List Int)) (i : Int) (Q : List SV → List (Nat × LB) → Prop) (R : List Item → PS → Prop) : sy tt G0 D4 Try.f14.ntmps Try.f14.results.toList Q (fun it S => R it (keepS [0, 1, 5, 6] [9] S)) 1000 (hd Try.f14 0) ⟨[(0, .sl (.int .u8) b), (1, .sl (.arr 2 (.int .u8)) l), (5, .win true (.int .u8) 9 0 o.length), (6, .int .i64 i)], [(9, .row 5 (.int .u8) o)]⟩ =
    (bc (decide (i < (↑l.length : Int))) (bc (bif true then decide (i < (20 : Int)) else false) (bc (bif true then decide ((0 : Int) < (↑b.length : Int)) else false) ((0 : Int) ≤ i ∧
 i < (↑l.length : Int) ∧
 (0 : Int) ≤ (0 : Int) ∧
 (0 : Int) < (↑(2 : Nat) : Int) ∧
 (↑b.length : Int) ≠ (0 : Int) ∧
 (0 : Int) ≤ i ∧
 i < (↑l.length : Int) ∧
 (0 : Int) ≤ (1 : Int) ∧
 (1 : Int) < (↑(2 : Nat) : Int) ∧
 (0 : Int) ≤ (IntKind.i64.wrap (gtB (gtP l i.toNat) (Int.toNat (0 : Int)))).tmod (↑b.length : Int) ∧
 (IntKind.i64.wrap (gtB (gtP l i.toNat) (Int.toNat (0 : Int)))).tmod (↑b.length : Int) < (↑o.length : Int) ∧
 (0 : Nat) + ((IntKind.i64.wrap (gtB (gtP l i.toNat) (Int.toNat (0 : Int)))).tmod (↑b.length : Int)).toNat < o.length ∧
 R (hd Try.f14 (0 : Nat)) { env := [((0 : Nat), SV.sl (Sh.int IntKind.u8) b), ((1 : Nat), SV.sl (Sh.arr (2 : Nat) (Sh.int IntKind.u8)) l), ((5 : Nat), SV.win true (Sh.int IntKind.u8) (9 : Nat) (0 : Nat) o.length), ((6 : Nat), SV.int IntKind.i64 (IntKind.i64.wrap (i + (1 : Int))))], blk := [((9 : Nat), LB.row (5 : Nat) (Sh.int IntKind.u8) (o.set ((0 : Nat) + ((IntKind.i64.wrap (gtB (gtP l i.toNat) (Int.toNat (0 : Int)))).tmod (↑b.length : Int)).toNat) (gtB (gtP l i.toNat) (Int.toNat (1 : Int)))))] }) (Q [SV.win true (Sh.int IntKind.u8) (9 : Nat) (0 : Nat) o.length] [((9 : Nat), LB.row (5 : Nat) (Sh.int IntKind.u8) o)])) (false = false ∧
 Q [SV.win true (Sh.int IntKind.u8) (9 : Nat) (0 : Nat) o.length] [((9 : Nat), LB.row (5 : Nat) (Sh.int IntKind.u8) o)])) (false = false ∧
 false = false ∧
 Q [SV.win true (Sh.int IntKind.u8) (9 : Nat) (0 : Nat) o.length] [((9 : Nat), LB.row (5 : Nat) (Sh.int IntKind.u8) o)])) := by kernel_rfl
theorem vc_irt (l : List Rg) (n : Int) (Q : List SV → List (Nat × LB) → Prop) (R : List Item → PS → Prop) : sy tt G0 D4 Try.f42.ntmps Try.f42.results.toList Q R 1000 [.code (bodyOf Try.f42)] (entry [.sl rgS, .int .i64] (l, n, ())) =
    (R (hd Try.f42 (0 : Nat)) { env := [((0 : Nat), SV.sl rgS l), ((1 : Nat), SV.int IntKind.i64 n), ((4 : Nat), SV.bool false), ((5 : Nat), SV.int IntKind.i64 (-1 : Int)), ((8 : Nat), SV.sl rgS l), ((9 : Nat), SV.int IntKind.i64 (↑l.length : Int)), ((10 : Nat), SV.int IntKind.i64 (0 : Int))], blk := [] }) := by kernel_rfl
theorem vc_irtL (l : List Rg) (n e i : Int) (Q : List SV → List (Nat × LB) → Prop) (R : List Item → PS → Prop) : sy tt G0 D4 Try.f42.ntmps Try.f42.results.toList Q (fun it S => R it (keepS [1, 5, 8, 9, 10] [] S)) 1000 (hd Try.f42 0) ⟨[(1, .int .i64 n), (5, .int .i64 e), (8, .sl rgS l), (9, .int .i64 l.length), (10, .int .i64 i)], []⟩ =
    (bc (decide (i < (↑l.length : Int))) ((0 : Int) ≤ i ∧
 i < (↑l.length : Int) ∧
 bc (decide ((gtR l i.toNat).fst ≤ e)) (true = true ∧
 true = true ∧
 Q [SV.bool false] [((7 : Nat), LB.var [SV.int IntKind.i64 (gtR l i.toNat).fst, SV.int IntKind.i64 (gtR l i.toNat).snd])]) (bc (bif false then true else decide ((gtR l i.toNat).snd ≤ (gtR l i.toNat).fst)) (true = true ∧
 Q [SV.bool false] [((7 : Nat), LB.var [SV.int IntKind.i64 (gtR l i.toNat).fst, SV.int IntKind.i64 (gtR l i.toNat).snd])]) (bc (bif false then true else decide (n < (gtR l i.toNat).snd)) (Q [SV.bool false] [((7 : Nat), LB.var [SV.int IntKind.i64 (gtR l i.toNat).fst, SV.int IntKind.i64 (gtR l i.toNat).snd])]) (R (hd Try.f42 (0 : Nat)) { env := [((1 : Nat), SV.int IntKind.i64 n), ((5 : Nat), SV.int IntKind.i64 (gtR l i.toNat).snd), ((8 : Nat), SV.sl rgS l), ((9 : Nat), SV.int IntKind.i64 (↑l.length : Int)), ((10 : Nat), SV.int IntKind.i64 (IntKind.i64.wrap (i + (1 : Int))))], blk := [] })))) (Q [SV.bool true] [])) := by kernel_rfl
theorem vc_rrt (l : List Rg) (n : Int) (Q : List SV → List (Nat × LB) → Prop) (R : List Item → PS → Prop) : sy tt G0 D4 Try.f32.ntmps Try.f32.results.toList Q R 1000 [.code (bodyOf Try.f32)] (entry [.sl rgS, .int .i64] (l, n, ())) =
    (R (hd Try.f32 (0 : Nat)) { env := [((0 : Nat), SV.sl rgS l), ((1 : Nat), SV.int IntKind.i64 n), ((4 : Nat), SV.bool false), ((5 : Nat), SV.int IntKind.i64 (-1 : Int)), ((6 : Nat), SV.int IntKind.i64 (0 : Int))], blk := [] }) := by kernel_rfl
theorem vc_rrtL (l : List Rg) (n e i : Int) (Q : List SV → List (Nat × LB) → Prop) (R : List Item → PS → Prop) : sy tt G0 D4 Try.f32.ntmps Try.f32.results.toList Q (fun it S => R it (keepS [0, 1, 5, 6] [] S)) 1000 (hd Try.f32 0) ⟨[(0, .sl rgS l), (1, .int .i64 n), (5, .int .i64 e), (6, .int .i64 i)], []⟩ =
    (bc (decide (i < (↑l.length : Int))) ((0 : Int) ≤ i ∧
 i < (↑l.length : Int) ∧
 bc (decide ((gtR l i.toNat).fst ≤ e)) (true = true ∧
 true = true ∧
 Q [SV.bool false] []) ((0 : Int) ≤ i ∧
 i < (↑l.length : Int) ∧
 (0 : Int) ≤ i ∧
 i < (↑l.length : Int) ∧
 bc (bif false then true else decide ((gtR l i.toNat).snd ≤ (gtR l i.toNat).fst)) (true = true ∧
 Q [SV.bool false] []) ((0 : Int) ≤ i ∧
 i < (↑l.length : Int) ∧
 bc (bif false then true else decide (n < (gtR l i.toNat).snd)) (Q [SV.bool false] []) ((0 : Int) ≤ i ∧
 i < (↑l.length : Int) ∧
 R (hd Try.f32 (0 : Nat)) { env := [((0 : Nat), SV.sl rgS l), ((1 : Nat), SV.int IntKind.i64 n), ((5 : Nat), SV.int IntKind.i64 (gtR l i.toNat).snd), ((6 : Nat), SV.int IntKind.i64 (IntKind.i64.wrap (i + (1 : Int))))], blk := [] })))) (Q [SV.bool true] [])) := by kernel_rfl
theorem vc_tot (l : List Rg) (Q : List SV → List (Nat × LB) → Prop) (R : List Item → PS → Prop) : sy tt G0 D4 Try.f43.ntmps Try.f43.results.toList Q R 1000 [.code (bodyOf Try.f43)] (entry [.sl rgS] (l, ())) =
    (R (hd Try.f43 (0 : Nat)) { env := [((0 : Nat), SV.sl rgS l), ((2 : Nat), SV.int IntKind.i64 (0 : Int)), ((3 : Nat), SV.int IntKind.i64 (0 : Int)), ((6 : Nat), SV.sl rgS l), ((7 : Nat), SV.int IntKind.i64 (↑l.length : Int)), ((8 : Nat), SV.int IntKind.i64 (0 : Int))], blk := [] }) := by kernel_rfl
theorem vc_totL (l : List Rg) (s i : Int) (Q : List SV → List (Nat × LB) → Prop) (R : List Item → PS → Prop) : sy tt G0 D4 Try.f43.ntmps Try.f43.results.toList Q (fun it S => R it (keepS [3, 6, 7, 8] [] S)) 1000 (hd Try.f43 0) ⟨[(3, .int .i64 s), (6, .sl rgS l), (7, .int .i64 l.length), (8, .int .i64 i)], []⟩ =
    (bc (decide (i < (↑l.length : Int))) ((0 : Int) ≤ i ∧
 i < (↑l.length : Int) ∧
 R (hd Try.f43 (0 : Nat)) { env := [((3 : Nat), SV.int IntKind.i64 (IntKind.i64.wrap (s + IntKind.i64.wrap ((gtR l i.toNat).snd - (gtR l i.toNat).fst)))), ((6 : Nat), SV.sl rgS l), ((7 : Nat), SV.int IntKind.i64 (↑l.length : Int)), ((8 : Nat), SV.int IntKind.i64 (IntKind.i64.wrap (i + (1 : Int))))], blk := [] }) (Q [SV.int IntKind.i64 s] [])) := by kernel_rfl
theorem vc_rto (l : List Rg) (Q : List SV → List (Nat × LB) → Prop) (R : List Item → PS → Prop) : sy tt G0 D4 Try.f35.ntmps Try.f35.results.toList Q R 1000 [.code (bodyOf Try.f35)] (entry [.sl rgS] (l, ())) =
    (R (hd Try.f35 (0 : Nat)) { env := [((0 : Nat), SV.sl rgS l), ((2 : Nat), SV.int IntKind.i64 (0 : Int)), ((3 : Nat), SV.int IntKind.i64 (0 : Int)), ((4 : Nat), SV.int IntKind.i64 (0 : Int))], blk := [] }) := by kernel_rfl
theorem vc_rtoL (l : List Rg) (s i : Int) (Q : List SV → List (Nat × LB) → Prop) (R : List Item → PS → Prop) : sy tt G0 D4 Try.f35.ntmps Try.f35.results.toList Q (fun it S => R it (keepS [0, 3, 4] [] S)) 1000 (hd Try.f35 0) ⟨[(0, .sl rgS l), (3, .int .i64 s), (4, .int .i64 i)], []⟩ =
    (bc (decide (i < (↑l.length : Int))) ((0 : Int) ≤ i ∧
 i < (↑l.length : Int) ∧
 (0 : Int) ≤ i ∧
 i < (↑l.length : Int) ∧
 R (hd Try.f35 (0 : Nat)) { env := [((0 : Nat), SV.sl rgS l), ((3 : Nat), SV.int IntKind.i64 (IntKind.i64.wrap (s + IntKind.i64.wrap ((gtR l i.toNat).snd - (gtR l i.toNat).fst)))), ((4 : Nat), SV.int IntKind.i64 (IntKind.i64.wrap (i + (1 : Int))))], blk := [] }) (Q [SV.int IntKind.i64 s] [])) := by kernel_rfl
theorem vc_pck (b : List Int) (l : List Rg) (Q : List SV → List (Nat × LB) → Prop) (R : List Item → PS → Prop) : sy tt G0 D4 Try.f33.ntmps Try.f33.results.toList Q R 1000 [.code (bodyOf Try.f33)] (entry [.sl (.int .u8), .sl rgS] (b, l, ())) =
    (R (hd Try.f33 (0 : Nat)) { env := [((0 : Nat), SV.sl (Sh.int IntKind.u8) b), ((1 : Nat), SV.sl rgS l), ((4 : Nat), SV.nils), ((5 : Nat), SV.win true (Sh.int IntKind.u8) (7 : Nat) (0 : Nat) (0 : Nat)), ((6 : Nat), SV.int IntKind.i64 (0 : Int)), ((7 : Nat), SV.win true (Sh.int IntKind.u8) (7 : Nat) (0 : Nat) (0 : Nat))], blk := [((7 : Nat), LB.row (5 : Nat) (Sh.int IntKind.u8) (List.replicate (0 : Nat) (Sh.int IntKind.u8).dflt))] }) := by kernel_rfl
theorem vc_pckL (b o : List Int) (l : List Rg) (i : Int) (Q : List SV → List (Nat × LB) → Prop) (R : List Item → PS → Prop) : sy tt G0 D4 Try.f33.ntmps Try.f33.results.toList Q (fun it S => R it (keepS [0, 1, 5, 6] [7, 27] S)) 1000 (hd Try.f33 0) ⟨[(0, .sl (.int .u8) b), (1, .sl rgS l), (5, .win true (.int .u8) 7 0 o.length), (6, .int .i64 i)], [(7, .row 5 (.int .u8) o)]⟩ =
    (bc (decide (i < (↑l.length : Int))) ((0 : Int) ≤ i ∧
 i < (↑l.length : Int) ∧
 (0 : Int) ≤ i ∧
 i < (↑l.length : Int) ∧
 (0 : Int) ≤ (gtR l i.toNat).fst ∧
 (gtR l i.toNat).fst ≤ (gtR l i.toNat).snd ∧
 (gtR l i.toNat).snd ≤ (↑b.length : Int) ∧
 o.length = o.length ∧
 (0 : Nat) = (0 : Nat) ∧
 o.length + (Px.part b (some (gtR l i.toNat).fst) (some (gtR l i.toNat).snd)).length < (2 : Nat) ^ (30 : Nat) ∧
 (1 : Nat) ≤ (2 : Nat) ^ (10 : Nat) ∧
 R (hd Try.f33 (0 : Nat)) { env := [((0 : Nat), SV.sl (Sh.int IntKind.u8) b), ((1 : Nat), SV.sl rgS l), ((5 : Nat), SV.win true (Sh.int IntKind.u8) (27 : Nat) (0 : Nat) (o.length + (Px.part b (some (gtR l i.toNat).fst) (some (gtR l i.toNat).snd)).length)), ((6 : Nat), SV.int IntKind.i64 (IntKind.i64.wrap (i + (1 : Int))))], blk := [((27 : Nat), LB.row (5 : Nat) (Sh.int IntKind.u8) (o ++ Px.part b (some (gtR l i.toNat).fst) (some (gtR l i.toNat).snd)))] }) (Q [SV.win true (Sh.int IntKind.u8) (7 : Nat) (0 : Nat) o.length] [((7 : Nat), LB.row (5 : Nat) (Sh.int IntKind.u8) o)])) := by kernel_rfl
theorem vc_dfm (a b : List Int) (Q : List SV → List (Nat × LB) → Prop) (R : List Item → PS → Prop) : sy tt G0 [] Try.f47.ntmps Try.f47.results.toList Q R 1000 [.code (bodyOf Try.f47)] (entryI [.dat (.sl (.int .u8)), .dat (.sl (.int .u8))] (a, b, ())) =
    (Q [SV.fn (55 : Nat) [] [SV.ptr (2 : Nat) (0 : Nat), SV.ptr (3 : Nat) (0 : Nat)]] [((2 : Nat), LB.var [SV.sl (Sh.int IntKind.u8) a]), ((3 : Nat), LB.var [SV.sl (Sh.int IntKind.u8) b])]) := by kernel_rfl
theorem vc_it (a b : List Int) (lp : Nat) (ys : List (DL ySh)) (Q : AExit → Nat × Bool → PS → Prop) (R : List Item → Nat × Bool → PS → Prop) : syE tt G0 D4 Try.f55.ntmps ⟨lp, ySh, ys⟩ Q R .fn 1000 [.code (bodyOf Try.f55)] (0, false) (entryY lp capK ((a, ()), (b, ()), ())) =
    (R (hd Try.f55 (0 : Nat)) ((0 : Nat), false) { env := [((0 : Nat), SV.yl lp), ((1 : Nat), SV.ptr (1099511627776 : Nat) (0 : Nat)), ((2 : Nat), SV.ptr (1099511627777 : Nat) (0 : Nat)), ((4 : Nat), SV.int IntKind.i64 (min (↑a.length : Int) (↑b.length : Int))), ((5 : Nat), SV.int IntKind.i64 (0 : Int)), ((7 : Nat), SV.sl (Sh.int IntKind.u8) a), ((8 : Nat), SV.int IntKind.i64 (↑a.length : Int)), ((9 : Nat), SV.sl (Sh.int IntKind.u8) b), ((10 : Nat), SV.int IntKind.i64 (↑b.length : Int)), ((11 : Nat), SV.int IntKind.i64 (min (↑a.length : Int) (↑b.length : Int)))], blk := [((1099511627776 : Nat), LB.var [SV.sl (Sh.int IntKind.u8) a]), ((1099511627777 : Nat), LB.var [SV.sl (Sh.int IntKind.u8) b])] }) := by kernel_rfl
theorem vc_itA (a b : List Int) (n p : Int) (j : Nat) (q : Bool) (lp : Nat) (ys : List (DL ySh)) (Q : AExit → Nat × Bool → PS → Prop) (R : List Item → Nat × Bool → PS → Prop) : syE tt G0 D4 Try.f55.ntmps ⟨lp, ySh, ys⟩ Q (fun it g S => R it g (keepS [0, 1, 2, 4, 5, 6] [BIG, BIG + 1] S)) .fn 1000 (hd Try.f55 0) (j, q) (⟨[(0, .yl lp), (1, .ptr BIG 0), (2, .ptr (BIG + 1) 0), (4, .int .i64 n), (5, .int .i64 p)], [(BIG, .var [.sl (.int .u8) a]), (BIG + 1, .var [.sl (.int .u8) b])]⟩) =
    (bc (decide (p < n)) ((0 : Int) ≤ p ∧
 p < (↑a.length : Int) ∧
 (0 : Int) ≤ p ∧
 p < (↑b.length : Int) ∧
 bc (decide (gtB a p.toNat = gtB b p.toNat)) (R (hd Try.f55 (0 : Nat)) (j, q) { env := [((0 : Nat), SV.yl lp), ((1 : Nat), SV.ptr (1099511627776 : Nat) (0 : Nat)), ((2 : Nat), SV.ptr (1099511627777 : Nat) (0 : Nat)), ((4 : Nat), SV.int IntKind.i64 n), ((5 : Nat), SV.int IntKind.i64 (IntKind.i64.wrap (p + (1 : Int))))], blk := [((1099511627776 : Nat), LB.var [SV.sl (Sh.int IntKind.u8) a]), ((1099511627777 : Nat), LB.var [SV.sl (Sh.int IntKind.u8) b])] }) (R (hd Try.f55 (1 : Nat)) (j, q) { env := [((0 : Nat), SV.yl lp), ((1 : Nat), SV.ptr (1099511627776 : Nat) (0 : Nat)), ((2 : Nat), SV.ptr (1099511627777 : Nat) (0 : Nat)), ((4 : Nat), SV.int IntKind.i64 n), ((5 : Nat), SV.int IntKind.i64 p), ((6 : Nat), SV.int IntKind.i64 (IntKind.i64.wrap (p + (1 : Int))))], blk := [((1099511627776 : Nat), LB.var [SV.sl (Sh.int IntKind.u8) a]), ((1099511627777 : Nat), LB.var [SV.sl (Sh.int IntKind.u8) b])] })) (Q AExit.normal (j, q) { env := [((0 : Nat), SV.yl lp), ((1 : Nat), SV.ptr (1099511627776 : Nat) (0 : Nat)), ((2 : Nat), SV.ptr (1099511627777 : Nat) (0 : Nat)), ((4 : Nat), SV.int IntKind.i64 n), ((5 : Nat), SV.int IntKind.i64 p), ((12 : Nat), SV.int IntKind.i64 p), ((13 : Nat), SV.int IntKind.i64 n), ((14 : Nat), SV.bool (decide (p < n)))], blk := [((1099511627776 : Nat), LB.var [SV.sl (Sh.int IntKind.u8) a]), ((1099511627777 : Nat), LB.var [SV.sl (Sh.int IntKind.u8) b])] })) := by kernel_rfl
theorem vc_itB (a b : List Int) (n p t : Int) (j : Nat) (q : Bool) (lp : Nat) (ys : List (DL ySh)) (Q : AExit → Nat × Bool → PS → Prop) (R : List Item → Nat × Bool → PS → Prop) : syE tt G0 D4 Try.f55.ntmps ⟨lp, ySh, ys⟩ Q (fun it g S => R it g (keepS [0, 1, 2, 4, 5, 6] [BIG, BIG + 1] S)) .fn 1000 (hd Try.f55 1) (j, q) (⟨[(0, .yl lp), (1, .ptr BIG 0), (2, .ptr (BIG + 1) 0), (4, .int .i64 n), (5, .int .i64 p), (6, .int .i64 t)], [(BIG, .var [.sl (.int .u8) a]), (BIG + 1, .var [.sl (.int .u8) b])]⟩) =
    (bc (decide (t < n)) ((0 : Int) ≤ t ∧
 t < (↑a.length : Int) ∧
 (0 : Int) ≤ t ∧
 t < (↑b.length : Int) ∧
 bc (bif true then decide (gtB a t.toNat ≠ gtB b t.toNat) else false) (R (hd Try.f55 (1 : Nat)) (j, q) { env := [((0 : Nat), SV.yl lp), ((1 : Nat), SV.ptr (1099511627776 : Nat) (0 : Nat)), ((2 : Nat), SV.ptr (1099511627777 : Nat) (0 : Nat)), ((4 : Nat), SV.int IntKind.i64 n), ((5 : Nat), SV.int IntKind.i64 p), ((6 : Nat), SV.int IntKind.i64 (IntKind.i64.wrap (t + (1 : Int))))], blk := [((1099511627776 : Nat), LB.var [SV.sl (Sh.int IntKind.u8) a]), ((1099511627777 : Nat), LB.var [SV.sl (Sh.int IntKind.u8) b])] }) (lp = (Yp.mk lp ySh ys).l ∧
 q = false ∧
 (Yp.mk lp ySh ys).ys[j]? = some ((p, t), ()) ∧
 ∀ (r : Bool), bc (!r) (Q AExit.ret (j + (1 : Nat), !r) { env := [((0 : Nat), SV.yl lp), ((1 : Nat), SV.ptr (1099511627776 : Nat) (0 : Nat)), ((2 : Nat), SV.ptr (1099511627777 : Nat) (0 : Nat)), ((4 : Nat), SV.int IntKind.i64 n), ((5 : Nat), SV.int IntKind.i64 p), ((6 : Nat), SV.int IntKind.i64 t), ((28 : Nat), SV.int IntKind.i64 t), ((29 : Nat), SV.int IntKind.i64 n), ((30 : Nat), SV.bool (decide (t < n))), ((31 : Nat), SV.bool true), ((32 : Nat), SV.sl (Sh.int IntKind.u8) a), ((33 : Nat), SV.int IntKind.i64 t), ((34 : Nat), SV.elv (Sh.int IntKind.u8) (gtB a t.toNat)), ((35 : Nat), SV.int IntKind.u8 (gtB a t.toNat)), ((36 : Nat), SV.sl (Sh.int IntKind.u8) b), ((37 : Nat), SV.int IntKind.i64 t), ((38 : Nat), SV.elv (Sh.int IntKind.u8) (gtB b t.toNat)), ((39 : Nat), SV.int IntKind.u8 (gtB b t.toNat)), ((40 : Nat), SV.bool (decide (gtB a t.toNat ≠ gtB b t.toNat))), ((41 : Nat), SV.bool (bif true then decide (gtB a t.toNat ≠ gtB b t.toNat) else false)), ((44 : Nat), SV.yl lp), ((45 : Nat), SV.int IntKind.i64 p), ((46 : Nat), SV.int IntKind.i64 t), ((47 : Nat), SV.agg [SV.int IntKind.i64 p, SV.int IntKind.i64 t]), ((48 : Nat), SV.bool r), ((49 : Nat), SV.bool !r)], blk := [((1099511627776 : Nat), LB.var [SV.sl (Sh.int IntKind.u8) a]), ((1099511627777 : Nat), LB.var [SV.sl (Sh.int IntKind.u8) b])] }) (R (hd Try.f55 (0 : Nat)) (j + (1 : Nat), !r) { env := [((0 : Nat), SV.yl lp), ((1 : Nat), SV.ptr (1099511627776 : Nat) (0 : Nat)), ((2 : Nat), SV.ptr (1099511627777 : Nat) (0 : Nat)), ((4 : Nat), SV.int IntKind.i64 n), ((5 : Nat), SV.int IntKind.i64 (IntKind.i64.wrap (t + (1 : Int)))), ((6 : Nat), SV.int IntKind.i64 t)], blk := [((1099511627776 : Nat), LB.var [SV.sl (Sh.int IntKind.u8) a]), ((1099511627777 : Nat), LB.var [SV.sl (Sh.int IntKind.u8) b])] }))) (false = false ∧
 lp = (Yp.mk lp ySh ys).l ∧
 q = false ∧
 (Yp.mk lp ySh ys).ys[j]? = some ((p, t), ()) ∧
 ∀ (r : Bool), bc (!r) (Q AExit.ret (j + (1 : Nat), !r) { env := [((0 : Nat), SV.yl lp), ((1 : Nat), SV.ptr (1099511627776 : Nat) (0 : Nat)), ((2 : Nat), SV.ptr (1099511627777 : Nat) (0 : Nat)), ((4 : Nat), SV.int IntKind.i64 n), ((5 : Nat), SV.int IntKind.i64 p), ((6 : Nat), SV.int IntKind.i64 t), ((28 : Nat), SV.int IntKind.i64 t), ((29 : Nat), SV.int IntKind.i64 n), ((30 : Nat), SV.bool (decide (t < n))), ((31 : Nat), SV.bool false), ((32 : Nat), SV.tup []), ((33 : Nat), SV.tup []), ((34 : Nat), SV.tup []), ((35 : Nat), SV.tup []), ((36 : Nat), SV.tup []), ((37 : Nat), SV.tup []), ((38 : Nat), SV.tup []), ((39 : Nat), SV.tup []), ((40 : Nat), SV.tup []), ((41 : Nat), SV.bool false), ((44 : Nat), SV.yl lp), ((45 : Nat), SV.int IntKind.i64 p), ((46 : Nat), SV.int IntKind.i64 t), ((47 : Nat), SV.agg [SV.int IntKind.i64 p, SV.int IntKind.i64 t]), ((48 : Nat), SV.bool r), ((49 : Nat), SV.bool !r)], blk := [((1099511627776 : Nat), LB.var [SV.sl (Sh.int IntKind.u8) a]), ((1099511627777 : Nat), LB.var [SV.sl (Sh.int IntKind.u8) b])] }) (R (hd Try.f55 (0 : Nat)) (j + (1 : Nat), !r) { env := [((0 : Nat), SV.yl lp), ((1 : Nat), SV.ptr (1099511627776 : Nat) (0 : Nat)), ((2 : Nat), SV.ptr (1099511627777 : Nat) (0 : Nat)), ((4 : Nat), SV.int IntKind.i64 n), ((5 : Nat), SV.int IntKind.i64 (IntKind.i64.wrap (t + (1 : Int)))), ((6 : Nat), SV.int IntKind.i64 t)], blk := [((1099511627776 : Nat), LB.var [SV.sl (Sh.int IntKind.u8) a]), ((1099511627777 : Nat), LB.var [SV.sl (Sh.int IntKind.u8) b])] }))) := by kernel_rfl
end Go.Proofs.Ythcjddhlindopaa
namespace Go.Proofs.Ythcjddhlindopaa
open Go.Px Go.Ax
attribute [local irreducible] Go.Px.sy Go.Px.syE
def u8I (n : Int) : Prop := 0 ≤ n ∧ n < 256
def bytesOK (b : List Int) : Prop := ∀ c ∈ b, u8I c
theorem gtB_at {b : List Int} {i : Nat} (h : i < b.length) : gtB b i = b[i] := gtE h
theorem gtR_at {b : List Rg} {i : Nat} (h : i < b.length) : gtR b i = b[i] := gtE h
theorem gtP_at {b : List (List Int)} {i : Nat} (h : i < b.length) : gtP b i = b[i] := gtE h
/-! Limited -/
def ctLim : Ctr := ⟨[.sl uB, iI], fun x => 0 ≤ x.2.1, fun x => [.sl uB (List.take x.2.1.toNat x.1)], fun _ => []⟩
theorem lim_run (b : List Int) (n : Int) (h0 : 0 ≤ n) (R : List Item → PS → Prop) : sy tt G0 D4 Try.f12.ntmps Try.f12.results.toList (QC ctLim (b, n, ())) R 1000 [.code (bodyOf Try.f12)] (entry [.sl uB, iI] (b, n, ())) := by
  rw [vc_lim]
  refine bc_of (fun h => ?_) (fun h => ?_)
  · have h := of_decide_eq_true h
    exact ⟨h0, by omega, QC.flat rfl rfl rfl⟩
  · have h := of_decide_eq_false h
    refine QC.flat ?_ rfl rfl
    show [SV.sl uB (List.take n.toNat b)] = [SV.sl uB b]
    rw [List.take_of_length_le (by omega)]
theorem lim_held : Held Try.prog G0 12 ctLim := Held.run dx4 (fn := Try.f12) rfl rfl ⟨by decide, by decide⟩ fun x hp => lim_run x.1 x.2.1 hp _
/-! Edited -/
def edF (n : Nat) : List Int → List (List Int) → List Int
  | o, [] => o
  | o, x :: l => edF n (o.set ((gtB x 0).tmod n).toNat (gtB x 1)) l
theorem edF_len (n : Nat) : ∀ (l : List (List Int)) (o : List Int), (edF n o l).length = o.length
  | [], _ => rfl
  | x :: l, o => by rw [edF, edF_len n l, List.length_set]
def ediL (b : List Int) (l : List (List Int)) : List Int := if b.length = 0 then b else edF b.length b (l.take 20)
def preEd (b : List Int) (l : List (List Int)) : Prop := b.length < 1048576 ∧ ∀ x ∈ l, u8I (gtB x 0)
def ctEdi : Ctr := ⟨[.sl uB, .sl p2S], fun x => preEd x.1 x.2.1, fun x => [.win true uB 0 0 (List.length (ediL x.1 x.2.1))], fun x => [.row 5 uB (ediL x.1 x.2.1)]⟩
theorem edi_loop {b : List Int} {l : List (List Int)} (hp : preEd b l) : ∀ (k i : Nat) (o : List Int), 20 - i ≤ k → i ≤ 20 → i ≤ l.length → o.length = b.length → (if b.length = 0 then o else edF b.length o ((l.take 20).drop i)) = ediL b l →
    GD 14 Try.f14 (QC ctEdi (b, l, ())) (hd Try.f14 0) ⟨[(0, .sl uB b), (1, .sl p2S l), (5, .win true uB 9 0 o.length), (6, .int .i64 (i : Nat))], [(9, .row 5 uB o)]⟩ := by
  obtain ⟨h1, h2⟩ := hp
  have fin : ∀ o : List Int, o = ediL b l → QC ctEdi (b, l, ()) [.win true uB 9 0 o.length] [(9, .row 5 uB o)] := by
    intro o ho
    subst ho
    exact qc_row rfl rfl rfl rfl rfl
  intro k
  induction k with
  | zero =>
    intro i o hk hi hl ho hx
    have hi : i = 20 := by omega
    have e0 : (l.take 20).drop i = [] := List.drop_eq_nil_of_le (by rw [List.length_take]; omega)
    rw [e0] at hx
    have hx : o = ediL b l := by rw [← hx]; split <;> rfl
    refine sy_goK dx4 (vc_ediL b o l i _ _) ?_
    refine bc_of (fun h => ?_) (fun h => ⟨rfl, rfl, fin o hx⟩)
    rw [decide_eq_false (show ¬ ((i : Int) < 20) by omega), cond_true, bc_f]
    exact ⟨rfl, fin o hx⟩
  | succ k ih =>
    intro i o hk hi hl ho hx
    by_cases h20 : i < 20
    · refine sy_goK dx4 (vc_ediL b o l i _ _) ?_
      by_cases hil : i < l.length
      · rw [decide_eq_true (show (i : Int) < (l.length : Int) by omega), bc_t, decide_eq_true (show (i : Int) < 20 by omega), cond_true, bc_t]
        by_cases hb : b.length = 0
        · rw [if_pos hb] at hx
          rw [decide_eq_false (show ¬ (0 : Int) < (b.length : Int) by omega), cond_true, bc_f]
          exact fin o hx
        · rw [if_neg hb] at hx
          have e1 : gtP l (i : Int).toNat = l[i] := gtP_at hil
          obtain ⟨q1, q2⟩ := h2 l[i] (List.getElem_mem hil)
          have hd : (l.take 20).drop i = l[i] :: (l.take 20).drop (i + 1) := by
            rw [dropc (show i < (l.take 20).length by rw [List.length_take]; omega)]
            congr 1
            exact List.getElem_take ..
          rw [hd, edF] at hx
          rw [decide_eq_true (show (0 : Int) < (b.length : Int) by omega), cond_true, bc_t, e1, IntWalk.i64_in ((i : Int) + 1) (by omega)]
          have e2 : IntKind.i64.wrap (gtB l[i] (Int.toNat 0)) = gtB l[i] 0 := IntWalk.i64_in _ (by
            have : gtB l[i] (Int.toNat 0) = gtB l[i] 0 := rfl
            rw [this]; omega)
          have e3 : gtB l[i] (Int.toNat 1) = gtB l[i] 1 := rfl
          rw [e2, e3]
          have t1 : 0 ≤ (gtB l[i] 0).tmod (b.length : Int) := Int.tmod_nonneg _ q1
          have t2 : (gtB l[i] 0).tmod (b.length : Int) < (b.length : Int) := Int.tmod_lt_of_pos _ (by omega)
          have k2 := ih (i + 1) (o.set ((gtB l[i] 0).tmod (b.length : Int)).toNat (gtB l[i] 1)) (by omega) (by omega) (by omega) (by rw [List.length_set]; exact ho) (by rw [if_neg hb]; exact hx)
          rw [Nat.zero_add]
          refine ⟨by omega, by omega, by omega, by omega, by omega, by omega, by omega, by omega, by omega, t1, by omega, by omega, k2.only ⟨rfl, rfl, ?_, rfl, trivial⟩ ⟨rfl, trivial⟩⟩
          show some (SV.win true uB 9 0 o.length) = some (SV.win true uB 9 0 (o.set _ _).length)
          rw [List.length_set]
      · have e0 : (l.take 20).drop i = [] := List.drop_eq_nil_of_le (by rw [List.length_take]; omega)
        rw [e0] at hx
        have hx : o = ediL b l := by rw [← hx]; split <;> rfl
        rw [decide_eq_false (by omega), bc_f]
        exact ⟨rfl, rfl, fin o hx⟩
    · exact ih i o (by omega) hi hl ho hx
theorem edi_run (b : List Int) (l : List (List Int)) (hp : preEd b l) : sy tt G0 D4 Try.f14.ntmps Try.f14.results.toList (QC ctEdi (b, l, ())) (Px.Good Try.prog tt G0 14 Try.f14.ntmps Try.f14.results.toList (QC ctEdi (b, l, ()))) 1000 [.code (bodyOf Try.f14)] (entry [.sl uB, .sl p2S] (b, l, ())) := by
  rw [vc_edi]
  have h1 := hp.1
  have e : List.replicate 0 (Sh.int IntKind.u8).dflt ++ b = b := rfl
  rw [e, Nat.zero_add]
  refine ⟨rfl, rfl, by omega, by decide, (edi_loop hp _ 0 b (Nat.le_refl _) (Nat.zero_le _) (Nat.zero_le _) rfl ?_).only ⟨rfl, rfl, rfl, rfl, trivial⟩ ⟨rfl, trivial⟩⟩
  unfold ediL
  rfl
theorem edi_held : Held Try.prog G0 14 ctEdi := Held.run dx4 (fn := Try.f14) rfl rfl ⟨by decide, by decide⟩ fun x hp => edi_run x.1 x.2.1 hp
/-! Right lists -/
def rightF (n : Int) : Int → List Rg → Bool
  | _, [] => true
  | e, r :: l => decide (e < r.1 ∧ r.1 < r.2 ∧ r.2 ≤ n) && rightF n r.2 l
def rightB (l : List Rg) (n : Int) : Bool := rightF n (-1) l
theorem rightF_step {n e : Int} {l : List Rg} {i : Nat} (h : i < l.length) : rightF n e (l.drop i) = (decide (e < l[i].1 ∧ l[i].1 < l[i].2 ∧ l[i].2 ≤ n) && rightF n l[i].2 (l.drop (i + 1))) := by rw [dropc h, rightF]
def preLn (n : Nat) : Prop := n < 2 ^ 62
def ctRt : Ctr := ⟨[.sl rgS, iI], fun x => preLn (List.length x.1), fun x => [.bool (rightB x.1 x.2.1)], fun _ => []⟩
theorem irt_loop {l : List Rg} {n : Int} (hl : l.length < 2 ^ 62) : ∀ (k i : Nat) (e : Int), l.length - i ≤ k → i ≤ l.length →
    GD 42 Try.f42 (fun rs _ => rs = [.bool (rightF n e (l.drop i))]) (hd Try.f42 0) ⟨[(1, .int .i64 n), (5, .int .i64 e), (8, .sl rgS l), (9, .int .i64 l.length), (10, .int .i64 (i : Nat))], []⟩ := by
  have hend : ∀ (i : Nat) (e : Int), ¬ i < l.length → GD 42 Try.f42 (fun rs _ => rs = [.bool (rightF n e (l.drop i))]) (hd Try.f42 0) ⟨[(1, .int .i64 n), (5, .int .i64 e), (8, .sl rgS l), (9, .int .i64 l.length), (10, .int .i64 (i : Nat))], []⟩ := by
    intro i e hi
    refine sy_goK dx4 (vc_irtL l n e i _ _) ?_
    rw [decide_eq_false (by omega), bc_f, List.drop_eq_nil_of_le (by omega)]
    rfl
  intro k
  induction k with
  | zero => intro i e h1 _; exact hend i e (by omega)
  | succ k ih =>
    intro i e h1 h2
    by_cases hi : i < l.length
    · refine sy_goK dx4 (vc_irtL l n e i _ _) ?_
      have e1 : gtR l (i : Int).toNat = l[i] := gtR_at hi
      have k2 := ih (i + 1) l[i].2 (by omega) (by omega)
      rw [decide_eq_true (show (i : Int) < (l.length : Int) by omega), bc_t, e1, rightF_step hi, IntWalk.i64_in ((i : Int) + 1) (by omega), cond_false, cond_false]
      generalize l[i] = r at *
      refine ⟨by omega, by omega, bc_of (fun h => ⟨rfl, rfl, ?_⟩) (fun h => bc_of (fun h3 => ⟨rfl, ?_⟩) (fun h3 => bc_of (fun h4 => ?_) (fun h4 => ?_)))⟩
      · have h := of_decide_eq_true h
        rw [decide_eq_false (by omega)]; rfl
      · have h3 := of_decide_eq_true h3
        rw [decide_eq_false (by omega)]; rfl
      · have h4 := of_decide_eq_true h4
        rw [decide_eq_false (by omega)]; rfl
      · have h := of_decide_eq_false h
        have h3 := of_decide_eq_false h3
        have h4 := of_decide_eq_false h4
        rw [decide_eq_true (by omega), Bool.true_and]
        exact k2
    · exact hend i e hi
theorem irt_run (l : List Rg) (n : Int) (hl : preLn l.length) : sy tt G0 D4 Try.f42.ntmps Try.f42.results.toList (QC ctRt (l, n, ())) (Px.Good Try.prog tt G0 42 Try.f42.ntmps Try.f42.results.toList (QC ctRt (l, n, ()))) 1000 [.code (bodyOf Try.f42)] (entry [.sl rgS, iI] (l, n, ())) := by
  rw [vc_irt]
  exact ((irt_loop hl _ 0 (-1) (Nat.le_refl _) (Nat.zero_le _)).post fun rs blk hq => QC.flat (by rw [hq]; rfl) rfl (by rw [hq]; rfl)).only ⟨rfl, rfl, rfl, rfl, rfl, trivial⟩ trivial
theorem irt_held : Held Try.prog G0 42 ctRt := Held.run dx4 (fn := Try.f42) rfl rfl ⟨by decide, by decide⟩ fun x hp => irt_run x.1 x.2.1 hp
theorem rrt_loop {l : List Rg} {n : Int} (hl : l.length < 2 ^ 62) : ∀ (k i : Nat) (e : Int), l.length - i ≤ k → i ≤ l.length →
    GD 32 Try.f32 (fun rs _ => rs = [.bool (rightF n e (l.drop i))]) (hd Try.f32 0) ⟨[(0, .sl rgS l), (1, .int .i64 n), (5, .int .i64 e), (6, .int .i64 (i : Nat))], []⟩ := by
  have hend : ∀ (i : Nat) (e : Int), ¬ i < l.length → GD 32 Try.f32 (fun rs _ => rs = [.bool (rightF n e (l.drop i))]) (hd Try.f32 0) ⟨[(0, .sl rgS l), (1, .int .i64 n), (5, .int .i64 e), (6, .int .i64 (i : Nat))], []⟩ := by
    intro i e hi
    refine sy_goK dx4 (vc_rrtL l n e i _ _) ?_
    rw [decide_eq_false (by omega), bc_f, List.drop_eq_nil_of_le (by omega)]
    rfl
  intro k
  induction k with
  | zero => intro i e h1 _; exact hend i e (by omega)
  | succ k ih =>
    intro i e h1 h2
    by_cases hi : i < l.length
    · refine sy_goK dx4 (vc_rrtL l n e i _ _) ?_
      have e1 : gtR l (i : Int).toNat = l[i] := gtR_at hi
      have k2 := ih (i + 1) l[i].2 (by omega) (by omega)
      rw [decide_eq_true (show (i : Int) < (l.length : Int) by omega), bc_t, e1, rightF_step hi, IntWalk.i64_in ((i : Int) + 1) (by omega), cond_false, cond_false]
      generalize l[i] = r at *
      refine ⟨by omega, by omega, bc_of (fun h => ⟨rfl, rfl, ?_⟩) (fun h => ⟨by omega, by omega, by omega, by omega, bc_of (fun h3 => ⟨rfl, ?_⟩) (fun h3 => ⟨by omega, by omega, bc_of (fun h4 => ?_) (fun h4 => ⟨by omega, by omega, ?_⟩)⟩)⟩)⟩
      · have h := of_decide_eq_true h
        rw [decide_eq_false (by omega)]; rfl
      · have h3 := of_decide_eq_true h3
        rw [decide_eq_false (by omega)]; rfl
      · have h4 := of_decide_eq_true h4
        rw [decide_eq_false (by omega)]; rfl
      · have h := of_decide_eq_false h
        have h3 := of_decide_eq_false h3
        have h4 := of_decide_eq_false h4
        rw [decide_eq_true (by omega), Bool.true_and]
        exact k2
    · exact hend i e hi
theorem rrt_run (l : List Rg) (n : Int) (hl : preLn l.length) : sy tt G0 D4 Try.f32.ntmps Try.f32.results.toList (QC ctRt (l, n, ())) (Px.Good Try.prog tt G0 32 Try.f32.ntmps Try.f32.results.toList (QC ctRt (l, n, ()))) 1000 [.code (bodyOf Try.f32)] (entry [.sl rgS, iI] (l, n, ())) := by
  rw [vc_rrt]
  exact ((rrt_loop hl _ 0 (-1) (Nat.le_refl _) (Nat.zero_le _)).post fun rs blk hq => QC.flat (by rw [hq]; rfl) rfl (by rw [hq]; rfl)).only ⟨rfl, rfl, rfl, rfl, trivial⟩ trivial
theorem rrt_held : Held Try.prog G0 32 ctRt := Held.run dx4 (fn := Try.f32) rfl rfl ⟨by decide, by decide⟩ fun x hp => rrt_run x.1 x.2.1 hp
/-! Totals -/
def totW : Int → List Rg → Int
  | s, [] => s
  | s, r :: l => totW (IntKind.i64.wrap (s + IntKind.i64.wrap (r.2 - r.1))) l
def ctTot : Ctr := ⟨[.sl rgS], fun x => preLn (List.length x.1), fun x => [.int .i64 (totW 0 x.1)], fun _ => []⟩
theorem tot_loop {l : List Rg} (hl : l.length < 2 ^ 62) : ∀ (k i : Nat) (s : Int), l.length - i ≤ k → i ≤ l.length →
    GD 43 Try.f43 (fun rs _ => rs = [.int .i64 (totW s (l.drop i))]) (hd Try.f43 0) ⟨[(3, .int .i64 s), (6, .sl rgS l), (7, .int .i64 l.length), (8, .int .i64 (i : Nat))], []⟩ := by
  intro k
  induction k with
  | zero =>
    intro i s h1 h2
    refine sy_goK dx4 (vc_totL l s i _ _) ?_
    rw [decide_eq_false (by omega), bc_f, List.drop_eq_nil_of_le (by omega)]
    rfl
  | succ k ih =>
    intro i s h1 h2
    by_cases hi : i < l.length
    · refine sy_goK dx4 (vc_totL l s i _ _) ?_
      have e1 : gtR l (i : Int).toNat = l[i] := gtR_at hi
      have k2 := ih (i + 1) (IntKind.i64.wrap (s + IntKind.i64.wrap (l[i].2 - l[i].1))) (by omega) (by omega)
      rw [decide_eq_true (show (i : Int) < (l.length : Int) by omega), bc_t, e1, dropc hi, totW, IntWalk.i64_in ((i : Int) + 1) (by omega)]
      exact ⟨by omega, by omega, k2⟩
    · exact ih i s (by omega) h2
theorem tot_run (l : List Rg) (hl : preLn l.length) : sy tt G0 D4 Try.f43.ntmps Try.f43.results.toList (QC ctTot (l, ())) (Px.Good Try.prog tt G0 43 Try.f43.ntmps Try.f43.results.toList (QC ctTot (l, ()))) 1000 [.code (bodyOf Try.f43)] (entry [.sl rgS] (l, ())) := by
  rw [vc_tot]
  exact ((tot_loop hl _ 0 0 (Nat.le_refl _) (Nat.zero_le _)).post fun rs blk hq => QC.flat (by rw [hq]; rfl) rfl (by rw [hq]; rfl)).only ⟨rfl, rfl, rfl, rfl, trivial⟩ trivial
theorem tot_held : Held Try.prog G0 43 ctTot := Held.run dx4 (fn := Try.f43) rfl rfl ⟨by decide, by decide⟩ fun x hp => tot_run x.1 hp
theorem rto_loop {l : List Rg} (hl : l.length < 2 ^ 62) : ∀ (k i : Nat) (s : Int), l.length - i ≤ k → i ≤ l.length →
    GD 35 Try.f35 (fun rs _ => rs = [.int .i64 (totW s (l.drop i))]) (hd Try.f35 0) ⟨[(0, .sl rgS l), (3, .int .i64 s), (4, .int .i64 (i : Nat))], []⟩ := by
  intro k
  induction k with
  | zero =>
    intro i s h1 h2
    refine sy_goK dx4 (vc_rtoL l s i _ _) ?_
    rw [decide_eq_false (by omega), bc_f, List.drop_eq_nil_of_le (by omega)]
    rfl
  | succ k ih =>
    intro i s h1 h2
    by_cases hi : i < l.length
    · refine sy_goK dx4 (vc_rtoL l s i _ _) ?_
      have e1 : gtR l (i : Int).toNat = l[i] := gtR_at hi
      have k2 := ih (i + 1) (IntKind.i64.wrap (s + IntKind.i64.wrap (l[i].2 - l[i].1))) (by omega) (by omega)
      rw [decide_eq_true (show (i : Int) < (l.length : Int) by omega), bc_t, e1, dropc hi, totW, IntWalk.i64_in ((i : Int) + 1) (by omega)]
      exact ⟨by omega, by omega, by omega, by omega, k2⟩
    · exact ih i s (by omega) h2
theorem rto_run (l : List Rg) (hl : preLn l.length) : sy tt G0 D4 Try.f35.ntmps Try.f35.results.toList (QC ctTot (l, ())) (Px.Good Try.prog tt G0 35 Try.f35.ntmps Try.f35.results.toList (QC ctTot (l, ()))) 1000 [.code (bodyOf Try.f35)] (entry [.sl rgS] (l, ())) := by
  rw [vc_rto]
  exact ((rto_loop hl _ 0 0 (Nat.le_refl _) (Nat.zero_le _)).post fun rs blk hq => QC.flat (by rw [hq]; rfl) rfl (by rw [hq]; rfl)).only ⟨rfl, rfl, rfl, trivial⟩ trivial
theorem rto_held : Held Try.prog G0 35 ctTot := Held.run dx4 (fn := Try.f35) rfl rfl ⟨by decide, by decide⟩ fun x hp => rto_run x.1 hp
/-! The bytes of ranges -/
def cutR (b : List Int) (r : Rg) : List Int := (b.take r.2.toNat).drop r.1.toNat
def pickL (b : List Int) (l : List Rg) : List Int := l.flatMap (cutR b)
def prePk (b : List Int) (l : List Rg) : Prop := b.length < 1048576 ∧ l.length < 1048576 ∧ rightB l b.length = true
def ctPck : Ctr := ⟨[.sl uB, .sl rgS], fun x => prePk x.1 x.2.1, fun x => [.win true uB 0 0 (List.length (pickL x.1 x.2.1))], fun x => [.row 5 uB (pickL x.1 x.2.1)]⟩
theorem cutR_len {b : List Int} {r : Rg} (h : 0 ≤ r.1 ∧ r.1 ≤ r.2 ∧ r.2 ≤ b.length) : (cutR b r).length = (r.2 - r.1).toNat := by
  unfold cutR
  rw [List.length_drop, List.length_take]; omega
theorem pck_loop {b : List Int} {l : List Rg} (hb : b.length < 1048576) (hl : l.length < 1048576) : ∀ (k i : Nat) (e : Int) (o : List Int), l.length - i ≤ k → i ≤ l.length → -1 ≤ e → e ≤ b.length → rightF b.length e (l.drop i) = true → (o.length : Int) ≤ e + 1 → o ++ pickL b (l.drop i) = pickL b l →
    GD 33 Try.f33 (QC ctPck (b, l, ())) (hd Try.f33 0) ⟨[(0, .sl uB b), (1, .sl rgS l), (5, .win true uB 7 0 o.length), (6, .int .i64 (i : Nat))], [(7, .row 5 uB o)]⟩ := by
  intro k
  induction k with
  | zero =>
    intro i e o hk hi _ _ _ _ hx
    rw [List.drop_eq_nil_of_le (by omega)] at hx
    have hx : o = pickL b l := by rw [← hx]; simp [pickL]
    refine sy_goK dx4 (vc_pckL b o l i _ _) ?_
    rw [decide_eq_false (by omega), bc_f]
    subst hx
    exact qc_row rfl rfl rfl rfl rfl
  | succ k ih =>
    intro i e o hk hi h1 h2 hr ho hx
    by_cases h : i < l.length
    · refine sy_goK dx4 (vc_pckL b o l i _ _) ?_
      have e1 : gtR l (i : Int).toNat = l[i] := gtR_at h
      rw [rightF_step h, Bool.and_eq_true, decide_eq_true_eq] at hr
      obtain ⟨⟨r1, r2, r3⟩, r4⟩ := hr
      rw [dropc h] at hx
      rw [decide_eq_true (show (i : Int) < (l.length : Int) by omega), bc_t, e1, IntWalk.i64_in ((i : Int) + 1) (by omega)]
      generalize l[i] = r at *
      have ec : Px.part b (some r.1) (some r.2) = cutR b r := rfl
      have hcl := cutR_len (b := b) (r := r) (by omega)
      have k2 := ih (i + 1) r.2 (o ++ cutR b r) (by omega) (by omega) (by omega) r3 r4 (by rw [List.length_append, hcl]; omega) (by rw [← hx]; simp [pickL])
      rw [ec]
      refine ⟨by omega, by omega, by omega, by omega, by omega, by omega, by omega, rfl, rfl, ?_, by decide, ?_⟩
      · show o.length + (cutR b r).length < 2 ^ 30
        omega
      · refine Good.onlyR k2 [(7, 27)] rfl ⟨rfl, rfl, ?_, rfl, trivial⟩ ⟨rfl, trivial⟩
        show some (SV.win true uB 27 0 (o.length + (cutR b r).length)) = some (SV.win true uB 27 0 (o ++ cutR b r).length)
        rw [List.length_append]
    · exact ih i e o (by omega) hi h1 h2 hr ho hx
theorem pck_run (b : List Int) (l : List Rg) (hp : prePk b l) : sy tt G0 D4 Try.f33.ntmps Try.f33.results.toList (QC ctPck (b, l, ())) (Px.Good Try.prog tt G0 33 Try.f33.ntmps Try.f33.results.toList (QC ctPck (b, l, ()))) 1000 [.code (bodyOf Try.f33)] (entry [.sl uB, .sl rgS] (b, l, ())) := by
  rw [vc_pck]
  obtain ⟨h1, h2, h3⟩ := hp
  exact (pck_loop h1 h2 _ 0 (-1) [] (Nat.le_refl _) (Nat.zero_le _) (by omega) (by omega) h3 (by simp) rfl).only ⟨rfl, rfl, rfl, rfl, trivial⟩ ⟨rfl, trivial⟩
theorem pck_held : Held Try.prog G0 33 ctPck := Held.run dx4 (fn := Try.f33) rfl rfl ⟨by decide, by decide⟩ fun x hp => pck_run x.1 x.2.1 hp
abbrev D5 : CV := (12, .inl ctLim) :: (14, .inl ctEdi) :: (42, .inl ctRt) :: (32, .inl ctRt) :: (43, .inl ctTot) :: (35, .inl ctTot) :: (33, .inl ctPck) :: D4
theorem dx5 : CxOK Try.prog tt G0 D5 := ((((((dx4.cons pck_held (fn := Try.f33) rfl rfl rfl).cons rto_held (fn := Try.f35) rfl rfl rfl).cons tot_held (fn := Try.f43) rfl rfl rfl).cons rrt_held (fn := Try.f32) rfl rfl rfl).cons irt_held (fn := Try.f42) rfl rfl rfl).cons edi_held (fn := Try.f14) rfl rfl rfl).cons lim_held (fn := Try.f12) rfl rfl rfl
end Go.Proofs.Ythcjddhlindopaa
namespace Go.Proofs.Ythcjddhlindopaa
open Go.Px Go.Ax
attribute [local irreducible] Go.Px.sy Go.Px.syE
abbrev GE (f : Nat) (fn : Func) (Y : Yp) (K : AExit → Nat × Bool → PS → Prop) (it : List Item) (g : Nat × Bool) (S : PS) : Prop := Px.GoodE Try.prog G0 f fn.ntmps .fn Y K it g S
/-- Where a run of different places ends. -/
def runE (d : Nat → Bool) (n : Nat) : Nat → Nat → Nat
  | 0, t => t
  | k + 1, t => if t < n ∧ d t = true then runE d n k (t + 1) else t
theorem runE_bd (d : Nat → Bool) (n : Nat) : ∀ k t, t ≤ n → t ≤ runE d n k t ∧ runE d n k t ≤ n
  | 0, t, h => ⟨Nat.le_refl _, h⟩
  | k + 1, t, h => by
    rw [runE]
    split
    · have := runE_bd d n k (t + 1) (by omega); omega
    · omega
/-- The ranges of different places, from a place on. -/
def difF (d : Nat → Bool) (n : Nat) : Nat → Nat → List Rg
  | 0, _ => []
  | k + 1, p => if p < n then (if d p = true then ((p : Int), ((runE d n (n - p) (p + 1) : Nat) : Int)) :: difF d n k (runE d n (n - p) (p + 1) + 1) else difF d n k (p + 1)) else []
theorem difF_fuel (d : Nat → Bool) (n : Nat) : ∀ k k' p, n - p ≤ k → n - p ≤ k' → difF d n k p = difF d n k' p
  | 0, 0, _, _, _ => rfl
  | 0, k' + 1, p, h1, _ => by rw [difF, difF, if_neg (by omega)]
  | k + 1, 0, p, _, h2 => by rw [difF, difF, if_neg (by omega)]
  | k + 1, k' + 1, p, h1, h2 => by
    rw [difF, difF]
    by_cases hp : p < n
    · have := runE_bd d n (n - p) (p + 1) (by omega)
      rw [if_pos hp, if_pos hp, difF_fuel d n k k' (p + 1) (by omega) (by omega), difF_fuel d n k k' (runE d n (n - p) (p + 1) + 1) (by omega) (by omega)]
    · rw [if_neg hp, if_neg hp]
theorem difF_len (d : Nat → Bool) (n : Nat) : ∀ k p, (difF d n k p).length ≤ k
  | 0, _ => Nat.le_refl _
  | k + 1, p => by
    rw [difF]
    split
    · split
      · have := difF_len d n k (runE d n (n - p) (p + 1) + 1)
        rw [List.length_cons]; omega
      · have := difF_len d n k (p + 1); omega
    · exact Nat.zero_le _
def dAt (a b : List Int) (i : Nat) : Bool := decide (gtB a i ≠ gtB b i)
def minL (a b : List Int) : Nat := min a.length b.length
def difL (a b : List Int) : List Rg := difF (dAt a b) (minL a b) (minL a b) 0
def preD (a b : List Int) : Prop := a.length < 1048576 ∧ b.length < 1048576
def yl (l : List Rg) : List (DL ySh) := l.map fun r => (r, ())
def ctIt : CtrY := ⟨capK, fun x => preD x.1.1 x.2.1.1, ySh, fun x => yl (difL x.1.1 x.2.1.1)⟩
abbrev itS (a b : List Int) (n p : Nat) (lp : Nat) : PS := ⟨[(0, .yl lp), (1, .ptr BIG 0), (2, .ptr (BIG + 1) 0), (4, .int .i64 (n : Int)), (5, .int .i64 (p : Int))], [(BIG, .var [.sl uB a]), (BIG + 1, .var [.sl uB b])]⟩
abbrev itT (a b : List Int) (n p t : Nat) (lp : Nat) : PS := ⟨[(0, .yl lp), (1, .ptr BIG 0), (2, .ptr (BIG + 1) 0), (4, .int .i64 (n : Int)), (5, .int .i64 (p : Int)), (6, .int .i64 (t : Int))], [(BIG, .var [.sl uB a]), (BIG + 1, .var [.sl uB b])]⟩
theorem it_in {a b : List Int} (hp : preD a b) (lp : Nat) (ys : List (DL ySh)) {p j : Nat} (hpn : p < minL a b) (hj : j ≤ ys.length) {R : List Rg}
    (next : ∀ t, p < t → t ≤ minL a b → ys.drop j = ((((p : Int), (t : Int)), ()) : DL ySh) :: yl (difF (dAt a b) (minL a b) (minL a b - (t + 1)) (t + 1)) → GE 55 Try.f55 ⟨lp, ySh, ys⟩ (endY ys.length) (hd Try.f55 0) (j + 1, false) (itS a b (minL a b) (t + 1) lp)) : ∀ (m t : Nat), minL a b - t ≤ m → p < t → t ≤ minL a b → (∃ k', minL a b - (runE (dAt a b) (minL a b) m t + 1) ≤ k' ∧ ys.drop j = ((((p : Int), ((runE (dAt a b) (minL a b) m t : Nat) : Int)), ()) : DL ySh) :: yl (difF (dAt a b) (minL a b) k' (runE (dAt a b) (minL a b) m t + 1))) →
    GE 55 Try.f55 ⟨lp, ySh, ys⟩ (endY ys.length) (hd Try.f55 1) (j, false) (itT a b (minL a b) p t lp) := by
  obtain ⟨h1, h2⟩ := hp
  have hm : minL a b ≤ a.length ∧ minL a b ≤ b.length := ⟨Nat.min_le_left _ _, Nat.min_le_right _ _⟩
  have stop : ∀ t, p < t → t ≤ minL a b → (∃ k', minL a b - (t + 1) ≤ k' ∧ ys.drop j = ((((p : Int), (t : Int)), ()) : DL ySh) :: yl (difF (dAt a b) (minL a b) k' (t + 1))) → ys[j]? = some ((((p : Int), (t : Int)), ()) : DL ySh) ∧ GE 55 Try.f55 ⟨lp, ySh, ys⟩ (endY ys.length) (hd Try.f55 0) (j + 1, false) (itS a b (minL a b) (t + 1) lp) := by
    rintro t t1 t2 ⟨k', q1, q2⟩
    rw [difF_fuel (dAt a b) (minL a b) k' (minL a b - (t + 1)) (t + 1) q1 (Nat.le_refl _)] at q2
    refine ⟨?_, next t t1 t2 q2⟩
    have hjl : j < ys.length := by
      rcases Nat.lt_or_ge j ys.length with q | q
      · exact q
      · rw [List.drop_eq_nil_of_le q] at q2; cases q2
    rw [dropc hjl] at q2
    rw [List.getElem?_eq_getElem hjl]
    exact congrArg some (List.cons.inj q2).1
  intro m
  induction m with
  | zero =>
    intro t hk hpt htn hy
    rw [runE] at hy
    obtain ⟨g1, g2⟩ := stop t hpt htn hy
    refine syE_goK dx4 (vc_itB a b (minL a b) p t j false lp ys _ _) ?_
    rw [decide_eq_false (show ¬ (t : Int) < (minL a b : Int) by omega), bc_f, IntWalk.i64_in ((t : Int) + 1) (by omega)]
    refine ⟨rfl, rfl, rfl, g1, fun r => ?_⟩
    cases r with
    | false => exact .inl rfl
    | true => exact g2.only ⟨rfl, rfl, rfl, rfl, rfl, trivial⟩ ⟨rfl, rfl, trivial⟩
  | succ m ih =>
    intro t hk hpt htn hy
    rw [runE] at hy
    refine syE_goK dx4 (vc_itB a b (minL a b) p t j false lp ys _ _) ?_
    by_cases ht : t < minL a b
    · rw [decide_eq_true (show (t : Int) < (minL a b : Int) by omega), bc_t, cond_true, IntWalk.i64_in ((t : Int) + 1) (by omega), Int.toNat_natCast]
      refine ⟨by omega, by omega, by omega, by omega, bc_of (fun h => ?_) (fun h => ?_)⟩
      · have h : dAt a b t = true := h
        rw [if_pos ⟨ht, h⟩] at hy
        exact ih (t + 1) (by omega) (by omega) (by omega) hy
      · have h : dAt a b t = false := h
        rw [if_neg (by rw [h]; simp)] at hy
        obtain ⟨g1, g2⟩ := stop t hpt htn hy
        refine ⟨rfl, rfl, g1, fun r => ?_⟩
        cases r with
        | false => exact .inl rfl
        | true => exact g2.only ⟨rfl, rfl, rfl, rfl, rfl, trivial⟩ ⟨rfl, rfl, trivial⟩
    · rw [if_neg (by omega)] at hy
      obtain ⟨g1, g2⟩ := stop t hpt htn hy
      rw [decide_eq_false (show ¬ (t : Int) < (minL a b : Int) by omega), bc_f, IntWalk.i64_in ((t : Int) + 1) (by omega)]
      refine ⟨rfl, rfl, rfl, g1, fun r => ?_⟩
      cases r with
      | false => exact .inl rfl
      | true => exact g2.only ⟨rfl, rfl, rfl, rfl, rfl, trivial⟩ ⟨rfl, rfl, trivial⟩
theorem it_out {a b : List Int} (hp : preD a b) (lp : Nat) (ys : List (DL ySh)) : ∀ (k p j : Nat), minL a b - p ≤ k → p ≤ minL a b + 1 → j ≤ ys.length → ys.drop j = yl (difF (dAt a b) (minL a b) k p) →
    GE 55 Try.f55 ⟨lp, ySh, ys⟩ (endY ys.length) (hd Try.f55 0) (j, false) (itS a b (minL a b) p lp) := by
  have hp' := hp
  obtain ⟨h1, h2⟩ := hp
  have hm : minL a b ≤ a.length ∧ minL a b ≤ b.length := ⟨Nat.min_le_left _ _, Nat.min_le_right _ _⟩
  have hend : ∀ (p j k : Nat), ¬ p < minL a b → j ≤ ys.length → ys.drop j = yl (difF (dAt a b) (minL a b) k p) → j = ys.length := by
    intro p j k hn hj hd
    have e : difF (dAt a b) (minL a b) k p = [] := by
      cases k with
      | zero => rfl
      | succ k => rw [difF, if_neg hn]
    rw [e] at hd
    have := congrArg List.length hd
    simp only [List.length_drop, yl, List.map_nil, List.length_nil] at this
    omega
  intro k
  induction k using Nat.strongRecOn with
  | ind k ih =>
  intro p j hk hpl hj hd
  refine syE_goK dx4 (vc_itA a b (minL a b) p j false lp ys _ _) ?_
  by_cases hlt : p < minL a b
  · obtain ⟨k, rfl⟩ : ∃ k', k = k' + 1 := ⟨k - 1, by omega⟩
    rw [decide_eq_true (show (p : Int) < (minL a b : Int) by omega), bc_t, Int.toNat_natCast, IntWalk.i64_in ((p : Int) + 1) (by omega)]
    rw [difF, if_pos hlt] at hd
    refine ⟨by omega, by omega, by omega, by omega, bc_of (fun h => ?_) (fun h => ?_)⟩
    · have h : gtB a p = gtB b p := of_decide_eq_true h
      rw [if_neg (by unfold dAt; simp [h])] at hd
      exact ih k (by omega) (p + 1) j (by omega) (by omega) hj hd
    · have h : ¬ gtB a p = gtB b p := of_decide_eq_false h
      rw [if_pos (by unfold dAt; simp [h])] at hd
      have hjl : j < ys.length := by
        rcases Nat.lt_or_ge j ys.length with q | q
        · exact q
        · rw [List.drop_eq_nil_of_le q] at hd; cases hd
      refine it_in hp' lp ys hlt hj (R := []) (fun t t1 t2 q => ?_) (minL a b - p) (p + 1) (by omega) (by omega) (by omega) ⟨k, by
        have := runE_bd (dAt a b) (minL a b) (minL a b - p) (p + 1) (by omega); omega, hd⟩
      rw [dropc hjl] at q
      exact ih (minL a b - (t + 1)) (by omega) (t + 1) (j + 1) (Nat.le_refl _) (by omega) (by omega) (List.cons.inj q).2
  · rw [decide_eq_false (by omega), bc_f]
    exact .inr (hend p j k hlt hj hd)
theorem it_run {a b : List Int} (hp : preD a b) (lp : Nat) : GE 55 Try.f55 ⟨lp, ySh, yl (difL a b)⟩ (endY (yl (difL a b)).length) [.code (bodyOf Try.f55)] (0, false) (entryY lp capK ((a, ()), (b, ()), ())) := by
  refine syE_go dx4 (vc_it a b lp _ _ _) ?_
  have e : min (a.length : Int) (b.length : Int) = (minL a b : Int) := by unfold minL; omega
  rw [e]
  exact (it_out hp lp _ (minL a b) 0 0 (by omega) (by omega) (Nat.zero_le _) rfl).only ⟨rfl, rfl, rfl, rfl, rfl, trivial⟩ ⟨rfl, rfl, trivial⟩
theorem it_held : HeldY Try.prog G0 55 ctIt := HeldY.of (fn := Try.f55) rfl rfl rfl ⟨by decide, by decide⟩ fun x hp lp => it_run hp lp
theorem mtL_nil {π : Nat → Option Nat} : MtL π [] [] := by simp only [MtL]
theorem mtL_cons {π : Nat → Option Nat} {s t : SV} {l r : List SV} (h1 : Mt π s t) (h2 : MtL π l r) : MtL π (s :: l) (t :: r) := by simp only [MtL]; exact ⟨t, r, rfl, h1, h2⟩
theorem mt_ptr {π : Nat → Option Nat} {i j o : Nat} (h : π i = some j) : Mt π (.ptr i o) (.ptr j o) := by simp only [Mt]; exact ⟨j, rfl, h⟩
theorem mt_fn {π : Nat → Option Nat} {f : Nat} {a a' c c' : List SV} (h1 : MtL π a a') (h2 : MtL π c c') : Mt π (.fn f a c) (.fn f a' c') := by simp only [Mt]; exact ⟨a', c', rfl, h1, h2⟩
abbrev K47 : List AK := [.dat (.sl uB), .dat (.sl uB)]
def ctDfm : CtrI := ⟨K47, fun _ => True, fun _ => [.fn 55 [] [.ptr 0 0, .ptr 1 0]], fun x => [(0, .var [.sl uB x.1]), (1, .var [.sl uB x.2.1])]⟩
theorem dfm_run (a b : List Int) (R : List Item → PS → Prop) : sy tt G0 [] Try.f47.ntmps Try.f47.results.toList (QI ctDfm (a, b, ())) R 1000 [.code (bodyOf Try.f47)] (entryI K47 (a, b, ())) := by
  rw [vc_dfm a b]
  refine ⟨[(0, 2), (1, 3)], ?_, ?_, by decide, fun p hp => ?_⟩
  rotate_left 2
  · simp only [List.mem_cons, List.not_mem_nil, or_false] at hp
    rcases hp with rfl | rfl <;> decide
  all_goals
    have p0 : piOf [(0, 2), (1, 3)] 0 = some 2 := by decide
    have p1 : piOf [(0, 2), (1, 3)] 1 = some 3 := by decide
  · exact mtL_cons (mt_fn mtL_nil (mtL_cons (mt_ptr p0) (mtL_cons (mt_ptr p1) mtL_nil))) mtL_nil
  · exact ⟨.inl ⟨2, _, p0, rfl, _, rfl, mtL_flat _ _ rfl⟩, .inl ⟨3, _, p1, rfl, _, rfl, mtL_flat _ _ rfl⟩, trivial⟩
theorem dfm_held : HeldI Try.prog G0 47 ctDfm := HeldI.run cx0 (fn := Try.f47) rfl rfl ⟨by decide, by decide⟩ fun x _ => dfm_run x.1 x.2.1 _
abbrev D6 : CV := (47, .inr ctDfm) :: D5
theorem dx6 : CxOK Try.prog tt G0 D6 := dx5.consI dfm_held (fn := Try.f47) rfl rfl rfl
end Go.Proofs.Ythcjddhlindopaa
namespace Go.Proofs.Ythcjddhlindopaa
open Go.Px Go.Ax
set_option maxRecDepth 100000
theorem vc_spr (a d : List Int) (l : List Rg) (Q : List SV → List (Nat × LB) → Prop) (R : List Item → PS → Prop) : sy tt G0 D6 Try.f17.ntmps Try.f17.results.toList Q R 1000 [.code (bodyOf Try.f17)] (entry [.sl uB, .sl rgS, .sl uB] (a, l, d, ())) =
    (ctRt.pre (l, (↑a.length : Int), ()) ∧
 bc (!rightB l (↑a.length : Int)) (true = true ∧
 Q [SV.nils, SV.int IntKind.i64 (1 : Int)] []) (ctTot.pre (l, ()) ∧
 bc (bif false then true else decide (totW (0 : Int) l ≠ (↑d.length : Int))) (Q [SV.nils, SV.int IntKind.i64 (1 : Int)] []) (a.length < (2 : Nat) ^ (30 : Nat) ∧
 (1 : Nat) ≤ (2 : Nat) ^ (10 : Nat) ∧
 R (hd Try.f17 (0 : Nat)) { env := [((0 : Nat), SV.sl (Sh.int IntKind.u8) a), ((1 : Nat), SV.sl rgS l), ((2 : Nat), SV.sl (Sh.int IntKind.u8) d), ((6 : Nat), SV.nils), ((7 : Nat), SV.int IntKind.i64 (0 : Int)), ((8 : Nat), SV.win true (Sh.int IntKind.u8) (25 : Nat) (0 : Nat) a.length), ((12 : Nat), SV.sl rgS l), ((13 : Nat), SV.sl (Sh.int IntKind.u8) a), ((14 : Nat), SV.int IntKind.i64 (↑a.length : Int)), ((15 : Nat), SV.bool (rightB l (↑a.length : Int))), ((16 : Nat), SV.bool !rightB l (↑a.length : Int)), ((17 : Nat), SV.bool false), ((18 : Nat), SV.sl rgS l), ((19 : Nat), SV.int IntKind.i64 (totW (0 : Int) l)), ((20 : Nat), SV.sl (Sh.int IntKind.u8) d), ((21 : Nat), SV.int IntKind.i64 (↑d.length : Int)), ((22 : Nat), SV.bool (decide (totW (0 : Int) l ≠ (↑d.length : Int)))), ((23 : Nat), SV.bool (bif false then true else decide (totW (0 : Int) l ≠ (↑d.length : Int)))), ((24 : Nat), SV.sl (Sh.int IntKind.u8) a), ((25 : Nat), SV.win true (Sh.int IntKind.u8) (25 : Nat) (0 : Nat) a.length), ((26 : Nat), SV.sl rgS l), ((27 : Nat), SV.int IntKind.i64 (↑l.length : Int)), ((28 : Nat), SV.int IntKind.i64 (0 : Int))], blk := [((25 : Nat), LB.row (5 : Nat) (Sh.int IntKind.u8) a)] }))) := by kernel_rfl
theorem vc_sprL (o d : List Int) (l : List Rg) (i : Int) (Q : List SV → List (Nat × LB) → Prop) (R : List Item → PS → Prop) : sy tt G0 D6 Try.f17.ntmps Try.f17.results.toList Q (fun it S => R it (keepS [2, 8, 26, 27, 28] [25] S)) 1000 (hd Try.f17 0) ⟨[(2, .sl uB d), (8, .win true uB 25 0 o.length), (26, .sl rgS l), (27, .int .i64 l.length), (28, .int .i64 i)], [(25, .row 5 uB o)]⟩ =
    (bc (decide (i < (↑l.length : Int))) ((0 : Int) ≤ i ∧
 i < (↑l.length : Int) ∧
 (0 : Int) ≤ (gtR l i.toNat).fst ∧
 (gtR l i.toNat).fst ≤ (gtR l i.toNat).snd ∧
 (gtR l i.toNat).snd ≤ (↑o.length : Int) ∧
 (0 : Nat) + o.length ≤ o.length ∧
 (0 : Nat) + Int.toNat (gtR l i.toNat).fst + (Int.toNat (gtR l i.toNat).snd - Int.toNat (gtR l i.toNat).fst) ≤ o.length ∧
 (0 : Int) ≤ (↑(min d.length (Int.toNat (gtR l i.toNat).snd - Int.toNat (gtR l i.toNat).fst)) : Int) ∧
 (↑(min d.length (Int.toNat (gtR l i.toNat).snd - Int.toNat (gtR l i.toNat).fst)) : Int) ≤ (↑d.length : Int) ∧
 R (hd Try.f17 (0 : Nat)) { env := [((2 : Nat), SV.sl (Sh.int IntKind.u8) (List.drop (↑(min d.length (Int.toNat (gtR l i.toNat).snd - Int.toNat (gtR l i.toNat).fst)) : Int).toNat d)), ((8 : Nat), SV.win true (Sh.int IntKind.u8) (25 : Nat) (0 : Nat) o.length), ((26 : Nat), SV.sl rgS l), ((27 : Nat), SV.int IntKind.i64 (↑l.length : Int)), ((28 : Nat), SV.int IntKind.i64 (IntKind.i64.wrap (i + (1 : Int))))], blk := [((25 : Nat), LB.row (5 : Nat) (Sh.int IntKind.u8) (setRow o ((0 : Nat) + Int.toNat (gtR l i.toNat).fst) (List.take (Int.toNat (gtR l i.toNat).snd - Int.toNat (gtR l i.toNat).fst) d)))] }) (Q [SV.win true (Sh.int IntKind.u8) (25 : Nat) (0 : Nat) o.length, SV.int IntKind.i64 (0 : Int)] [((25 : Nat), LB.row (5 : Nat) (Sh.int IntKind.u8) o)])) := by kernel_rfl
theorem vc_chg (a b : List Int) (Q : List SV → List (Nat × LB) → Prop) (R : List Item → PS → Prop) : sy tt G0 D6 Try.f26.ntmps Try.f26.results.toList Q R 1000 [.code (bodyOf Try.f26)] (entry [.sl uB, .sl uB] (a, b, ())) =
    (ctDfm.pre (a, b, ()) ∧
 R (hd Try.f26 (0 : Nat)) { env := [((0 : Nat), SV.sl (Sh.int IntKind.u8) a), ((1 : Nat), SV.sl (Sh.int IntKind.u8) b), ((4 : Nat), SV.nils), ((5 : Nat), SV.ptr (5 : Nat) (0 : Nat)), ((7 : Nat), SV.sl (Sh.int IntKind.u8) a), ((8 : Nat), SV.sl (Sh.int IntKind.u8) b), ((9 : Nat), SV.fn (55 : Nat) [] [SV.ptr (1036864 : Nat) (0 : Nat), SV.ptr (1036865 : Nat) (0 : Nat)])], blk := [((5 : Nat), LB.var [SV.nils]), ((1036864 : Nat), LB.var [SV.sl (Sh.int IntKind.u8) a]), ((1036865 : Nat), LB.var [SV.sl (Sh.int IntKind.u8) b])] }) := by kernel_rfl
theorem vc_chgR (o : List Rg) (r : Rg) (j : Nat) (q : Bool) (Q : AExit → Nat × Bool → PS → Prop) (R : List Item → Nat × Bool → PS → Prop) : syE tt G0 D6 Try.f26.ntmps Y0 Q R .ready 1000 (rnd Try.f26 0) (j, q) (entryR [5] [10] KR ySh ((o, ()), ()) (r, ())) =
    ((0 : Nat) + (1 : Nat) ≤ ((List.replicate (1 : Nat) rgS.dflt).set (0 : Nat) (r.fst, r.snd)).length ∧
 o.length = o.length ∧
 (0 : Nat) = (0 : Nat) ∧
 o.length + (winL ((fun self => self.6) (mkT (2 : Nat) (16 : Nat) true (TK.struct [((0 : Nat), (3 : TypeId)), ((1 : Nat), (3 : TypeId))]) rgS (some IntKind.i64))) (0 : Nat) (1 : Nat) ((List.replicate (1 : Nat) rgS.dflt).set (0 : Nat) (r.fst, r.snd))).length < (2 : Nat) ^ (30 : Nat) ∧
 (16 : Nat) ≤ (2 : Nat) ^ (10 : Nat) ∧
 Q AExit.normal (j, q) { env := [((6 : Nat), SV.ptr (6 : Nat) (0 : Nat)), ((10 : Nat), SV.agg [SV.int IntKind.i64 r.fst, SV.int IntKind.i64 r.snd]), ((5 : Nat), SV.ptr (1099511627776 : Nat) (0 : Nat)), ((11 : Nat), SV.dead), ((12 : Nat), SV.agg [SV.int IntKind.i64 r.fst, SV.int IntKind.i64 r.snd]), ((13 : Nat), SV.win true rgS (13 : Nat) (0 : Nat) (1 : Nat)), ((14 : Nat), SV.win true rgS (14 : Nat) (0 : Nat) (o.length + (winL ((fun self => self.6) (mkT (2 : Nat) (16 : Nat) true (TK.struct [((0 : Nat), (3 : TypeId)), ((1 : Nat), (3 : TypeId))]) rgS (some IntKind.i64))) (0 : Nat) (1 : Nat) ((List.replicate (1 : Nat) rgS.dflt).set (0 : Nat) (r.fst, r.snd))).length))], blk := [((6 : Nat), LB.var [SV.int IntKind.i64 r.fst, SV.int IntKind.i64 r.snd]), ((13 : Nat), LB.row (57 : Nat) rgS ((List.replicate (1 : Nat) rgS.dflt).set (0 : Nat) (r.fst, r.snd))), ((14 : Nat), LB.row (57 : Nat) rgS (o ++ winL rgS (0 : Nat) (1 : Nat) ((List.replicate (1 : Nat) rgS.dflt).set (0 : Nat) (r.fst, r.snd)))), ((1099511627776 : Nat), LB.var [SV.win true rgS (14 : Nat) (0 : Nat) (o.length + (winL ((fun self => self.6) (mkT (2 : Nat) (16 : Nat) true (TK.struct [((0 : Nat), (3 : TypeId)), ((1 : Nat), (3 : TypeId))]) rgS (some IntKind.i64))) (0 : Nat) (1 : Nat) ((List.replicate (1 : Nat) rgS.dflt).set (0 : Nat) (r.fst, r.snd))).length)])] }) := by kernel_rfl
theorem vc_chgK (o : List Rg) (j : Nat) (q : Bool) (Q : AExit → Nat × Bool → PS → Prop) (R : List Item → Nat × Bool → PS → Prop) : syE tt G0 D6 Try.f26.ntmps Y0 Q R .fn 1000 (rfK Try.f26 0) (j, q) (⟨[(5, .ptr 5 0)], [(5, .var [.win true rgS 1086016 0 o.length]), (1086016, .row 57 rgS o)]⟩) =
    (Q AExit.ret (j, q) { env := [((4 : Nat), SV.win true rgS (1086016 : Nat) (0 : Nat) o.length), ((5 : Nat), SV.ptr (5 : Nat) (0 : Nat)), ((15 : Nat), SV.win true rgS (1086016 : Nat) (0 : Nat) o.length)], blk := [((5 : Nat), LB.var [SV.win true rgS (1086016 : Nat) (0 : Nat) o.length]), ((1086016 : Nat), LB.row (57 : Nat) rgS o)] }) := by kernel_rfl
end Go.Proofs.Ythcjddhlindopaa
namespace Go.Proofs.Ythcjddhlindopaa
open Go.Px Go.Ax
attribute [local irreducible] Go.Px.sy Go.Px.syE
theorem hd26 : hd Try.f26 0 = .code (.rangeFunc (.tmp 9) #[10] (rfA Try.f26 0) (rfB Try.f26 0)) :: rfK Try.f26 0 := by kernel_rfl
theorem rnd26 : rnd Try.f26 0 = [.code (rfA Try.f26 0), .beginRound, .code (rfB Try.f26 0)] := by kernel_rfl
def ctChg : Ctr := ⟨[.sl uB, .sl uB], fun x => preD x.1 x.2.1, fun x => [.win true rgS 0 0 (List.length (difL x.1 x.2.1))], fun x => [.row 57 rgS (difL x.1 x.2.1)]⟩
theorem chg_rounds {QL : AExit → Nat × Bool → DI KR → Prop} {g : Nat × Bool} : ∀ (rs o : List Rg), o.length + rs.length < 2 ^ 30 → QL .normal g ((o ++ rs, ()), ()) →
    RLoop Try.prog G0 26 Try.f26.ntmps Y0 [5] [10] KR ySh (rfA Try.f26 0) (rfB Try.f26 0) QL (yl rs) g ((o, ()), ())
  | [], o, _, h => by
    rw [List.append_nil] at h
    exact h
  | r :: rs, o, hl, h => by
    rw [List.length_cons] at hl
    show GoodE Try.prog G0 26 Try.f26.ntmps .ready Y0 _ [.code (rfA Try.f26 0), .beginRound, .code (rfB Try.f26 0)] g (entryR [5] [10] KR ySh ((o, ()), ()) (r, ()))
    rw [← rnd26]
    refine syE_go dx6 (vc_chgR o r g.1 g.2 _ _) ⟨Nat.le_refl _, rfl, rfl, ?_, by decide, ?_⟩
    · show o.length + 1 < 2 ^ 30
      omega
    · have k := chg_rounds rs (o ++ [r]) (by rw [List.length_append, List.length_singleton]; omega) (by rw [List.append_assoc]; exact h)
      refine ⟨[(BIG + 1, 14)], ((o ++ [r], ()), ()), ⟨?_, rfl, rfl⟩, k⟩
      have e : SV.win true rgS 14 0 (o ++ [r]).length = SV.win true rgS 14 0 (o.length + 1) := by rw [List.length_append, List.length_singleton]
      refine ⟨?_, rfl, trivial⟩
      show some (LB.var [SV.win true rgS 14 0 (o.length + 1)]) = some (LB.var [SV.win true rgS 14 0 (o ++ [r]).length])
      rw [e]
theorem chg_end {a b : List Int} {o : List Rg} {g : Nat × Bool} (ho : o = difL a b) :
    GoodE Try.prog G0 26 Try.f26.ntmps .fn Y0 (endK tt G0 Try.f26.results.toList (QC ctChg (a, b, ()))) (rfK Try.f26 0) g ⟨[(5, .ptr 5 0)], [(5, .var [.win true rgS 1086016 0 o.length]), (1086016, .row 57 rgS o)]⟩ := by
  refine syE_go dx6 (vc_chgK o g.1 g.2 _ _) ?_
  subst ho
  show QC ctChg (a, b, ()) [.win true rgS 1086016 0 (difL a b).length] _
  exact qc_row rfl rfl rfl rfl rfl
def bkF26 (x : DI KR) : List (Nat × LB) := [(BIG, .var [.win true rgS 0 0 x.1.1.length]), (0, .row 57 rgS x.1.1)]
theorem yl_len (l : List Rg) : (yl l).length = l.length := by simp [yl]
theorem chg_run (a b : List Int) (hp : preD a b) : sy tt G0 D6 Try.f26.ntmps Try.f26.results.toList (QC ctChg (a, b, ())) (Px.Good Try.prog tt G0 26 Try.f26.ntmps Try.f26.results.toList (QC ctChg (a, b, ()))) 1000 [.code (bodyOf Try.f26)] (entry [.sl uB, .sl uB] (a, b, ())) := by
  have hp0 := hp
  obtain ⟨hp1, hp2⟩ := hp
  rw [vc_chg]
  refine ⟨trivial, ?_⟩
  have hlen : (difL a b).length ≤ minL a b := difF_len _ _ _ _
  have hm : minL a b ≤ a.length := Nat.min_le_left _ _
  show GoodE Try.prog G0 26 Try.f26.ntmps .fn Y0 (endK tt G0 Try.f26.results.toList (QC ctChg (a, b, ()))) (hd Try.f26 0) (0, false) _
  rw [hd26]
  refine GoodE.rangeF (gf := 55) (ct := ctIt) (Ko := KR) (xi := ((a, ()), (b, ()), ())) (x0 := (([], ()), ())) (ns1 := [some 1036864, some 1036865]) (ns2 := [some 5, none]) (tl := [(5, .ptr 5 0)]) (bkF := bkF26) (rF := [(0, BIG + 1)]) (d := 21) (m := 1)
    (by simp) ?_ it_held rfl rfl rfl ?_ hp0 ⟨rfl, trivial⟩ rfl ?_ (by decide) ⟨by decide, by decide, rfl⟩ rfl ?_ (by decide) ?_
  · exact fun args w => callFunc_enter (fn := Try.f55) rfl rfl rfl args w
  · exact fun c hc => by cases hc
  · exact fun c hc => by cases hc
  · exact fun x hx => ⟨⟨rfl, rfl, trivial⟩, by simp [bkF26, rho, lk, BIG], fun p hp hb => (by
      simp only [bkF26, List.mem_cons, List.not_mem_nil, or_false] at hp
      rcases hp with rfl | rfl
      · exact ⟨rfl, rfl⟩
      · exact absurd hb (show ¬ BIG ≤ 0 by decide)), by kernel_rfl⟩
  · refine chg_rounds _ [] ?_ ?_
    · show 0 + (difL a b).length < 2 ^ 30
      omega
    · exact (chg_end (o := difL a b) rfl).only ⟨by kernel_rfl, trivial⟩ ⟨by kernel_rfl, by kernel_rfl, trivial⟩
theorem chg_held : Held Try.prog G0 26 ctChg := Held.run dx6 (fn := Try.f26) rfl rfl ⟨by decide, by decide⟩ fun x hp => chg_run x.1 x.2.1 hp
/-! Spread -/
def sprF : List Int → List Rg → List Int → List Int
  | o, [], _ => o
  | o, r :: l, d => sprF (setRow o r.1.toNat (d.take (r.2.toNat - r.1.toNat))) l (d.drop (min d.length (r.2.toNat - r.1.toNat)))
def sprOK (a : List Int) (l : List Rg) (d : List Int) : Bool := rightB l a.length && decide (totW 0 l = d.length)
def sprL (a : List Int) (l : List Rg) (d : List Int) : List Int := if sprOK a l d then sprF a l d else []
def sprE (a : List Int) (l : List Rg) (d : List Int) : Int := if sprOK a l d then 0 else 1
def preSp (a : List Int) (l : List Rg) : Prop := a.length < 1048576 ∧ l.length < 2 ^ 62
def ctSpr : Ctr := ⟨[.sl uB, .sl rgS, .sl uB], fun x => preSp x.1 x.2.1, fun x => [.win true uB 0 0 (List.length (sprL x.1 x.2.1 x.2.2.1)), .int .i64 (sprE x.1 x.2.1 x.2.2.1)], fun x => [.row 5 uB (sprL x.1 x.2.1 x.2.2.1)]⟩
theorem setRow_len {o : List Int} {k : Nat} {y : List Int} (h : k + y.length ≤ o.length) : (setRow o k y).length = o.length := by
  unfold setRow
  simp only [List.length_append, List.length_take, List.length_drop]; omega
theorem spr_loop {a d0 : List Int} {l : List Rg} {n : Nat} (hn : n < 1048576) (hl : l.length < 2 ^ 62) (hok : sprOK a l d0 = true) {x : List Int} (hx : x = sprF a l d0) : ∀ (k i : Nat) (e : Int) (o d : List Int), l.length - i ≤ k → i ≤ l.length → o.length = n → -1 ≤ e → rightF n e (l.drop i) = true → sprF o (l.drop i) d = x →
    GD 17 Try.f17 (QC ctSpr (a, l, d0, ())) (hd Try.f17 0) ⟨[(2, .sl uB d), (8, .win true uB 25 0 o.length), (26, .sl rgS l), (27, .int .i64 l.length), (28, .int .i64 (i : Nat))], [(25, .row 5 uB o)]⟩ := by
  have e1 : sprL a l d0 = sprF a l d0 := by rw [sprL, hok]; rfl
  have e2 : sprE a l d0 = 0 := by rw [sprE, hok]; rfl
  intro k
  induction k with
  | zero =>
    intro i e o d hk hi _ _ _ ho
    rw [List.drop_eq_nil_of_le (by omega), sprF, hx] at ho
    refine sy_goK dx6 (vc_sprL o d l i _ _) ?_
    rw [decide_eq_false (by omega), bc_f]
    subst ho
    refine QC.row1 (e := uB) (et := 5) (xs := sprL a l d0) (n := 0) (a := 25) (k := (sprF a l d0).length) ?_ rfl rfl (by rw [e1]) (by rw [e1]; rfl)
    show [SV.win true uB 0 0 (sprL a l d0).length, SV.int .i64 (sprE a l d0)] = _
    rw [e2]
  | succ k ih =>
    intro i e o d hk hi hon he hr ho
    by_cases h : i < l.length
    · refine sy_goK dx6 (vc_sprL o d l i _ _) ?_
      have g1 : gtR l (i : Int).toNat = l[i] := gtR_at h
      rw [rightF_step h, Bool.and_eq_true, decide_eq_true_eq] at hr
      obtain ⟨⟨r1, r2, r3⟩, r4⟩ := hr
      rw [dropc h, sprF] at ho
      rw [decide_eq_true (show (i : Int) < (l.length : Int) by omega), bc_t, g1, IntWalk.i64_in ((i : Int) + 1) (by omega)]
      generalize l[i] = r at *
      have hsl : (setRow o r.1.toNat (d.take (r.2.toNat - r.1.toNat))).length = o.length := setRow_len (by rw [List.length_take]; omega)
      have k2 := ih (i + 1) r.2 _ _ (by omega) (by omega) (hsl.trans hon) (by omega) r4 ho
      simp only [Nat.zero_add, Int.toNat_natCast]
      refine ⟨by omega, by omega, by omega, by omega, by omega, by omega, by omega, by omega, by omega, k2.only ⟨rfl, ?_, rfl, rfl, rfl, trivial⟩ ⟨rfl, trivial⟩⟩
      show some (SV.win true uB 25 0 o.length) = some (SV.win true uB 25 0 (setRow o r.1.toNat (d.take (r.2.toNat - r.1.toNat))).length)
      rw [hsl]
    · exact ih i e o d (by omega) hi hon he hr ho
theorem spr_run (a : List Int) (l : List Rg) (d : List Int) (hp : preSp a l) : sy tt G0 D6 Try.f17.ntmps Try.f17.results.toList (QC ctSpr (a, l, d, ())) (Px.Good Try.prog tt G0 17 Try.f17.ntmps Try.f17.results.toList (QC ctSpr (a, l, d, ()))) 1000 [.code (bodyOf Try.f17)] (entry [.sl uB, .sl rgS, .sl uB] (a, l, d, ())) := by
  rw [vc_spr]
  obtain ⟨h1, h2⟩ := hp
  have bad : sprOK a l d = false → QC ctSpr (a, l, d, ()) [.nils, .int .i64 1] [] := by
    intro h
    have e1 : sprL a l d = [] := by rw [sprL, h]; rfl
    have e2 : sprE a l d = 1 := by rw [sprE, h]; rfl
    refine QC.nil1 (e := uB) (et := 5) ?_ ?_ (by decide)
    · show [SV.win true uB 0 0 (sprL a l d).length, SV.int .i64 (sprE a l d)] = _
      rw [e1, e2]; rfl
    · show [LB.row 5 uB (sprL a l d)] = _
      rw [e1]
  refine ⟨h2, bc_of (fun h => ⟨rfl, bad ?_⟩) (fun h => ⟨h2, ?_⟩)⟩
  · simp only [Bool.not_eq_true'] at h
    rw [sprOK, h]; rfl
  · simp only [Bool.not_eq_false'] at h
    rw [cond_false]
    refine bc_of (fun h3 => bad ?_) (fun h3 => ?_)
    · have h3 : totW 0 l ≠ d.length := of_decide_eq_true h3
      rw [sprOK, decide_eq_false h3, Bool.and_false]
    · have h3 : ¬ totW 0 l ≠ d.length := of_decide_eq_false h3
      have hok : sprOK a l d = true := by rw [sprOK, h, decide_eq_true (Classical.not_not.1 h3)]; rfl
      exact ⟨by omega, by decide, (spr_loop (n := a.length) h1 h2 hok rfl _ 0 (-1) a d (Nat.le_refl _) (Nat.zero_le _) rfl (by omega) h rfl).only ⟨rfl, rfl, rfl, rfl, rfl, trivial⟩ ⟨rfl, trivial⟩⟩
theorem spr_held : Held Try.prog G0 17 ctSpr := Held.run dx6 (fn := Try.f17) rfl rfl ⟨by decide, by decide⟩ fun x hp => spr_run x.1 x.2.1 x.2.2.1 hp
abbrev D7 : CV := (17, .inl ctSpr) :: (26, .inl ctChg) :: D6
theorem dx7 : CxOK Try.prog tt G0 D7 := (dx6.cons chg_held (fn := Try.f26) rfl rfl rfl).cons spr_held (fn := Try.f17) rfl rfl rfl
end Go.Proofs.Ythcjddhlindopaa
namespace Go.Proofs.Ythcjddhlindopaa
open Go.Px Go.Ax
set_option maxRecDepth 100000
theorem vc_l7 (a : List Int) (l : List (List Int)) (Q : List SV → List (Nat × LB) → Prop) (R : List Item → PS → Prop) : sy tt G0 D7 Try.f7.ntmps Try.f7.results.toList Q R 1000 [.code (bodyOf Try.f7)] (entry [.sl uB, .sl p2S] (a, l, ())) =
    (ctSan.pre () ∧
 ctLim.pre (a, (200 : Int), ()) ∧
 ctEdi.pre (List.take (Int.toNat (200 : Int)) a, l, ()) ∧
 (0 : Nat) + (ediL (List.take (Int.toNat (200 : Int)) a) l).length ≤ (ediL (List.take (Int.toNat (200 : Int)) a) l).length ∧
 ctChg.pre (List.take (Int.toNat (200 : Int)) a, winL uB (0 : Nat) (ediL (List.take (Int.toNat (200 : Int)) a) l).length (ediL (List.take (Int.toNat (200 : Int)) a) l), ()) ∧
 (0 : Nat) + (difL (List.take (Int.toNat (200 : Int)) a) (winL uB (0 : Nat) (ediL (List.take (Int.toNat (200 : Int)) a) l).length (ediL (List.take (Int.toNat (200 : Int)) a) l))).length ≤ (difL (List.take (Int.toNat (200 : Int)) a) (winL uB (0 : Nat) (ediL (List.take (Int.toNat (200 : Int)) a) l).length (ediL (List.take (Int.toNat (200 : Int)) a) l))).length ∧
 ctRt.pre (winL rgS (0 : Nat) (difL (List.take (Int.toNat (200 : Int)) a) (winL uB (0 : Nat) (ediL (List.take (Int.toNat (200 : Int)) a) l).length (ediL (List.take (Int.toNat (200 : Int)) a) l))).length (difL (List.take (Int.toNat (200 : Int)) a) (winL uB (0 : Nat) (ediL (List.take (Int.toNat (200 : Int)) a) l).length (ediL (List.take (Int.toNat (200 : Int)) a) l))), (↑(List.take (Int.toNat (200 : Int)) a).length : Int), ()) ∧
 bc (!rightB (winL rgS (0 : Nat) (difL (List.take (Int.toNat (200 : Int)) a) (winL uB (0 : Nat) (ediL (List.take (Int.toNat (200 : Int)) a) l).length (ediL (List.take (Int.toNat (200 : Int)) a) l))).length (difL (List.take (Int.toNat (200 : Int)) a) (winL uB (0 : Nat) (ediL (List.take (Int.toNat (200 : Int)) a) l).length (ediL (List.take (Int.toNat (200 : Int)) a) l)))) (↑(List.take (Int.toNat (200 : Int)) a).length : Int)) (Q [SV.bool false] [((1086016 : Nat), LB.row (5 : Nat) (Sh.int IntKind.u8) (ediL (List.take (Int.toNat (200 : Int)) a) l)), ((1098304 : Nat), LB.row (57 : Nat) rgS (difL (List.take (Int.toNat (200 : Int)) a) (winL uB (0 : Nat) (ediL (List.take (Int.toNat (200 : Int)) a) l).length (ediL (List.take (Int.toNat (200 : Int)) a) l))))]) (R (hd Try.f7 (0 : Nat)) { env := [((0 : Nat), SV.sl (Sh.int IntKind.u8) a), ((1 : Nat), SV.sl (Sh.arr (2 : Nat) (Sh.int IntKind.u8)) l), ((4 : Nat), SV.bool false), ((5 : Nat), SV.bool true), ((6 : Nat), SV.sl (Sh.int IntKind.u8) (List.take (Int.toNat (200 : Int)) a)), ((7 : Nat), SV.win true (Sh.int IntKind.u8) (1086016 : Nat) (0 : Nat) (ediL (List.take (Int.toNat (200 : Int)) a) l).length), ((8 : Nat), SV.win true rgS (1098304 : Nat) (0 : Nat) (difL (List.take (Int.toNat (200 : Int)) a) (winL uB (0 : Nat) (ediL (List.take (Int.toNat (200 : Int)) a) l).length (ediL (List.take (Int.toNat (200 : Int)) a) l))).length), ((9 : Nat), SV.int IntKind.i64 (0 : Int)), ((16 : Nat), SV.bool true), ((17 : Nat), SV.sl (Sh.int IntKind.u8) a), ((18 : Nat), SV.sl (Sh.int IntKind.u8) (List.take (Int.toNat (200 : Int)) a)), ((19 : Nat), SV.sl (Sh.int IntKind.u8) (List.take (Int.toNat (200 : Int)) a)), ((20 : Nat), SV.sl (Sh.arr (2 : Nat) (Sh.int IntKind.u8)) l), ((21 : Nat), SV.win true (Sh.int IntKind.u8) (1086016 : Nat) (0 : Nat) (ediL (List.take (Int.toNat (200 : Int)) a) l).length), ((22 : Nat), SV.sl (Sh.int IntKind.u8) (List.take (Int.toNat (200 : Int)) a)), ((23 : Nat), SV.win true (Sh.int IntKind.u8) (1086016 : Nat) (0 : Nat) (ediL (List.take (Int.toNat (200 : Int)) a) l).length), ((24 : Nat), SV.win true rgS (1098304 : Nat) (0 : Nat) (difL (List.take (Int.toNat (200 : Int)) a) (winL uB (0 : Nat) (ediL (List.take (Int.toNat (200 : Int)) a) l).length (ediL (List.take (Int.toNat (200 : Int)) a) l))).length), ((25 : Nat), SV.win true rgS (1098304 : Nat) (0 : Nat) (difL (List.take (Int.toNat (200 : Int)) a) (winL uB (0 : Nat) (ediL (List.take (Int.toNat (200 : Int)) a) l).length (ediL (List.take (Int.toNat (200 : Int)) a) l))).length), ((26 : Nat), SV.sl (Sh.int IntKind.u8) (List.take (Int.toNat (200 : Int)) a)), ((27 : Nat), SV.int IntKind.i64 (↑(List.take (Int.toNat (200 : Int)) a).length : Int)), ((28 : Nat), SV.bool (rightB (winL rgS (0 : Nat) (difL (List.take (Int.toNat (200 : Int)) a) (winL uB (0 : Nat) (ediL (List.take (Int.toNat (200 : Int)) a) l).length (ediL (List.take (Int.toNat (200 : Int)) a) l))).length (difL (List.take (Int.toNat (200 : Int)) a) (winL uB (0 : Nat) (ediL (List.take (Int.toNat (200 : Int)) a) l).length (ediL (List.take (Int.toNat (200 : Int)) a) l)))) (↑(List.take (Int.toNat (200 : Int)) a).length : Int))), ((29 : Nat), SV.bool !rightB (winL rgS (0 : Nat) (difL (List.take (Int.toNat (200 : Int)) a) (winL uB (0 : Nat) (ediL (List.take (Int.toNat (200 : Int)) a) l).length (ediL (List.take (Int.toNat (200 : Int)) a) l))).length (difL (List.take (Int.toNat (200 : Int)) a) (winL uB (0 : Nat) (ediL (List.take (Int.toNat (200 : Int)) a) l).length (ediL (List.take (Int.toNat (200 : Int)) a) l)))) (↑(List.take (Int.toNat (200 : Int)) a).length : Int))], blk := [((1086016 : Nat), LB.row (5 : Nat) (Sh.int IntKind.u8) (ediL (List.take (Int.toNat (200 : Int)) a) l)), ((1098304 : Nat), LB.row (57 : Nat) rgS (difL (List.take (Int.toNat (200 : Int)) a) (winL uB (0 : Nat) (ediL (List.take (Int.toNat (200 : Int)) a) l).length (ediL (List.take (Int.toNat (200 : Int)) a) l))))] })) := by kernel_rfl
theorem vc_l7A (x y : List Int) (r : List Rg) (i : Int) (Q : List SV → List (Nat × LB) → Prop) (R : List Item → PS → Prop) : sy tt G0 D7 Try.f7.ntmps Try.f7.results.toList Q (fun it S => R it (keepS [5, 6, 7, 8, 9, 10, 11] [1086016, 1098304] S)) 1000 (hd Try.f7 0) ⟨[(5, .bool true), (6, .sl uB x), (7, .win true uB 1086016 0 y.length), (8, .win true rgS 1098304 0 r.length), (9, .int .i64 i)], [(1086016, .row 5 uB y), (1098304, .row 57 rgS r)]⟩ =
    (bc (decide (i < (↑x.length : Int))) (R (hd Try.f7 (1 : Nat)) { env := [((5 : Nat), SV.bool true), ((6 : Nat), SV.sl (Sh.int IntKind.u8) x), ((7 : Nat), SV.win true (Sh.int IntKind.u8) (1086016 : Nat) (0 : Nat) y.length), ((8 : Nat), SV.win true rgS (1098304 : Nat) (0 : Nat) r.length), ((9 : Nat), SV.int IntKind.i64 i), ((10 : Nat), SV.bool false), ((11 : Nat), SV.int IntKind.i64 (0 : Int))], blk := [((1086016 : Nat), LB.row (5 : Nat) (Sh.int IntKind.u8) y), ((1098304 : Nat), LB.row (57 : Nat) rgS r)] }) ((0 : Nat) + y.length ≤ y.length ∧
 (0 : Nat) + r.length ≤ r.length ∧
 ctPck.pre (winL uB (0 : Nat) y.length y, winL rgS (0 : Nat) r.length r, ()) ∧
 (0 : Nat) + r.length ≤ r.length ∧
 (0 : Nat) + (pickL (winL uB (0 : Nat) y.length y) (winL rgS (0 : Nat) r.length r)).length ≤ (pickL (winL uB (0 : Nat) y.length y) (winL rgS (0 : Nat) r.length r)).length ∧
 ctSpr.pre (x, winL rgS (0 : Nat) r.length r, winL uB (0 : Nat) (pickL (winL uB (0 : Nat) y.length y) (winL rgS (0 : Nat) r.length r)).length (pickL (winL uB (0 : Nat) y.length y) (winL rgS (0 : Nat) r.length r)), ()) ∧
 (0 : Nat) + r.length ≤ r.length ∧
 ctPck.pre (x, winL rgS (0 : Nat) r.length r, ()) ∧
 (0 : Nat) + y.length ≤ y.length ∧
 (0 : Nat) + r.length ≤ r.length ∧
 (0 : Nat) + (pickL x (winL rgS (0 : Nat) r.length r)).length ≤ (pickL x (winL rgS (0 : Nat) r.length r)).length ∧
 ctSpr.pre (winL uB (0 : Nat) y.length y, winL rgS (0 : Nat) r.length r, winL uB (0 : Nat) (pickL x (winL rgS (0 : Nat) r.length r)).length (pickL x (winL rgS (0 : Nat) r.length r)), ()) ∧
 bc (bif true then decide (sprE x (winL rgS (0 : Nat) r.length r) (winL uB (0 : Nat) (pickL (winL uB (0 : Nat) y.length y) (winL rgS (0 : Nat) r.length r)).length (pickL (winL uB (0 : Nat) y.length y) (winL rgS (0 : Nat) r.length r))) = (0 : Int)) else false) (bc (bif true then decide (sprE (winL uB (0 : Nat) y.length y) (winL rgS (0 : Nat) r.length r) (winL uB (0 : Nat) (pickL x (winL rgS (0 : Nat) r.length r)).length (pickL x (winL rgS (0 : Nat) r.length r))) = (0 : Int)) else false) ((0 : Nat) + (sprL x (winL rgS (0 : Nat) r.length r) (winL uB (0 : Nat) (pickL (winL uB (0 : Nat) y.length y) (winL rgS (0 : Nat) r.length r)).length (pickL (winL uB (0 : Nat) y.length y) (winL rgS (0 : Nat) r.length r)))).length ≤ (sprL x (winL rgS (0 : Nat) r.length r) (winL uB (0 : Nat) (pickL (winL uB (0 : Nat) y.length y) (winL rgS (0 : Nat) r.length r)).length (pickL (winL uB (0 : Nat) y.length y) (winL rgS (0 : Nat) r.length r)))).length ∧
 (0 : Nat) + y.length ≤ y.length ∧
 bc (bif true then decide (List.map toB (winL (Sh.int IntKind.u8) (0 : Nat) (sprL x (winL rgS (0 : Nat) r.length r) (winL uB (0 : Nat) (pickL (winL uB (0 : Nat) y.length y) (winL rgS (0 : Nat) r.length r)).length (pickL (winL uB (0 : Nat) y.length y) (winL rgS (0 : Nat) r.length r)))).length (sprL x (winL rgS (0 : Nat) r.length r) (winL uB (0 : Nat) (pickL (winL uB (0 : Nat) y.length y) (winL rgS (0 : Nat) r.length r)).length (pickL (winL uB (0 : Nat) y.length y) (winL rgS (0 : Nat) r.length r))))) = List.map toB (winL (Sh.int IntKind.u8) (0 : Nat) y.length y)) else false) ((0 : Nat) + (sprL (winL uB (0 : Nat) y.length y) (winL rgS (0 : Nat) r.length r) (winL uB (0 : Nat) (pickL x (winL rgS (0 : Nat) r.length r)).length (pickL x (winL rgS (0 : Nat) r.length r)))).length ≤ (sprL (winL uB (0 : Nat) y.length y) (winL rgS (0 : Nat) r.length r) (winL uB (0 : Nat) (pickL x (winL rgS (0 : Nat) r.length r)).length (pickL x (winL rgS (0 : Nat) r.length r)))).length ∧
 bc (bif true then decide (List.map toB (winL (Sh.int IntKind.u8) (0 : Nat) (sprL (winL uB (0 : Nat) y.length y) (winL rgS (0 : Nat) r.length r) (winL uB (0 : Nat) (pickL x (winL rgS (0 : Nat) r.length r)).length (pickL x (winL rgS (0 : Nat) r.length r)))).length (sprL (winL uB (0 : Nat) y.length y) (winL rgS (0 : Nat) r.length r) (winL uB (0 : Nat) (pickL x (winL rgS (0 : Nat) r.length r)).length (pickL x (winL rgS (0 : Nat) r.length r))))) = List.map toB x) else false) (ctChg.pre (x, x, ()) ∧
 Q [SV.bool (bif true then decide ((↑(difL x x).length : Int) = (0 : Int)) else false)] [((1086016 : Nat), LB.row (5 : Nat) (Sh.int IntKind.u8) y), ((1098304 : Nat), LB.row (57 : Nat) rgS r), ((1315392 : Nat), LB.row (5 : Nat) (Sh.int IntKind.u8) (pickL (winL uB (0 : Nat) y.length y) (winL rgS (0 : Nat) r.length r))), ((1319488 : Nat), LB.row (5 : Nat) (Sh.int IntKind.u8) (sprL x (winL rgS (0 : Nat) r.length r) (winL uB (0 : Nat) (pickL (winL uB (0 : Nat) y.length y) (winL rgS (0 : Nat) r.length r)).length (pickL (winL uB (0 : Nat) y.length y) (winL rgS (0 : Nat) r.length r))))), ((1352256 : Nat), LB.row (5 : Nat) (Sh.int IntKind.u8) (pickL x (winL rgS (0 : Nat) r.length r))), ((1356352 : Nat), LB.row (5 : Nat) (Sh.int IntKind.u8) (sprL (winL uB (0 : Nat) y.length y) (winL rgS (0 : Nat) r.length r) (winL uB (0 : Nat) (pickL x (winL rgS (0 : Nat) r.length r)).length (pickL x (winL rgS (0 : Nat) r.length r))))), ((1475136 : Nat), LB.row (57 : Nat) rgS (difL x x))]) (false = false ∧
 Q [SV.bool false] [((1086016 : Nat), LB.row (5 : Nat) (Sh.int IntKind.u8) y), ((1098304 : Nat), LB.row (57 : Nat) rgS r), ((1315392 : Nat), LB.row (5 : Nat) (Sh.int IntKind.u8) (pickL (winL uB (0 : Nat) y.length y) (winL rgS (0 : Nat) r.length r))), ((1319488 : Nat), LB.row (5 : Nat) (Sh.int IntKind.u8) (sprL x (winL rgS (0 : Nat) r.length r) (winL uB (0 : Nat) (pickL (winL uB (0 : Nat) y.length y) (winL rgS (0 : Nat) r.length r)).length (pickL (winL uB (0 : Nat) y.length y) (winL rgS (0 : Nat) r.length r))))), ((1352256 : Nat), LB.row (5 : Nat) (Sh.int IntKind.u8) (pickL x (winL rgS (0 : Nat) r.length r))), ((1356352 : Nat), LB.row (5 : Nat) (Sh.int IntKind.u8) (sprL (winL uB (0 : Nat) y.length y) (winL rgS (0 : Nat) r.length r) (winL uB (0 : Nat) (pickL x (winL rgS (0 : Nat) r.length r)).length (pickL x (winL rgS (0 : Nat) r.length r)))))])) (false = false ∧
 false = false ∧
 Q [SV.bool false] [((1086016 : Nat), LB.row (5 : Nat) (Sh.int IntKind.u8) y), ((1098304 : Nat), LB.row (57 : Nat) rgS r), ((1315392 : Nat), LB.row (5 : Nat) (Sh.int IntKind.u8) (pickL (winL uB (0 : Nat) y.length y) (winL rgS (0 : Nat) r.length r))), ((1319488 : Nat), LB.row (5 : Nat) (Sh.int IntKind.u8) (sprL x (winL rgS (0 : Nat) r.length r) (winL uB (0 : Nat) (pickL (winL uB (0 : Nat) y.length y) (winL rgS (0 : Nat) r.length r)).length (pickL (winL uB (0 : Nat) y.length y) (winL rgS (0 : Nat) r.length r))))), ((1352256 : Nat), LB.row (5 : Nat) (Sh.int IntKind.u8) (pickL x (winL rgS (0 : Nat) r.length r))), ((1356352 : Nat), LB.row (5 : Nat) (Sh.int IntKind.u8) (sprL (winL uB (0 : Nat) y.length y) (winL rgS (0 : Nat) r.length r) (winL uB (0 : Nat) (pickL x (winL rgS (0 : Nat) r.length r)).length (pickL x (winL rgS (0 : Nat) r.length r)))))])) (false = false ∧
 false = false ∧
 false = false ∧
 Q [SV.bool false] [((1086016 : Nat), LB.row (5 : Nat) (Sh.int IntKind.u8) y), ((1098304 : Nat), LB.row (57 : Nat) rgS r), ((1315392 : Nat), LB.row (5 : Nat) (Sh.int IntKind.u8) (pickL (winL uB (0 : Nat) y.length y) (winL rgS (0 : Nat) r.length r))), ((1319488 : Nat), LB.row (5 : Nat) (Sh.int IntKind.u8) (sprL x (winL rgS (0 : Nat) r.length r) (winL uB (0 : Nat) (pickL (winL uB (0 : Nat) y.length y) (winL rgS (0 : Nat) r.length r)).length (pickL (winL uB (0 : Nat) y.length y) (winL rgS (0 : Nat) r.length r))))), ((1352256 : Nat), LB.row (5 : Nat) (Sh.int IntKind.u8) (pickL x (winL rgS (0 : Nat) r.length r))), ((1356352 : Nat), LB.row (5 : Nat) (Sh.int IntKind.u8) (sprL (winL uB (0 : Nat) y.length y) (winL rgS (0 : Nat) r.length r) (winL uB (0 : Nat) (pickL x (winL rgS (0 : Nat) r.length r)).length (pickL x (winL rgS (0 : Nat) r.length r)))))])) (false = false ∧
 false = false ∧
 false = false ∧
 false = false ∧
 Q [SV.bool false] [((1086016 : Nat), LB.row (5 : Nat) (Sh.int IntKind.u8) y), ((1098304 : Nat), LB.row (57 : Nat) rgS r), ((1315392 : Nat), LB.row (5 : Nat) (Sh.int IntKind.u8) (pickL (winL uB (0 : Nat) y.length y) (winL rgS (0 : Nat) r.length r))), ((1319488 : Nat), LB.row (5 : Nat) (Sh.int IntKind.u8) (sprL x (winL rgS (0 : Nat) r.length r) (winL uB (0 : Nat) (pickL (winL uB (0 : Nat) y.length y) (winL rgS (0 : Nat) r.length r)).length (pickL (winL uB (0 : Nat) y.length y) (winL rgS (0 : Nat) r.length r))))), ((1352256 : Nat), LB.row (5 : Nat) (Sh.int IntKind.u8) (pickL x (winL rgS (0 : Nat) r.length r))), ((1356352 : Nat), LB.row (5 : Nat) (Sh.int IntKind.u8) (sprL (winL uB (0 : Nat) y.length y) (winL rgS (0 : Nat) r.length r) (winL uB (0 : Nat) (pickL x (winL rgS (0 : Nat) r.length r)).length (pickL x (winL rgS (0 : Nat) r.length r)))))]))) := by kernel_rfl
theorem vc_l7B (x y : List Int) (r : List Rg) (i k : Int) (q : Bool) (Q : List SV → List (Nat × LB) → Prop) (R : List Item → PS → Prop) : sy tt G0 D7 Try.f7.ntmps Try.f7.results.toList Q (fun it S => R it (keepS [5, 6, 7, 8, 9, 10, 11] [1086016, 1098304] S)) 1000 (hd Try.f7 1) ⟨[(5, .bool true), (6, .sl uB x), (7, .win true uB 1086016 0 y.length), (8, .win true rgS 1098304 0 r.length), (9, .int .i64 i), (10, .bool q), (11, .int .i64 k)], [(1086016, .row 5 uB y), (1098304, .row 57 rgS r)]⟩ =
    (bc (decide (k < (↑r.length : Int))) (bc q (true = true ∧
 R (hd Try.f7 (1 : Nat)) { env := [((5 : Nat), SV.bool true), ((6 : Nat), SV.sl (Sh.int IntKind.u8) x), ((7 : Nat), SV.win true (Sh.int IntKind.u8) (1086016 : Nat) (0 : Nat) y.length), ((8 : Nat), SV.win true rgS (1098304 : Nat) (0 : Nat) r.length), ((9 : Nat), SV.int IntKind.i64 i), ((10 : Nat), SV.bool true), ((11 : Nat), SV.int IntKind.i64 (IntKind.i64.wrap (k + (1 : Int))))], blk := [((1086016 : Nat), LB.row (5 : Nat) (Sh.int IntKind.u8) y), ((1098304 : Nat), LB.row (57 : Nat) rgS r)] }) ((0 : Int) ≤ k ∧
 k < (↑r.length : Int) ∧
 (0 : Nat) + k.toNat < r.length ∧
 bc (decide ((gtR r ((0 : Nat) + k.toNat)).fst ≤ i)) ((0 : Int) ≤ k ∧
 k < (↑r.length : Int) ∧
 (0 : Nat) + k.toNat < r.length ∧
 R (hd Try.f7 (1 : Nat)) { env := [((5 : Nat), SV.bool true), ((6 : Nat), SV.sl (Sh.int IntKind.u8) x), ((7 : Nat), SV.win true (Sh.int IntKind.u8) (1086016 : Nat) (0 : Nat) y.length), ((8 : Nat), SV.win true rgS (1098304 : Nat) (0 : Nat) r.length), ((9 : Nat), SV.int IntKind.i64 i), ((10 : Nat), SV.bool (bif false then true else bif true then decide (i < (gtR r ((0 : Nat) + k.toNat)).snd) else false)), ((11 : Nat), SV.int IntKind.i64 (IntKind.i64.wrap (k + (1 : Int))))], blk := [((1086016 : Nat), LB.row (5 : Nat) (Sh.int IntKind.u8) y), ((1098304 : Nat), LB.row (57 : Nat) rgS r)] }) (false = false ∧
 R (hd Try.f7 (1 : Nat)) { env := [((5 : Nat), SV.bool true), ((6 : Nat), SV.sl (Sh.int IntKind.u8) x), ((7 : Nat), SV.win true (Sh.int IntKind.u8) (1086016 : Nat) (0 : Nat) y.length), ((8 : Nat), SV.win true rgS (1098304 : Nat) (0 : Nat) r.length), ((9 : Nat), SV.int IntKind.i64 i), ((10 : Nat), SV.bool (bif false then true else false)), ((11 : Nat), SV.int IntKind.i64 (IntKind.i64.wrap (k + (1 : Int))))], blk := [((1086016 : Nat), LB.row (5 : Nat) (Sh.int IntKind.u8) y), ((1098304 : Nat), LB.row (57 : Nat) rgS r)] }))) ((0 : Int) ≤ i ∧
 i < (↑x.length : Int) ∧
 (0 : Int) ≤ i ∧
 i < (↑y.length : Int) ∧
 (0 : Nat) + i.toNat < y.length ∧
 bc (!q == decide (gtB x i.toNat ≠ gtB y ((0 : Nat) + i.toNat))) (Q [SV.bool false] [((1086016 : Nat), LB.row (5 : Nat) (Sh.int IntKind.u8) y), ((1098304 : Nat), LB.row (57 : Nat) rgS r)]) (R (hd Try.f7 (0 : Nat)) { env := [((5 : Nat), SV.bool true), ((6 : Nat), SV.sl (Sh.int IntKind.u8) x), ((7 : Nat), SV.win true (Sh.int IntKind.u8) (1086016 : Nat) (0 : Nat) y.length), ((8 : Nat), SV.win true rgS (1098304 : Nat) (0 : Nat) r.length), ((9 : Nat), SV.int IntKind.i64 (IntKind.i64.wrap (i + (1 : Int)))), ((10 : Nat), SV.bool q), ((11 : Nat), SV.int IntKind.i64 k)], blk := [((1086016 : Nat), LB.row (5 : Nat) (Sh.int IntKind.u8) y), ((1098304 : Nat), LB.row (57 : Nat) rgS r)] }))) := by kernel_rfl
end Go.Proofs.Ythcjddhlindopaa
namespace Go.Proofs.Ythcjddhlindopaa
open Go.Px Go.Ax
theorem runE_true (d : Nat → Bool) (n : Nat) : ∀ k t j, t ≤ j → j < runE d n k t → d j = true
  | 0, t, j, h1, h2 => by rw [runE] at h2; omega
  | k + 1, t, j, h1, h2 => by
    rw [runE] at h2
    split at h2
    · rename_i h
      by_cases hj : j = t
      · subst hj; exact h.2
      · exact runE_true d n k (t + 1) j (by omega) h2
    · omega
theorem runE_false (d : Nat → Bool) (n : Nat) : ∀ k t, n - t ≤ k → runE d n k t < n → d (runE d n k t) = false
  | 0, t, h1, h2 => by rw [runE] at h2; omega
  | k + 1, t, h1, h2 => by
    rw [runE] at h2 ⊢
    split
    · rename_i h
      rw [if_pos h] at h2
      exact runE_false d n k (t + 1) (by omega) h2
    · rename_i h
      rw [if_neg h] at h2
      cases hd : d t with
      | false => rfl
      | true => exact absurd ⟨h2, hd⟩ h
theorem right_dif (d : Nat → Bool) (n : Nat) : ∀ (k p : Nat) (e : Int), e < p → rightF n e (difF d n k p) = true
  | 0, p, e, _ => rfl
  | k + 1, p, e, h => by
    rw [difF]
    split
    · split
      · have := runE_bd d n (n - p) (p + 1) (by omega)
        rw [rightF, decide_eq_true (by omega), Bool.true_and]
        exact right_dif d n k _ _ (by omega)
      · exact right_dif d n k (p + 1) e (by omega)
    · rfl
theorem dif_from (d : Nat → Bool) (n : Nat) : ∀ (k p : Nat) (r : Rg), r ∈ difF d n k p → (p : Int) ≤ r.1
  | 0, p, r, h => by cases h
  | k + 1, p, r, h => by
    rw [difF] at h
    split at h
    · split at h
      · have := runE_bd d n (n - p) (p + 1) (by omega)
        rcases List.mem_cons.1 h with rfl | h
        · exact Int.le_refl _
        · have := dif_from d n k _ r h; omega
      · have := dif_from d n k _ r h; omega
    · cases h
def inB (i : Int) (l : List Rg) : Bool := l.any fun r => decide (r.1 ≤ i) && decide (i < r.2)
theorem inB_none {i : Int} {l : List Rg} (h : ∀ r ∈ l, i < r.1) : inB i l = false := by
  unfold inB
  rw [List.any_eq_false]
  intro r hr
  have := h r hr
  simp; omega
theorem inB_dif (d : Nat → Bool) (n : Nat) : ∀ (k p i : Nat), n - p ≤ k → p ≤ i → i < n → inB i (difF d n k p) = d i
  | 0, p, i, h1, h2, h3 => by omega
  | k + 1, p, i, h1, h2, h3 => by
    rw [difF, if_pos (by omega)]
    by_cases hp : d p = true
    · have hb := runE_bd d n (n - p) (p + 1) (by omega)
      have ht := runE_true d n (n - p) (p + 1)
      have hf := runE_false d n (n - p) (p + 1) (by omega)
      rw [if_pos hp]
      generalize runE d n (n - p) (p + 1) = t at *
      have e : inB i (((p : Int), (t : Int)) :: difF d n k (t + 1)) = ((decide ((p : Int) ≤ i) && decide ((i : Int) < t)) || inB i (difF d n k (t + 1))) := rfl
      rw [e]
      by_cases hit : i < t
      · rw [decide_eq_true (by omega), decide_eq_true (by omega), Bool.and_self, Bool.true_or]
        by_cases hip : i = p
        · subst hip; exact hp.symm
        · exact (ht i (by omega) hit).symm
      · rw [decide_eq_false (show ¬ (i : Int) < t by omega), Bool.and_false, Bool.false_or]
        by_cases hie : i = t
        · subst hie
          rw [hf h3]
          exact inB_none fun r hr => by have := dif_from d n k _ r hr; omega
        · exact inB_dif d n k (t + 1) i (by omega) (by omega) h3
    · rw [if_neg hp]
      by_cases hip : i = p
      · subst hip
        rw [inB_none fun r hr => by have := dif_from d n k _ r hr; omega]
        cases hd : d i with
        | false => rfl
        | true => exact absurd hd hp
      · exact inB_dif d n k (p + 1) i (by omega) (by omega) h3
theorem tot_pick {b : List Int} (hb : b.length < 1048576) : ∀ (l : List Rg) (e s : Int), -1 ≤ e → e ≤ b.length → 0 ≤ s → s ≤ e + 1 → rightF b.length e l = true → totW s l = s + ((pickL b l).length : Int)
  | [], e, s, _, _, _, _, _ => by simp [totW, pickL]
  | r :: l, e, s, h1, h2, h3, h4, h => by
    rw [rightF, Bool.and_eq_true, decide_eq_true_eq] at h
    obtain ⟨⟨r1, r2, r3⟩, r4⟩ := h
    have ih := tot_pick hb l r.2 (s + (r.2 - r.1)) (by omega) r3 (by omega) (by omega) r4
    have hc := cutR_len (b := b) (r := r) (by omega)
    have e2 : (pickL b (r :: l)).length = (cutR b r).length + (pickL b l).length := by simp [pickL]
    rw [totW, IntWalk.i64_in (r.2 - r.1) (by omega), IntWalk.i64_in (s + (r.2 - r.1)) (by omega), ih, e2, hc]
    omega
theorem setRow_at {o y : List Int} {k i : Nat} (h : k + y.length ≤ o.length) : (setRow o k y)[i]? = if k ≤ i ∧ i < k + y.length then y[i - k]? else o[i]? := by
  unfold setRow
  by_cases h1 : i < k
  · rw [if_neg (by omega), List.append_assoc, List.getElem?_append_left (by rw [List.length_take]; omega), List.getElem?_take, if_pos h1]
  · by_cases h2 : i < k + y.length
    · rw [if_pos ⟨by omega, h2⟩, List.append_assoc, List.getElem?_append_right (by rw [List.length_take]; omega), List.getElem?_append_left (by rw [List.length_take]; omega), List.length_take, Nat.min_eq_left (by omega)]
    · rw [if_neg (by omega), List.getElem?_append_right (by rw [List.length_append, List.length_take]; omega), List.length_append, List.length_take, List.getElem?_drop]
      congr 1; omega
theorem cutR_at {b : List Int} {r : Rg} {j : Nat} (h : 0 ≤ r.1) (h2 : r.1.toNat + j < r.2.toNat) : (cutR b r)[j]? = b[r.1.toNat + j]? := by
  unfold cutR
  rw [List.getElem?_drop, List.getElem?_take, if_pos h2]
theorem spr_pick {y : List Int} : ∀ (l : List Rg) (e : Int) (o : List Int), -1 ≤ e → rightF y.length e l = true → o.length = y.length → (∀ i : Nat, i < y.length → o[i]? ≠ y[i]? → inB i l = true) → sprF o l (pickL y l) = y
  | [], e, o, _, _, ho, h => by
    rw [sprF]
    apply List.ext_getElem?
    intro i
    by_cases hi : i < y.length
    · apply Classical.byContradiction
      intro q
      have := h i hi q
      simp [inB] at this
    · rw [List.getElem?_eq_none (by omega), List.getElem?_eq_none (by omega)]
  | r :: l, e, o, he, hr, ho, h => by
    rw [rightF, Bool.and_eq_true, decide_eq_true_eq] at hr
    obtain ⟨⟨r1, r2, r3⟩, r4⟩ := hr
    have hc := cutR_len (b := y) (r := r) (by omega)
    have e1 : pickL y (r :: l) = cutR y r ++ pickL y l := by simp [pickL]
    have hlen : (cutR y r).length = r.2.toNat - r.1.toNat := by omega
    have e2 : (cutR y r ++ pickL y l).take (r.2.toNat - r.1.toNat) = cutR y r := by rw [← hlen]; exact List.take_left
    have e3 : (cutR y r ++ pickL y l).drop (min (cutR y r ++ pickL y l).length (r.2.toNat - r.1.toNat)) = pickL y l := by
      rw [Nat.min_eq_right (by rw [List.length_append]; omega), ← hlen]; exact List.drop_left
    rw [sprF, e1, e2, e3]
    refine spr_pick l r.2 _ (by omega) r4 (by rw [setRow_len (by omega)]; exact ho) fun i hi hne => ?_
    rw [setRow_at (by omega)] at hne
    split at hne
    · rename_i hin
      rw [cutR_at (by omega) (by omega), show r.1.toNat + (i - r.1.toNat) = i by omega] at hne
      exact absurd rfl hne
    · rename_i hin
      have := h i hi hne
      have e4 : inB i (r :: l) = ((decide (r.1 ≤ (i : Int)) && decide ((i : Int) < r.2)) || inB i l) := rfl
      rw [e4] at this
      by_cases q1 : r.1 ≤ (i : Int)
      · rw [decide_eq_false (show ¬ (i : Int) < r.2 by omega), Bool.and_false, Bool.false_or] at this
        exact this
      · rw [decide_eq_false q1, Bool.false_and, Bool.false_or] at this
        exact this
theorem difF_none {d : Nat → Bool} {n : Nat} (h : ∀ i, d i = false) : ∀ k p, difF d n k p = []
  | 0, _ => rfl
  | k + 1, p => by
    rw [difF]
    split
    · rw [if_neg (by rw [h]; simp)]; exact difF_none h k (p + 1)
    · rfl
theorem difL_self (x : List Int) : difL x x = [] := difF_none (fun i => by unfold dAt; simp) _ _
/-- What is known of two lists of bytes and the ranges where they differ. -/
structure ChgOK (x y : List Int) (r : List Rg) : Prop where
  len : y.length = x.length
  small : x.length < 1048576
  rlen : r.length ≤ x.length
  right : rightB r x.length = true
  inside : ∀ i : Nat, i < x.length → inB i r = decide (gtB x i ≠ gtB y i)
  there : sprOK x r (pickL y r) = true ∧ sprL x r (pickL y r) = y
  back : sprOK y r (pickL x r) = true ∧ sprL y r (pickL x r) = x
theorem chg_ok {x y : List Int} (h1 : y.length = x.length) (h2 : x.length < 1048576) : ChgOK x y (difL x y) := by
  have hm : minL x y = x.length := by unfold minL; omega
  have hr : rightB (difL x y) x.length = true := by
    unfold rightB difL; rw [hm]; exact right_dif _ _ _ _ _ (by omega)
  have hin : ∀ i : Nat, i < x.length → inB i (difL x y) = decide (gtB x i ≠ gtB y i) := by
    intro i hi
    unfold difL; rw [hm]; exact inB_dif _ _ _ _ _ (by omega) (Nat.zero_le _) hi
  have gx : ∀ {b : List Int} {i : Nat}, i < b.length → b[i]? = some (gtB b i) := by
    intro b i hi
    rw [gtB_at hi, List.getElem?_eq_getElem hi]
  have t1 := tot_pick (b := y) (by omega) (difL x y) (-1) 0 (by omega) (by omega) (by omega) (by omega) (by rw [h1]; exact hr)
  have t2 := tot_pick (b := x) (by omega) (difL x y) (-1) 0 (by omega) (by omega) (by omega) (by omega) hr
  rw [Int.zero_add] at t1 t2
  have o1 : sprOK x (difL x y) (pickL y (difL x y)) = true := by rw [sprOK, hr, decide_eq_true t1]; rfl
  have o2 : sprOK y (difL x y) (pickL x (difL x y)) = true := by rw [sprOK, h1, hr, decide_eq_true t2]; rfl
  refine ⟨h1, h2, by have := difF_len (dAt x y) (minL x y) (minL x y) 0; rw [hm] at this; unfold difL; rw [hm]; exact this, hr, hin, ⟨o1, ?_⟩, ⟨o2, ?_⟩⟩
  · rw [sprL, o1, if_pos rfl]
    refine spr_pick _ (-1) x (by omega) (by rw [h1]; exact hr) h1.symm fun i hi hne => ?_
    rw [hin i (by omega), decide_eq_true_eq]
    intro q
    rw [gx (by omega), gx hi, q] at hne
    exact hne rfl
  · rw [sprL, o2, if_pos rfl]
    refine spr_pick _ (-1) y (by omega) hr h1 fun i hi hne => ?_
    rw [hin i hi, decide_eq_true_eq]
    intro q
    rw [gx (by omega), gx hi, q] at hne
    exact hne rfl
end Go.Proofs.Ythcjddhlindopaa
namespace Go.Proofs.Ythcjddhlindopaa
open Go.Px Go.Ax
attribute [local irreducible] Go.Px.sy Go.Px.syE
abbrev l7S (x y : List Int) (r : List Rg) (i : Int) (tl : List (Nat × SV)) : PS := ⟨(5, .bool true) :: (6, .sl uB x) :: (7, .win true uB 1086016 0 y.length) :: (8, .win true rgS 1098304 0 r.length) :: (9, .int .i64 i) :: tl, [(1086016, .row 5 uB y), (1098304, .row 57 rgS r)]⟩
theorem l7_in {x y : List Int} {r : List Rg} (c : ChgOK x y r) {i : Nat} (hi : i < x.length)
    (next : GD 7 Try.f7 QT (hd Try.f7 0) (l7S x y r ((i + 1 : Nat) : Int) [])) : ∀ (k j : Nat), r.length - j ≤ k → j ≤ r.length →
    GD 7 Try.f7 QT (hd Try.f7 1) (l7S x y r (i : Nat) [(10, .bool (inB i (r.take j))), (11, .int .i64 (j : Nat))]) := by
  obtain ⟨c1, c2, c3, c4, c5, _, _⟩ := c
  have hend : ∀ j : Nat, ¬ j < r.length → j ≤ r.length → GD 7 Try.f7 QT (hd Try.f7 1) (l7S x y r (i : Nat) [(10, .bool (inB i (r.take j))), (11, .int .i64 (j : Nat))]) := by
    intro j hj hj2
    refine sy_goK dx7 (vc_l7B x y r i j _ _ _) ?_
    rw [decide_eq_false (by omega), bc_f, List.take_of_length_le (by omega), c5 i hi, IntWalk.i64_in ((i : Int) + 1) (by omega), Nat.zero_add, Int.toNat_natCast, beq_self_eq_true, Bool.not_true, bc_f]
    exact ⟨by omega, by omega, by omega, by omega, by omega, next.only ⟨rfl, rfl, rfl, rfl, rfl, trivial⟩ ⟨rfl, rfl, trivial⟩⟩
  intro k
  induction k with
  | zero => intro j hk hj; exact hend j (by omega) hj
  | succ k ih =>
    intro j hk hj
    by_cases h : j < r.length
    · refine sy_goK dx7 (vc_l7B x y r i j _ _ _) ?_
      have e1 : gtR r (0 + (j : Int).toNat) = r[j] := by rw [Nat.zero_add]; exact gtR_at h
      have k2 := ih (j + 1) (by omega) (by omega)
      have e2 : inB i (r.take (j + 1)) = (inB i (r.take j) || (decide (r[j].1 ≤ (i : Int)) && decide ((i : Int) < r[j].2))) := by
        rw [List.take_succ_eq_append_getElem h]
        unfold inB
        rw [List.any_append]
        simp
      rw [e2] at k2
      rw [decide_eq_true (show (j : Int) < (r.length : Int) by omega), bc_t, e1, IntWalk.i64_in ((j : Int) + 1) (by omega), cond_false, cond_true]
      refine bc_of (fun hq => ⟨rfl, ?_⟩) (fun hq => ⟨by omega, by omega, by omega, bc_of (fun ha => ⟨by omega, by omega, by omega, ?_⟩) (fun ha => ⟨rfl, ?_⟩)⟩)
      · rw [hq, Bool.true_or] at k2
        exact k2
      · rw [hq, ha, Bool.false_or, Bool.true_and] at k2
        exact k2
      · rw [hq, ha, Bool.false_or, Bool.false_and] at k2
        exact k2
    · exact hend j h hj
theorem l7_out {x y : List Int} {r : List Rg} (c : ChgOK x y r) : ∀ (k i : Nat), x.length - i ≤ k → i ≤ x.length →
    GD 7 Try.f7 QT (hd Try.f7 0) (l7S x y r (i : Nat) []) := by
  have c' := c
  obtain ⟨c1, c2, c3, c4, c5, ⟨c6, c7⟩, ⟨c8, c9⟩⟩ := c
  have hend : ∀ i : Nat, ¬ i < x.length → GD 7 Try.f7 QT (hd Try.f7 0) (l7S x y r (i : Nat) []) := by
    intro i hi
    refine sy_goK dx7 (vc_l7A x y r i _ _) ?_
    have wB : ∀ l : List Int, winL uB 0 l.length l = l := fun l => winA (e := uB) l
    have wR : ∀ l : List Rg, winL rgS 0 l.length l = l := fun l => winA (e := rgS) l
    have e1 : sprE x r (pickL y r) = 0 := by rw [sprE, c6]; rfl
    have e2 : sprE y r (pickL x r) = 0 := by rw [sprE, c8]; rfl
    have q1 : y.length < 1048576 := by omega
    have q2 : r.length < 1048576 := by omega
    have q3 : r.length < 2 ^ 62 := by omega
    have p1 : ctPck.pre (y, r, ()) := (show prePk y r from ⟨q1, q2, by rw [c1]; exact c4⟩)
    have p2 : ctPck.pre (x, r, ()) := (show prePk x r from ⟨c2, q2, c4⟩)
    have p3 : ctSpr.pre (x, r, pickL y r, ()) := (show preSp x r from ⟨c2, q3⟩)
    have p4 : ctSpr.pre (y, r, pickL x r, ()) := (show preSp y r from ⟨q1, q3⟩)
    have p5 : ctChg.pre (x, x, ()) := ⟨c2, c2⟩
    rw [decide_eq_false (by omega), bc_f]
    simp only [wB, wR, e1, e2, c7, c9, difL_self, decide_true, cond_true, bc_t, List.length_nil]
    repeat' first
      | exact p1
      | exact p2
      | exact p3
      | exact p4
      | exact p5
      | exact trivial
      | exact rfl
      | omega
      | (refine And.intro ?_ ?_)
  intro k
  induction k with
  | zero => intro i hk _; exact hend i (by omega)
  | succ k ih =>
    intro i hk hi
    by_cases h : i < x.length
    · refine sy_goK dx7 (vc_l7A x y r i _ _) ?_
      rw [decide_eq_true (show (i : Int) < (x.length : Int) by omega), bc_t]
      exact l7_in c' h (ih (i + 1) (by omega) (by omega)) _ 0 (Nat.le_refl _) (Nat.zero_le _)
    · exact hend i h
def preL7 (a : List Int) (l : List (List Int)) : Prop := ∀ x ∈ l, u8I (gtB x 0)
def ctL7 : Ctr := ⟨[.sl uB, .sl p2S], fun x => preL7 x.1 x.2.1, fun _ => [.bool true], fun _ => []⟩
theorem l7_run (a : List Int) (l : List (List Int)) (hp : preL7 a l) : sy tt G0 D7 Try.f7.ntmps Try.f7.results.toList (QC ctL7 (a, l, ())) (Px.Good Try.prog tt G0 7 Try.f7.ntmps Try.f7.results.toList (QC ctL7 (a, l, ()))) 1000 [.code (bodyOf Try.f7)] (entry [.sl uB, .sl p2S] (a, l, ())) := by
  rw [vc_l7]
  have h200 : Int.toNat 200 = 200 := rfl
  rw [h200]
  have hx : (a.take 200).length < 1048576 := by rw [List.length_take]; omega
  generalize a.take 200 = x at *
  have hy : (ediL x l).length = x.length := by
    unfold ediL
    split
    · rfl
    · exact edF_len _ _ _
  have pe : ctEdi.pre (x, l, ()) := ⟨hx, hp⟩
  have wB : ∀ l : List Int, winL uB 0 l.length l = l := fun l => winA (e := uB) l
  have wR : ∀ l : List Rg, winL rgS 0 l.length l = l := fun l => winA (e := rgS) l
  simp only [wB, wR]
  generalize ediL x l = y at *
  have c := chg_ok hy hx
  have hy2 : y.length < 1048576 := by omega
  have pc : ctChg.pre (x, y, ()) := ⟨hx, hy2⟩
  have pr : ctRt.pre (difL x y, (x.length : Int), ()) := (show (difL x y).length < 2 ^ 62 by have := c.rlen; omega)
  rw [c.right, Bool.not_true, bc_f]
  have pl : ctLim.pre (a, 200, ()) := (show (0 : Int) ≤ 200 by decide)
  exact ⟨trivial, pl, pe, by omega, pc, by omega, pr, ((l7_out c _ 0 (Nat.le_refl _) (Nat.zero_le _)).post fun rs blk hq => QC.flat (by rw [hq]; rfl) rfl (by rw [hq]; rfl)).only ⟨rfl, rfl, rfl, rfl, rfl, trivial⟩ ⟨rfl, rfl, trivial⟩⟩
theorem l7_held : Held Try.prog G0 7 ctL7 := Held.run dx7 (fn := Try.f7) rfl rfl ⟨by decide, by decide⟩ fun x hp => l7_run x.1 x.2.1 hp
theorem prs_of {l : List (List Int)} (h : wfD (.sl p2S) l) : ∀ x ∈ l, u8I (gtB x 0) := fun x hx => by
  obtain ⟨h1, h2⟩ := h.2 x hx
  have h1 : x.length = 2 := h1
  have e : gtB x 0 = x[0] := gtB_at (by omega)
  rw [e]
  exact u8_of (h2 x[0] (List.getElem_mem _))
end Go.Proofs.Ythcjddhlindopaa
