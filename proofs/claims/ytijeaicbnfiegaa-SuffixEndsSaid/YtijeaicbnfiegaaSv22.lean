/-
  A part of the proof: what a piece of the program gives; conditions: those of each theorem.
-/
import Derived.Test.YtijeaicbnfiegaaSc21
set_option linter.unusedVariables false
namespace Go.Proofs.Ytijeaicbnfiegaa
open Go.Px Go.Ax
abbrev fn24 : AK := .fn 24 [] cap24
abbrev wI : AK := .win 3 (.int .i64)
abbrev rI : AK := .row 3 (.int .i64)
abbrev K36 : List AK := [rI, wI, .dat (.int .i64), fn24]
abbrev K35 : List AK := [rI, wI, fn24]
set_option maxRecDepth 100000
theorem vc_merge (s : List Int) (lo n : Nat) (l : List Int) (h : Int) (p : List (List Int)) (Q : List SV → List (Nat × LB) → Prop) (R : List Item → PS → Prop) : sy tt G0 D2 Try.f36.ntmps Try.f36.results.toList Q R 1000 [.code (bodyOf Try.f36)] (entryI K36 (s, (lo, n, l), h, ((), ((p, ()), ())), ())) =
    ((0 : Int) ≤ h ∧
 h ≤ (↑n : Int) ∧
 lo + n ≤ l.length ∧
 lo + (0 : Nat) + (h.toNat - (0 : Nat)) ≤ l.length ∧
 (0 : Nat) + s.length ≤ s.length ∧
 (0 : Int) ≤
 (↑(min (winL (Sh.int IntKind.i64) (lo + (0 : Nat)) (h.toNat - (0 : Nat)) l).length s.length) : Int) ∧
 (↑(min (winL (Sh.int IntKind.i64) (lo + (0 : Nat)) (h.toNat - (0 : Nat)) l).length s.length) : Int) ≤
 (↑s.length : Int) ∧
 (0 : Nat) + s.length ≤
 (setRow s (0 : Nat)
 (List.take s.length
 (winL (Sh.int IntKind.i64) (lo + (0 : Nat)) (h.toNat - (0 : Nat)) l))).length ∧
 (0 : Int) ≤ h ∧
 h ≤ (↑n : Int) ∧
 lo + n ≤ l.length ∧
 R (hd Try.f36 (0 : Nat))
 {
 env :=
 [((0 : Nat), SV.win true (Sh.int IntKind.i64) (1099511627776 : Nat) (0 : Nat) s.length),
 ((1 : Nat), SV.win false (Sh.int IntKind.i64) (1099511627777 : Nat) lo n),
 ((2 : Nat), SV.int IntKind.i64 h),
 ((3 : Nat), SV.fn (24 : Nat) [] [SV.ptr (1099511627778 : Nat) (0 : Nat)]),
 ((8 : Nat),
 SV.win false (Sh.int IntKind.i64) (1099511627776 : Nat) (0 : Nat)
 ((↑(min (winL (Sh.int IntKind.i64) (lo + (0 : Nat)) (h.toNat - (0 : Nat)) l).length
 s.length) :
 Int).toNat -
 (0 : Nat))),
 ((9 : Nat),
 SV.win false (Sh.int IntKind.i64) (1099511627777 : Nat) (lo + h.toNat) (n - h.toNat)),
 ((10 : Nat), SV.int IntKind.i64 (0 : Int)),
 ((11 : Nat), SV.win true (Sh.int IntKind.i64) (1099511627776 : Nat) (0 : Nat) s.length),
 ((12 : Nat), SV.win true (Sh.int IntKind.i64) (1099511627776 : Nat) (0 : Nat) s.length),
 ((13 : Nat), SV.win false (Sh.int IntKind.i64) (1099511627777 : Nat) lo n),
 ((14 : Nat), SV.int IntKind.i64 h),
 ((15 : Nat),
 SV.win false (Sh.int IntKind.i64) (1099511627777 : Nat) (lo + (0 : Nat))
 (h.toNat - (0 : Nat))),
 ((16 : Nat),
 SV.int IntKind.i64
 (↑(min (winL (Sh.int IntKind.i64) (lo + (0 : Nat)) (h.toNat - (0 : Nat)) l).length
 s.length) :
 Int)),
 ((17 : Nat),
 SV.win false (Sh.int IntKind.i64) (1099511627776 : Nat) (0 : Nat)
 ((↑(min (winL (Sh.int IntKind.i64) (lo + (0 : Nat)) (h.toNat - (0 : Nat)) l).length
 s.length) :
 Int).toNat -
 (0 : Nat))),
 ((18 : Nat), SV.win false (Sh.int IntKind.i64) (1099511627777 : Nat) lo n),
 ((19 : Nat), SV.int IntKind.i64 h),
 ((20 : Nat),
 SV.win false (Sh.int IntKind.i64) (1099511627777 : Nat) (lo + h.toNat) (n - h.toNat))],
 blk :=
 [((1099511627776 : Nat),
 LB.row (3 : Nat) (Sh.int IntKind.i64)
 (setRow s (0 : Nat)
 (List.take s.length
 (winL (Sh.int IntKind.i64) (lo + (0 : Nat)) (h.toNat - (0 : Nat)) l)))),
 ((1099511627777 : Nat), LB.row (3 : Nat) (Sh.int IntKind.i64) l),
 ((1099511627778 : Nat),
 LB.var
 [SV.win true (Sh.arr (2 : Nat) (Sh.int IntKind.i64)) (1099511627779 : Nat) (0 : Nat)
 p.length]),
 ((1099511627779 : Nat), LB.row (45 : Nat) (Sh.arr (2 : Nat) (Sh.int IntKind.i64)) p)] }) := by kernel_rfl
theorem vc_mergeL (s : List Int) (lo n : Nat) (l : List Int) (a na b nb : Nat) (k : Int) (p : List (List Int)) (Q : List SV → List (Nat × LB) → Prop) (R : List Item → PS → Prop) : sy tt G0 D2 Try.f36.ntmps Try.f36.results.toList Q R 1000 (hd Try.f36 0) ⟨[(1, .win false (.int .i64) 1099511627777 lo n), (3, .fn 24 [] [.ptr 1099511627778 0]), (8, .win false (.int .i64) 1099511627776 a na), (9, .win false (.int .i64) 1099511627777 b nb), (10, .int .i64 k)], [(1099511627776, .row 3 (.int .i64) s), (1099511627777, .row 3 (.int .i64) l), (1099511627778, .var [.win true shP 1099511627779 0 p.length]), (1099511627779, .row 45 shP p)]⟩ =
    (bc (decide ((0 : Int) < (↑na : Int)))
 (bc (decide ((0 : Int) < (↑nb : Int)))
 ((0 : Int) ≤ (0 : Int) ∧
 (0 : Int) < (↑nb : Int) ∧
 b + Int.toNat (0 : Int) < l.length ∧
 (0 : Int) ≤ (0 : Int) ∧
 (0 : Int) < (↑na : Int) ∧
 a + Int.toNat (0 : Int) < s.length ∧
 p.length = p.length ∧
 ctPb.pre
 (gt (Sh.int IntKind.i64) l (b + Int.toNat (0 : Int)),
 gt (Sh.int IntKind.i64) s (a + Int.toNat (0 : Int)), (p, ()), ()) ∧
 bc
 (bif true then
 pbB p (gt (Sh.int IntKind.i64) l (b + Int.toNat (0 : Int)))
 (gt (Sh.int IntKind.i64) s (a + Int.toNat (0 : Int)))
 else false)
 ((0 : Int) ≤ (0 : Int) ∧
 (0 : Int) < (↑nb : Int) ∧
 b + Int.toNat (0 : Int) < l.length ∧
 (0 : Int) ≤ (1 : Int) ∧
 (1 : Int) ≤ (↑nb : Int) ∧
 b + nb ≤ l.length ∧
 (0 : Int) ≤ k ∧
 k < (↑n : Int) ∧
 lo + k.toNat < l.length ∧
 R (hd Try.f36 (0 : Nat))
 {
 env :=
 [((1 : Nat),
 SV.win false (Sh.int IntKind.i64) (1099511627777 : Nat) lo n),
 ((3 : Nat),
 SV.fn (24 : Nat) [] [SV.ptr (1099511627778 : Nat) (0 : Nat)]),
 ((8 : Nat),
 SV.win false (Sh.int IntKind.i64) (1099511627776 : Nat) a na),
 ((9 : Nat),
 SV.win false (Sh.int IntKind.i64) (1099511627777 : Nat)
 (b + Int.toNat (1 : Int)) (nb - Int.toNat (1 : Int))),
 ((10 : Nat), SV.int IntKind.i64 (IntKind.i64.wrap (k + (1 : Int)))),
 ((21 : Nat),
 SV.win false (Sh.int IntKind.i64) (1099511627776 : Nat) a na),
 ((22 : Nat), SV.int IntKind.i64 (↑na : Int)),
 ((23 : Nat), SV.bool (decide ((0 : Int) < (↑na : Int)))),
 ((24 : Nat), SV.int IntKind.i64 k),
 ((25 : Nat), SV.int IntKind.i64 (IntKind.i64.wrap (k + (1 : Int)))),
 ((26 : Nat),
 SV.win false (Sh.int IntKind.i64) (1099511627777 : Nat) b nb),
 ((27 : Nat), SV.int IntKind.i64 (↑nb : Int)),
 ((28 : Nat), SV.bool (decide ((0 : Int) < (↑nb : Int)))),
 ((29 : Nat), SV.bool true),
 ((30 : Nat),
 SV.fn (24 : Nat) [] [SV.ptr (1099511627778 : Nat) (0 : Nat)]),
 ((31 : Nat),
 SV.win false (Sh.int IntKind.i64) (1099511627777 : Nat) b nb),
 ((32 : Nat),
 SV.elp (Sh.int IntKind.i64) (1099511627777 : Nat)
 (b + Int.toNat (0 : Int)) (0 : Nat)),
 ((33 : Nat),
 SV.int IntKind.i64
 (gt (Sh.int IntKind.i64) l (b + Int.toNat (0 : Int)))),
 ((34 : Nat),
 SV.win false (Sh.int IntKind.i64) (1099511627776 : Nat) a na),
 ((35 : Nat),
 SV.elp (Sh.int IntKind.i64) (1099511627776 : Nat)
 (a + Int.toNat (0 : Int)) (0 : Nat)),
 ((36 : Nat),
 SV.int IntKind.i64
 (gt (Sh.int IntKind.i64) s (a + Int.toNat (0 : Int)))),
 ((37 : Nat),
 SV.bool
 (pbB p (gt (Sh.int IntKind.i64) l (b + Int.toNat (0 : Int)))
 (gt (Sh.int IntKind.i64) s (a + Int.toNat (0 : Int))))),
 ((38 : Nat),
 SV.bool
 (bif true then
 pbB p (gt (Sh.int IntKind.i64) l (b + Int.toNat (0 : Int)))
 (gt (Sh.int IntKind.i64) s (a + Int.toNat (0 : Int)))
 else false)),
 ((39 : Nat),
 SV.win false (Sh.int IntKind.i64) (1099511627777 : Nat) lo n),
 ((40 : Nat), SV.int IntKind.i64 k),
 ((41 : Nat),
 SV.win false (Sh.int IntKind.i64) (1099511627777 : Nat) b nb),
 ((42 : Nat),
 SV.elp (Sh.int IntKind.i64) (1099511627777 : Nat)
 (b + Int.toNat (0 : Int)) (0 : Nat)),
 ((43 : Nat),
 SV.int IntKind.i64
 (gt (Sh.int IntKind.i64) l (b + Int.toNat (0 : Int)))),
 ((44 : Nat),
 SV.win false (Sh.int IntKind.i64) (1099511627777 : Nat) b nb),
 ((45 : Nat),
 SV.win false (Sh.int IntKind.i64) (1099511627777 : Nat)
 (b + Int.toNat (1 : Int)) (nb - Int.toNat (1 : Int))),
 ((46 : Nat),
 SV.elp (Sh.int IntKind.i64) (1099511627777 : Nat) (lo + k.toNat)
 (0 : Nat))],
 blk :=
 [((1099511627776 : Nat), LB.row (3 : Nat) (Sh.int IntKind.i64) s),
 ((1099511627777 : Nat),
 LB.row (3 : Nat) (Sh.int IntKind.i64)
 (l.set (lo + k.toNat)
 (gt (Sh.int IntKind.i64) l (b + Int.toNat (0 : Int))))),
 ((1099511627778 : Nat),
 LB.var
 [SV.win true (Sh.arr (2 : Nat) (Sh.int IntKind.i64))
 (1099511627779 : Nat) (0 : Nat) p.length]),
 ((1099511627779 : Nat),
 LB.row (45 : Nat) (Sh.arr (2 : Nat) (Sh.int IntKind.i64)) p)] })
 ((0 : Int) ≤ (0 : Int) ∧
 (0 : Int) < (↑na : Int) ∧
 a + Int.toNat (0 : Int) < s.length ∧
 (0 : Int) ≤ (1 : Int) ∧
 (1 : Int) ≤ (↑na : Int) ∧
 a + na ≤ s.length ∧
 (0 : Int) ≤ k ∧
 k < (↑n : Int) ∧
 lo + k.toNat < l.length ∧
 R (hd Try.f36 (0 : Nat))
 {
 env :=
 [((1 : Nat),
 SV.win false (Sh.int IntKind.i64) (1099511627777 : Nat) lo n),
 ((3 : Nat),
 SV.fn (24 : Nat) [] [SV.ptr (1099511627778 : Nat) (0 : Nat)]),
 ((8 : Nat),
 SV.win false (Sh.int IntKind.i64) (1099511627776 : Nat)
 (a + Int.toNat (1 : Int)) (na - Int.toNat (1 : Int))),
 ((9 : Nat),
 SV.win false (Sh.int IntKind.i64) (1099511627777 : Nat) b nb),
 ((10 : Nat), SV.int IntKind.i64 (IntKind.i64.wrap (k + (1 : Int)))),
 ((21 : Nat),
 SV.win false (Sh.int IntKind.i64) (1099511627776 : Nat) a na),
 ((22 : Nat), SV.int IntKind.i64 (↑na : Int)),
 ((23 : Nat), SV.bool (decide ((0 : Int) < (↑na : Int)))),
 ((24 : Nat), SV.int IntKind.i64 k),
 ((25 : Nat), SV.int IntKind.i64 (IntKind.i64.wrap (k + (1 : Int)))),
 ((26 : Nat),
 SV.win false (Sh.int IntKind.i64) (1099511627777 : Nat) b nb),
 ((27 : Nat), SV.int IntKind.i64 (↑nb : Int)),
 ((28 : Nat), SV.bool (decide ((0 : Int) < (↑nb : Int)))),
 ((29 : Nat), SV.bool true),
 ((30 : Nat),
 SV.fn (24 : Nat) [] [SV.ptr (1099511627778 : Nat) (0 : Nat)]),
 ((31 : Nat),
 SV.win false (Sh.int IntKind.i64) (1099511627777 : Nat) b nb),
 ((32 : Nat),
 SV.elp (Sh.int IntKind.i64) (1099511627777 : Nat)
 (b + Int.toNat (0 : Int)) (0 : Nat)),
 ((33 : Nat),
 SV.int IntKind.i64
 (gt (Sh.int IntKind.i64) l (b + Int.toNat (0 : Int)))),
 ((34 : Nat),
 SV.win false (Sh.int IntKind.i64) (1099511627776 : Nat) a na),
 ((35 : Nat),
 SV.elp (Sh.int IntKind.i64) (1099511627776 : Nat)
 (a + Int.toNat (0 : Int)) (0 : Nat)),
 ((36 : Nat),
 SV.int IntKind.i64
 (gt (Sh.int IntKind.i64) s (a + Int.toNat (0 : Int)))),
 ((37 : Nat),
 SV.bool
 (pbB p (gt (Sh.int IntKind.i64) l (b + Int.toNat (0 : Int)))
 (gt (Sh.int IntKind.i64) s (a + Int.toNat (0 : Int))))),
 ((38 : Nat),
 SV.bool
 (bif true then
 pbB p (gt (Sh.int IntKind.i64) l (b + Int.toNat (0 : Int)))
 (gt (Sh.int IntKind.i64) s (a + Int.toNat (0 : Int)))
 else false)),
 ((47 : Nat),
 SV.win false (Sh.int IntKind.i64) (1099511627777 : Nat) lo n),
 ((48 : Nat), SV.int IntKind.i64 k),
 ((49 : Nat),
 SV.win false (Sh.int IntKind.i64) (1099511627776 : Nat) a na),
 ((50 : Nat),
 SV.elp (Sh.int IntKind.i64) (1099511627776 : Nat)
 (a + Int.toNat (0 : Int)) (0 : Nat)),
 ((51 : Nat),
 SV.int IntKind.i64
 (gt (Sh.int IntKind.i64) s (a + Int.toNat (0 : Int)))),
 ((52 : Nat),
 SV.win false (Sh.int IntKind.i64) (1099511627776 : Nat) a na),
 ((53 : Nat),
 SV.win false (Sh.int IntKind.i64) (1099511627776 : Nat)
 (a + Int.toNat (1 : Int)) (na - Int.toNat (1 : Int))),
 ((54 : Nat),
 SV.elp (Sh.int IntKind.i64) (1099511627777 : Nat) (lo + k.toNat)
 (0 : Nat))],
 blk :=
 [((1099511627776 : Nat), LB.row (3 : Nat) (Sh.int IntKind.i64) s),
 ((1099511627777 : Nat),
 LB.row (3 : Nat) (Sh.int IntKind.i64)
 (l.set (lo + k.toNat)
 (gt (Sh.int IntKind.i64) s (a + Int.toNat (0 : Int))))),
 ((1099511627778 : Nat),
 LB.var
 [SV.win true (Sh.arr (2 : Nat) (Sh.int IntKind.i64))
 (1099511627779 : Nat) (0 : Nat) p.length]),
 ((1099511627779 : Nat),
 LB.row (45 : Nat) (Sh.arr (2 : Nat) (Sh.int IntKind.i64)) p)] }))
 (false = false ∧
 (0 : Int) ≤ (0 : Int) ∧
 (0 : Int) < (↑na : Int) ∧
 a + Int.toNat (0 : Int) < s.length ∧
 (0 : Int) ≤ (1 : Int) ∧
 (1 : Int) ≤ (↑na : Int) ∧
 a + na ≤ s.length ∧
 (0 : Int) ≤ k ∧
 k < (↑n : Int) ∧
 lo + k.toNat < l.length ∧
 R (hd Try.f36 (0 : Nat))
 {
 env :=
 [((1 : Nat), SV.win false (Sh.int IntKind.i64) (1099511627777 : Nat) lo n),
 ((3 : Nat), SV.fn (24 : Nat) [] [SV.ptr (1099511627778 : Nat) (0 : Nat)]),
 ((8 : Nat),
 SV.win false (Sh.int IntKind.i64) (1099511627776 : Nat) (a + Int.toNat (1 : Int))
 (na - Int.toNat (1 : Int))),
 ((9 : Nat), SV.win false (Sh.int IntKind.i64) (1099511627777 : Nat) b nb),
 ((10 : Nat), SV.int IntKind.i64 (IntKind.i64.wrap (k + (1 : Int)))),
 ((21 : Nat), SV.win false (Sh.int IntKind.i64) (1099511627776 : Nat) a na),
 ((22 : Nat), SV.int IntKind.i64 (↑na : Int)),
 ((23 : Nat), SV.bool (decide ((0 : Int) < (↑na : Int)))),
 ((24 : Nat), SV.int IntKind.i64 k),
 ((25 : Nat), SV.int IntKind.i64 (IntKind.i64.wrap (k + (1 : Int)))),
 ((26 : Nat), SV.win false (Sh.int IntKind.i64) (1099511627777 : Nat) b nb),
 ((27 : Nat), SV.int IntKind.i64 (↑nb : Int)),
 ((28 : Nat), SV.bool (decide ((0 : Int) < (↑nb : Int)))), ((29 : Nat), SV.bool false),
 ((38 : Nat), SV.bool false),
 ((47 : Nat), SV.win false (Sh.int IntKind.i64) (1099511627777 : Nat) lo n),
 ((48 : Nat), SV.int IntKind.i64 k),
 ((49 : Nat), SV.win false (Sh.int IntKind.i64) (1099511627776 : Nat) a na),
 ((50 : Nat),
 SV.elp (Sh.int IntKind.i64) (1099511627776 : Nat) (a + Int.toNat (0 : Int))
 (0 : Nat)),
 ((51 : Nat), SV.int IntKind.i64 (gt (Sh.int IntKind.i64) s (a + Int.toNat (0 : Int)))),
 ((52 : Nat), SV.win false (Sh.int IntKind.i64) (1099511627776 : Nat) a na),
 ((53 : Nat),
 SV.win false (Sh.int IntKind.i64) (1099511627776 : Nat) (a + Int.toNat (1 : Int))
 (na - Int.toNat (1 : Int))),
 ((54 : Nat),
 SV.elp (Sh.int IntKind.i64) (1099511627777 : Nat) (lo + k.toNat) (0 : Nat))],
 blk :=
 [((1099511627776 : Nat), LB.row (3 : Nat) (Sh.int IntKind.i64) s),
 ((1099511627777 : Nat),
 LB.row (3 : Nat) (Sh.int IntKind.i64)
 (l.set (lo + k.toNat) (gt (Sh.int IntKind.i64) s (a + Int.toNat (0 : Int))))),
 ((1099511627778 : Nat),
 LB.var
 [SV.win true (Sh.arr (2 : Nat) (Sh.int IntKind.i64)) (1099511627779 : Nat) (0 : Nat)
 p.length]),
 ((1099511627779 : Nat),
 LB.row (45 : Nat) (Sh.arr (2 : Nat) (Sh.int IntKind.i64)) p)] }))
 (Q []
 [((1099511627776 : Nat), LB.row (3 : Nat) (Sh.int IntKind.i64) s),
 ((1099511627777 : Nat), LB.row (3 : Nat) (Sh.int IntKind.i64) l),
 ((1099511627778 : Nat),
 LB.var [SV.win true (Sh.arr (2 : Nat) (Sh.int IntKind.i64)) (1099511627779 : Nat) (0 : Nat) p.length]),
 ((1099511627779 : Nat), LB.row (45 : Nat) (Sh.arr (2 : Nat) (Sh.int IntKind.i64)) p)])) := by kernel_rfl
end Go.Proofs.Ytijeaicbnfiegaa
