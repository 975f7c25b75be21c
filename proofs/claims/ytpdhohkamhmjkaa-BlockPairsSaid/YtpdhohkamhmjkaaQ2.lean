/-
  A part of the proof: what pieces of the program give; conditions: those of each theorem.
-/
import Derived.Test.YtpdhohkamhmjkaaQ1
set_option linter.unusedVariables false
namespace Go.Proofs.Ytpdhohkamhmjkaa
open Go.Px Go.Ax
attribute [local irreducible] Go.Px.sy Go.Px.syE
theorem qc_row {ct : Ctr} {x : DL ct.args} {rs : List SV} {blk : List (Nat × LB)} {e : Sh} {et : TypeId} {a k : Nat} {xs : List e.D} (h : ct.out x = [.win true e 0 0 xs.length]) (hr : ct.rows x = [.row et e xs]) (hs : rs = [.win true e a 0 k]) (hk : k = xs.length) (hb : lk blk a = some (.row et e xs)) : QC ct x rs blk := by
  subst hs; subst hk
  refine ⟨fun i => if i = 0 then some a else none, ?_, ?_, fun i j b h1 h2 => ?_, by rw [hr]; rfl⟩
  · rw [h]
    exact ⟨_, _, rfl, .inl ⟨true, a, rfl, rfl, fun h => h⟩, rfl⟩
  · rw [hr]
    exact ⟨.inl ⟨a, rfl, hb⟩, trivial⟩
  · simp only at h1 h2
    split at h1
    · split at h2
      · omega
      · cases h2
    · cases h1
/-- Ranges, moved. -/
def mvR (l : List (Int × Int)) (y : Int) : List (Int × Int) := l.map fun r => (r.1 + y, r.2 + y)
def small (n : Int) : Prop := -1073741824 ≤ n ∧ n ≤ 1073741824
def preRg (l : List (Int × Int)) (y : Int) : Prop := l.length < 1048576 ∧ (∀ r ∈ l, small r.1 ∧ small r.2) ∧ small y
def ctRg : Ctr := ⟨[.sl rgS, iI], fun x => preRg x.1 x.2.1, fun x => [.win true rgS 0 0 (List.length (mvR x.1 x.2.1))], fun x => [.row 48 rgS (mvR x.1 x.2.1)]⟩
theorem rg_loop {l : List (Int × Int)} {y : Int} (hp : preRg l y) : ∀ (k i : Nat) (o : List (Int × Int)), l.length - i ≤ k → i ≤ l.length → o = mvR (l.take i) y →
    GD 22 Try.f22 (QC ctRg (l, y, ())) (hd Try.f22 0) ⟨[(0, .sl rgS l), (1, .int .i64 y), (5, .win true rgS 7 0 o.length), (6, .int .i64 (i : Nat))], [(7, .row 48 rgS o)]⟩ := by
  obtain ⟨h1, h2, h3⟩ := hp
  have fin : ∀ (i : Nat) (o : List (Int × Int)), ¬ i < l.length → i ≤ l.length → o = mvR (l.take i) y → QC ctRg (l, y, ()) [.win true rgS 7 0 o.length] [(7, .row 48 rgS o)] := by
    intro i o hn hi ho
    have e : o = mvR l y := by rw [ho, List.take_of_length_le (by omega)]
    subst e
    exact qc_row rfl rfl rfl rfl rfl
  intro k
  induction k with
  | zero =>
    intro i o hk hi ho
    refine sy_go dx9 (vc_rgL l o y i _ _) ?_
    rw [decide_eq_false (by omega), bc_f]
    exact fin i o (by omega) hi ho
  | succ k ih =>
    intro i o hk hi ho
    refine sy_go dx9 (vc_rgL l o y i _ _) ?_
    by_cases h : i < l.length
    · have hs := h2 l[i] (List.getElem_mem h)
      unfold small at hs h3
      have e1 : gt rgS l (i : Int).toNat = l[i] := gtE h
      rw [decide_eq_true (show (i : Int) < (l.length : Int) by omega), bc_t, e1, IntWalk.i64_in ((i : Int) + 1) (by omega), IntWalk.i64_in (l[i].1 + y) (by omega), IntWalk.i64_in (l[i].2 + y) (by omega)]
      have hol : o.length = i := by rw [ho, mvR, List.length_map, List.length_take]; omega
      refine ⟨by omega, by omega, by omega, by omega, Nat.le_refl _, rfl, rfl, ?_, by decide, ?_⟩
      · show o.length + 1 < 2 ^ 30
        omega
      · have ho2 : o ++ [(l[i].1 + y, l[i].2 + y)] = mvR (l.take (i + 1)) y := by
          rw [ho, mvR, mvR, List.take_succ_eq_append_getElem h, List.map_append]; rfl
        refine Good.onlyR (ih (i + 1) _ (by omega) (by omega) ho2) [(7, 31)] rfl ⟨rfl, rfl, ?_, rfl, trivial⟩ ⟨rfl, trivial⟩
        show some (SV.win true rgS 31 0 (o.length + 1)) = some (SV.win true rgS 31 0 (o ++ [(l[i].1 + y, l[i].2 + y)]).length)
        rw [List.length_append, List.length_singleton]
    · rw [decide_eq_false (by omega), bc_f]
      exact fin i o h hi ho
theorem rg_run (l : List (Int × Int)) (y : Int) (hp : preRg l y) : sy tt G0 D9 Try.f22.ntmps Try.f22.results.toList (QC ctRg (l, y, ())) (Px.Good Try.prog tt G0 22 Try.f22.ntmps Try.f22.results.toList (QC ctRg (l, y, ()))) 1000 [.code (bodyOf Try.f22)] (entry [.sl rgS, iI] (l, y, ())) := by
  rw [vc_rg]
  exact (rg_loop hp _ 0 [] (Nat.le_refl _) (Nat.zero_le _) rfl).only ⟨rfl, rfl, rfl, rfl, trivial⟩ ⟨rfl, trivial⟩
theorem rg_held : Held Try.prog G0 22 ctRg := Held.run dx9 (fn := Try.f22) rfl rfl ⟨by decide, by decide⟩ fun x hp => rg_run x.1 x.2.1 hp
abbrev D10 : CV := (22, .inl ctRg) :: D9
theorem dx10 : CxOK Try.prog tt G0 D10 := dx9.cons rg_held (fn := Try.f22) rfl rfl rfl
end Go.Proofs.Ytpdhohkamhmjkaa
namespace Go.Proofs.Ytpdhohkamhmjkaa
open Go.Px Go.Ax
set_option maxRecDepth 100000
theorem vc_l5 (b w : List Int) (Q : List SV → List (Nat × LB) → Prop) (R : List Item → PS → Prop) : sy tt G0 D10 Try.f5.ntmps Try.f5.results.toList Q R 1000 [.code (bodyOf Try.f5)] (entry [.sl (.int .u8), .arr 2 (.int .u8)] (b, w, ())) =
    (ctSan.pre () ∧
 ctMade.pre (w, ()) ∧
 bc (decide ((200 : Int) < (↑b.length : Int)))
 (Q [SV.bool true]
 [((3 : Nat), LB.var [SV.arr (2 : Nat) (Sh.int IntKind.u8) w]),
 ((6 : Nat), LB.var [SV.arr (2 : Nat) (Sh.int IntKind.i64) (madeL w)])])
 (ctLb.pre (b, madeL w, ()) ∧
 bc (decide (errO (pr2 (madeL w)).fst (pr2 (madeL w)).snd ≠ (0 : Int)))
 (Q [SV.bool false]
 [((3 : Nat), LB.var [SV.arr (2 : Nat) (Sh.int IntKind.u8) w]),
 ((6 : Nat), LB.var [SV.arr (2 : Nat) (Sh.int IntKind.i64) (madeL w)]),
 ((1090112 : Nat),
 LB.row (48 : Nat) ((Sh.int IntKind.i64).pair (Sh.int IntKind.i64))
 (blkO b (pr2 (madeL w)).fst (pr2 (madeL w)).snd))])
 (R (hd Try.f5 (0 : Nat))
 {
 env :=
 [((0 : Nat), SV.sl (Sh.int IntKind.u8) b), ((1 : Nat), SV.arr (2 : Nat) (Sh.int IntKind.u8) w),
 ((3 : Nat), SV.ptr (3 : Nat) (0 : Nat)), ((4 : Nat), SV.bool false), ((5 : Nat), SV.bool true),
 ((6 : Nat), SV.ptr (6 : Nat) (0 : Nat)),
 ((7 : Nat),
 SV.win true ((Sh.int IntKind.i64).pair (Sh.int IntKind.i64)) (1090112 : Nat) (0 : Nat)
 (blkO b (pr2 (madeL w)).fst (pr2 (madeL w)).snd).length),
 ((8 : Nat), SV.int IntKind.i64 (errO (pr2 (madeL w)).fst (pr2 (madeL w)).snd)),
 ((9 : Nat), SV.int IntKind.i64 (0 : Int)), ((12 : Nat), SV.bool true),
 ((13 : Nat), SV.arr (2 : Nat) (Sh.int IntKind.u8) w),
 ((14 : Nat), SV.arr (2 : Nat) (Sh.int IntKind.i64) (madeL w)),
 ((15 : Nat), SV.sl (Sh.int IntKind.u8) b), ((16 : Nat), SV.int IntKind.i64 (↑b.length : Int)),
 ((17 : Nat), SV.bool (decide ((200 : Int) < (↑b.length : Int)))),
 ((19 : Nat),
 SV.tup
 [SV.win true ((Sh.int IntKind.i64).pair (Sh.int IntKind.i64)) (1090112 : Nat) (0 : Nat)
 (blkO b (pr2 (madeL w)).fst (pr2 (madeL w)).snd).length,
 SV.int IntKind.i64 (errO (pr2 (madeL w)).fst (pr2 (madeL w)).snd)]),
 ((20 : Nat), SV.sl (Sh.int IntKind.u8) b),
 ((21 : Nat), SV.arr (2 : Nat) (Sh.int IntKind.i64) (madeL w)),
 ((22 : Nat),
 SV.tup
 [SV.win true ((Sh.int IntKind.i64).pair (Sh.int IntKind.i64)) (1090112 : Nat) (0 : Nat)
 (blkO b (pr2 (madeL w)).fst (pr2 (madeL w)).snd).length,
 SV.int IntKind.i64 (errO (pr2 (madeL w)).fst (pr2 (madeL w)).snd)]),
 ((23 : Nat),
 SV.win true ((Sh.int IntKind.i64).pair (Sh.int IntKind.i64)) (1090112 : Nat) (0 : Nat)
 (blkO b (pr2 (madeL w)).fst (pr2 (madeL w)).snd).length),
 ((24 : Nat), SV.int IntKind.i64 (errO (pr2 (madeL w)).fst (pr2 (madeL w)).snd)),
 ((25 : Nat), SV.int IntKind.i64 (errO (pr2 (madeL w)).fst (pr2 (madeL w)).snd)),
 ((26 : Nat), SV.bool (decide (errO (pr2 (madeL w)).fst (pr2 (madeL w)).snd ≠ (0 : Int))))],
 blk :=
 [((3 : Nat), LB.var [SV.arr (2 : Nat) (Sh.int IntKind.u8) w]),
 ((6 : Nat), LB.var [SV.arr (2 : Nat) (Sh.int IntKind.i64) (madeL w)]),
 ((1090112 : Nat),
 LB.row (48 : Nat) ((Sh.int IntKind.i64).pair (Sh.int IntKind.i64))
 (blkO b (pr2 (madeL w)).fst (pr2 (madeL w)).snd))] }))) := by kernel_rfl
theorem vc_l5L (b w : List Int) (r : List (Int × Int)) (i : Int) (Q : List SV → List (Nat × LB) → Prop) (R : List Item → PS → Prop) : sy tt G0 D10 Try.f5.ntmps Try.f5.results.toList Q (fun it S => R it (keepS [0, 5, 6, 7, 9] [6, 1090112] S)) 1000 (hd Try.f5 0) ⟨[(0, .sl (.int .u8) b), (5, .bool true), (6, .ptr 6 0), (7, .win true (.pair (.int .i64) (.int .i64)) 1090112 0 r.length), (9, .int .i64 i)], [(6, .var [.arr 2 (.int .i64) w]), (1090112, .row 48 (.pair (.int .i64) (.int .i64)) r)]⟩ =
    (bc (decide (i < (↑r.length : Int)))
 ((0 : Int) ≤ i ∧
 i < (↑r.length : Int) ∧
 (0 : Nat) + i.toNat < r.length ∧
 bc (decide ((gt ((Sh.int IntKind.i64).pair (Sh.int IntKind.i64)) r ((0 : Nat) + i.toNat)).fst < (0 : Int)))
 (true = true ∧
 Q [SV.bool false]
 [((6 : Nat), LB.var [SV.arr (2 : Nat) (Sh.int IntKind.i64) w]),
 ((1090112 : Nat), LB.row (48 : Nat) ((Sh.int IntKind.i64).pair (Sh.int IntKind.i64)) r)])
 ((0 : Int) ≤ i ∧
 i < (↑r.length : Int) ∧
 (0 : Nat) + i.toNat < r.length ∧
 bc
 (bif false then true
 else
 decide
 ((↑b.length : Int) <
 (gt ((Sh.int IntKind.i64).pair (Sh.int IntKind.i64)) r ((0 : Nat) + i.toNat)).fst))
 (Q [SV.bool false]
 [((6 : Nat), LB.var [SV.arr (2 : Nat) (Sh.int IntKind.i64) w]),
 ((1090112 : Nat), LB.row (48 : Nat) ((Sh.int IntKind.i64).pair (Sh.int IntKind.i64)) r)])
 ((0 : Int) ≤ i ∧
 i < (↑r.length : Int) ∧
 (0 : Nat) + i.toNat < r.length ∧
 (0 : Int) ≤ (gt ((Sh.int IntKind.i64).pair (Sh.int IntKind.i64)) r ((0 : Nat) + i.toNat)).fst ∧
 (gt ((Sh.int IntKind.i64).pair (Sh.int IntKind.i64)) r ((0 : Nat) + i.toNat)).fst ≤
 (↑b.length : Int) ∧
 ctLb.pre
 (List.drop
 (Int.toNat
 (gt ((Sh.int IntKind.i64).pair (Sh.int IntKind.i64)) r ((0 : Nat) + i.toNat)).fst)
 b,
 w, ()) ∧
 bc (decide (errO (pr2 w).fst (pr2 w).snd ≠ (0 : Int)))
 (true = true ∧
 Q [SV.bool false]
 [((6 : Nat), LB.var [SV.arr (2 : Nat) (Sh.int IntKind.i64) w]),
 ((1090112 : Nat),
 LB.row (48 : Nat) ((Sh.int IntKind.i64).pair (Sh.int IntKind.i64)) r),
 ((1237568 : Nat),
 LB.row (48 : Nat) ((Sh.int IntKind.i64).pair (Sh.int IntKind.i64))
 (blkO
 (List.drop
 (Int.toNat
 (gt ((Sh.int IntKind.i64).pair (Sh.int IntKind.i64)) r
 ((0 : Nat) + i.toNat)).fst)
 b)
 (pr2 w).fst (pr2 w).snd))])
 ((0 : Int) ≤ i ∧
 i < (↑r.length : Int) ∧
 (0 : Nat) + i.toNat < r.length ∧
 (0 : Nat) +
 (blkO
 (List.drop
 (Int.toNat
 (gt ((Sh.int IntKind.i64).pair (Sh.int IntKind.i64)) r
 ((0 : Nat) + i.toNat)).fst)
 b)
 (pr2 w).fst (pr2 w).snd).length ≤
 (blkO
 (List.drop
 (Int.toNat
 (gt ((Sh.int IntKind.i64).pair (Sh.int IntKind.i64)) r
 ((0 : Nat) + i.toNat)).fst)
 b)
 (pr2 w).fst (pr2 w).snd).length ∧
 ctRg.pre
 (winL rgS (0 : Nat)
 (blkO
 (List.drop
 (Int.toNat
 (gt ((Sh.int IntKind.i64).pair (Sh.int IntKind.i64)) r
 ((0 : Nat) + i.toNat)).fst)
 b)
 (pr2 w).fst (pr2 w).snd).length
 (blkO
 (List.drop
 (Int.toNat
 (gt ((Sh.int IntKind.i64).pair (Sh.int IntKind.i64)) r
 ((0 : Nat) + i.toNat)).fst)
 b)
 (pr2 w).fst (pr2 w).snd),
 (gt ((Sh.int IntKind.i64).pair (Sh.int IntKind.i64)) r
 ((0 : Nat) + i.toNat)).fst,
 ()) ∧
 (0 : Int) ≤ i ∧
 i ≤ (↑r.length : Int) ∧
 (0 : Nat) + r.length ≤ r.length ∧
 (0 : Nat) +
 (mvR
 (winL rgS (0 : Nat)
 (blkO
 (List.drop
 (Int.toNat
 (gt ((Sh.int IntKind.i64).pair (Sh.int IntKind.i64))
 r ((0 : Nat) + i.toNat)).fst)
 b)
 (pr2 w).fst (pr2 w).snd).length
 (blkO
 (List.drop
 (Int.toNat
 (gt ((Sh.int IntKind.i64).pair (Sh.int IntKind.i64)) r
 ((0 : Nat) + i.toNat)).fst)
 b)
 (pr2 w).fst (pr2 w).snd))
 (gt ((Sh.int IntKind.i64).pair (Sh.int IntKind.i64)) r
 ((0 : Nat) + i.toNat)).fst).length ≤
 (mvR
 (winL rgS (0 : Nat)
 (blkO
 (List.drop
 (Int.toNat
 (gt ((Sh.int IntKind.i64).pair (Sh.int IntKind.i64)) r
 ((0 : Nat) + i.toNat)).fst)
 b)
 (pr2 w).fst (pr2 w).snd).length
 (blkO
 (List.drop
 (Int.toNat
 (gt ((Sh.int IntKind.i64).pair (Sh.int IntKind.i64)) r
 ((0 : Nat) + i.toNat)).fst)
 b)
 (pr2 w).fst (pr2 w).snd))
 (gt ((Sh.int IntKind.i64).pair (Sh.int IntKind.i64)) r
 ((0 : Nat) + i.toNat)).fst).length ∧
 (0 : Nat) + i.toNat + (r.length - i.toNat) ≤ r.length ∧
 ctRngs.pre
 (winL rgS (0 : Nat)
 (mvR
 (winL rgS (0 : Nat)
 (blkO
 (List.drop
 (Int.toNat
 (gt
 ((Sh.int IntKind.i64).pair
 (Sh.int IntKind.i64))
 r ((0 : Nat) + i.toNat)).fst)
 b)
 (pr2 w).fst (pr2 w).snd).length
 (blkO
 (List.drop
 (Int.toNat
 (gt
 ((Sh.int IntKind.i64).pair
 (Sh.int IntKind.i64))
 r ((0 : Nat) + i.toNat)).fst)
 b)
 (pr2 w).fst (pr2 w).snd))
 (gt ((Sh.int IntKind.i64).pair (Sh.int IntKind.i64)) r
 ((0 : Nat) + i.toNat)).fst).length
 (mvR
 (winL rgS (0 : Nat)
 (blkO
 (List.drop
 (Int.toNat
 (gt
 ((Sh.int IntKind.i64).pair
 (Sh.int IntKind.i64))
 r ((0 : Nat) + i.toNat)).fst)
 b)
 (pr2 w).fst (pr2 w).snd).length
 (blkO
 (List.drop
 (Int.toNat
 (gt
 ((Sh.int IntKind.i64).pair
 (Sh.int IntKind.i64))
 r ((0 : Nat) + i.toNat)).fst)
 b)
 (pr2 w).fst (pr2 w).snd))
 (gt ((Sh.int IntKind.i64).pair (Sh.int IntKind.i64)) r
 ((0 : Nat) + i.toNat)).fst),
 winL rgS ((0 : Nat) + i.toNat) (r.length - i.toNat) r, ()) ∧
 bc
 (bif false then true
 else
 !eqR
 (winL rgS (0 : Nat)
 (mvR
 (winL rgS (0 : Nat)
 (blkO
 (List.drop
 (Int.toNat
 (gt
 ((Sh.int IntKind.i64).pair
 (Sh.int IntKind.i64))
 r ((0 : Nat) + i.toNat)).fst)
 b)
 (pr2 w).fst (pr2 w).snd).length
 (blkO
 (List.drop
 (Int.toNat
 (gt
 ((Sh.int IntKind.i64).pair
 (Sh.int IntKind.i64))
 r ((0 : Nat) + i.toNat)).fst)
 b)
 (pr2 w).fst (pr2 w).snd))
 (gt ((Sh.int IntKind.i64).pair (Sh.int IntKind.i64))
 r ((0 : Nat) + i.toNat)).fst).length
 (mvR
 (winL rgS (0 : Nat)
 (blkO
 (List.drop
 (Int.toNat
 (gt
 ((Sh.int IntKind.i64).pair
 (Sh.int IntKind.i64))
 r ((0 : Nat) + i.toNat)).fst)
 b)
 (pr2 w).fst (pr2 w).snd).length
 (blkO
 (List.drop
 (Int.toNat
 (gt
 ((Sh.int IntKind.i64).pair
 (Sh.int IntKind.i64))
 r ((0 : Nat) + i.toNat)).fst)
 b)
 (pr2 w).fst (pr2 w).snd))
 (gt ((Sh.int IntKind.i64).pair (Sh.int IntKind.i64)) r
 ((0 : Nat) + i.toNat)).fst))
 (winL rgS ((0 : Nat) + i.toNat) (r.length - i.toNat) r))
 (Q [SV.bool false]
 [((6 : Nat),
 LB.var [SV.arr (2 : Nat) (Sh.int IntKind.i64) w]),
 ((1090112 : Nat),
 LB.row (48 : Nat)
 ((Sh.int IntKind.i64).pair (Sh.int IntKind.i64)) r),
 ((1237568 : Nat),
 LB.row (48 : Nat)
 ((Sh.int IntKind.i64).pair (Sh.int IntKind.i64))
 (blkO
 (List.drop
 (Int.toNat
 (gt
 ((Sh.int IntKind.i64).pair
 (Sh.int IntKind.i64))
 r ((0 : Nat) + i.toNat)).fst)
 b)
 (pr2 w).fst (pr2 w).snd)),
 ((1286720 : Nat),
 LB.row (48 : Nat)
 ((Sh.int IntKind.i64).pair (Sh.int IntKind.i64))
 (mvR
 (winL rgS (0 : Nat)
 (blkO
 (List.drop
 (Int.toNat
 (gt
 ((Sh.int IntKind.i64).pair
 (Sh.int IntKind.i64))
 r ((0 : Nat) + i.toNat)).fst)
 b)
 (pr2 w).fst (pr2 w).snd).length
 (blkO
 (List.drop
 (Int.toNat
 (gt
 ((Sh.int IntKind.i64).pair
 (Sh.int IntKind.i64))
 r ((0 : Nat) + i.toNat)).fst)
 b)
 (pr2 w).fst (pr2 w).snd))
 (gt ((Sh.int IntKind.i64).pair (Sh.int IntKind.i64)) r
 ((0 : Nat) + i.toNat)).fst))])
 (R (hd Try.f5 (0 : Nat))
 {
 env :=
 [((0 : Nat), SV.sl (Sh.int IntKind.u8) b),
 ((5 : Nat), SV.bool true),
 ((6 : Nat), SV.ptr (6 : Nat) (0 : Nat)),
 ((7 : Nat),
 SV.win true
 ((Sh.int IntKind.i64).pair (Sh.int IntKind.i64))
 (1090112 : Nat) (0 : Nat) r.length),
 ((9 : Nat),
 SV.int IntKind.i64
 (IntKind.i64.wrap (i + (1 : Int))))],
 blk :=
 [((6 : Nat),
 LB.var [SV.arr (2 : Nat) (Sh.int IntKind.i64) w]),
 ((1090112 : Nat),
 LB.row (48 : Nat)
 ((Sh.int IntKind.i64).pair (Sh.int IntKind.i64))
 r)] })))))
 (Q [SV.bool true]
 [((6 : Nat), LB.var [SV.arr (2 : Nat) (Sh.int IntKind.i64) w]),
 ((1090112 : Nat), LB.row (48 : Nat) ((Sh.int IntKind.i64).pair (Sh.int IntKind.i64)) r)])) := by kernel_rfl
end Go.Proofs.Ytpdhohkamhmjkaa
namespace Go.Proofs.Ytpdhohkamhmjkaa
open Go.Px Go.Ax
attribute [local irreducible] Go.Px.sy Go.Px.syE
theorem winA {e : Sh} (l : List e.D) : winL e 0 l.length l = l := by
  unfold winL
  rw [List.drop_zero, List.take_length]
theorem winD {e : Sh} (l : List e.D) (i : Nat) : winL e (0 + i) (l.length - i) l = l.drop i := by
  unfold winL
  rw [Nat.zero_add, List.take_of_length_le (by rw [List.length_drop]; omega)]
theorem blksF_shift (b : List Int) (l m p : Nat) (hp : p ≤ b.length) : ∀ k q, mvR (blksF (b.drop p) l m k q) (p : Int) = blksF b l m k (p + q)
  | 0, _ => rfl
  | k + 1, q => by
    simp only [blksF, List.length_drop]
    by_cases h : q < b.length - p
    · rw [if_pos h, if_pos (by omega), mvR, List.map_cons, List.drop_drop]
      have ih := blksF_shift b l m p hp k (q + firstLen (b.drop (p + q)) l m)
      unfold mvR at ih
      rw [ih, show p + (q + firstLen (b.drop (p + q)) l m) = p + q + firstLen (b.drop (p + q)) l m by omega]
      congr 1
      simp only [Prod.mk.injEq]
      omega
    · rw [if_neg h, if_neg (by omega)]; rfl
theorem blksF_fuel (b : List Int) {l m : Nat} (h : 4 ≤ l ∧ l ≤ m) : ∀ k k' p, b.length - p ≤ k → b.length - p ≤ k' → blksF b l m k p = blksF b l m k' p
  | 0, 0, _, _, _ => rfl
  | 0, k' + 1, p, h1, _ => by rw [blksF, blksF, if_neg (by omega)]
  | k + 1, 0, p, _, h2 => by rw [blksF, blksF, if_neg (by omega)]
  | k + 1, k' + 1, p, h1, h2 => by
    rw [blksF, blksF]
    by_cases hp : p < b.length
    · have hf := firstLen_bd (b := b.drop p) h (by rw [List.length_drop]; omega)
      rw [if_pos hp, if_pos hp, blksF_fuel b h k k' _ (by omega) (by omega)]
    · rw [if_neg hp, if_neg hp]
theorem blksF_at (b : List Int) {l m : Nat} (h : 4 ≤ l ∧ l ≤ m) : ∀ k p i, b.length - p ≤ k → (hi : i < (blksF b l m k p).length) → ∃ k' q : Nat, q < b.length ∧ b.length - q ≤ k' ∧ (blksF b l m k p)[i].1 = (q : Int) ∧ (blksF b l m k p).drop i = blksF b l m k' q
  | 0, p, i, _, hi => by simp [blksF] at hi
  | k + 1, p, i, hk, hi => by
    by_cases hp : p < b.length
    · have hf := firstLen_bd (b := b.drop p) h (by rw [List.length_drop]; omega)
      have e : blksF b l m (k + 1) p = ((p : Int), ((p + firstLen (b.drop p) l m : Nat) : Int)) :: blksF b l m k (p + firstLen (b.drop p) l m) := by rw [blksF, if_pos hp]
      cases i with
      | zero => exact ⟨k + 1, p, hp, hk, by simp only [e]; rfl, rfl⟩
      | succ i =>
        have hi' : i < (blksF b l m k (p + firstLen (b.drop p) l m)).length := by rw [e, List.length_cons] at hi; omega
        obtain ⟨k', q, h1, h2, h3, h4⟩ := blksF_at b h k _ i (by omega) hi'
        exact ⟨k', q, h1, h2, by simp only [e, List.getElem_cons_succ]; exact h3, by rw [e, List.drop_succ_cons]; exact h4⟩
    · have : blksF b l m (k + 1) p = [] := by rw [blksF, if_neg hp]
      rw [this] at hi; simp at hi
theorem made_lim {w : List Int} (h : preMade w) : limR (pr2 (madeL w)).1 (pr2 (madeL w)).2 = true := by
  obtain ⟨⟨h1, h2⟩, h3, h4⟩ := h
  have e1 : (pr2 (madeL w)).1 = 4 + (gt (Sh.int .u8) w 0) % 8 := rfl
  have e2 : (pr2 (madeL w)).2 = 4 + (gt (Sh.int .u8) w 0) % 8 + (gt (Sh.int .u8) w 1) % 16 := rfl
  rw [e1, e2]
  exact decide_eq_true (by omega)
theorem mk_made {l : List Int} (hl : l.length = 2) (h : ∀ n ∈ l, (Lit.int .u8 n).wf = true) : preMade l := by
  have e0 : gt (Sh.int .u8) l 0 = l[0] := gtE (by omega)
  have e1 : gt (Sh.int .u8) l 1 = l[1] := gtE (by omega)
  have b0 := bytes_of h l[0] (List.getElem_mem _)
  have b1 := bytes_of h l[1] (List.getElem_mem _)
  unfold preMade
  rw [e0, e1]
  exact ⟨b0, b1⟩
abbrev QT : List SV → List (Nat × LB) → Prop := fun rs _ => rs = [.bool true]
theorem l5_loop {b w : List Int} (hb : preT b) (hl : limR (pr2 w).1 (pr2 w).2 = true) : ∀ (k i : Nat), (blkO b (pr2 w).1 (pr2 w).2).length - i ≤ k → i ≤ (blkO b (pr2 w).1 (pr2 w).2).length →
    GD 5 Try.f5 QT (hd Try.f5 0) ⟨[(0, .sl (.int .u8) b), (5, .bool true), (6, .ptr 6 0), (7, .win true rgS 1090112 0 (blkO b (pr2 w).1 (pr2 w).2).length), (9, .int .i64 (i : Nat))], [(6, .var [.arr 2 (.int .i64) w]), (1090112, .row 48 rgS (blkO b (pr2 w).1 (pr2 w).2))]⟩ := by
  have he : errO (pr2 w).1 (pr2 w).2 = 0 := by rw [errO, hl]; rfl
  have hlim : 4 ≤ (pr2 w).1 ∧ (pr2 w).1 ≤ (pr2 w).2 ∧ (pr2 w).2 ≤ 4096 := of_decide_eq_true hl
  generalize hlv : (pr2 w).1.toNat = l at *
  generalize hmv : (pr2 w).2.toNat = m at *
  have hlm : 4 ≤ l ∧ l ≤ m := by omega
  have hO : ∀ c, blkO c (pr2 w).1 (pr2 w).2 = blks c l m := fun c => by rw [blkO, hl, hlv, hmv]; rfl
  rw [hO]
  have hlen : (blks b l m).length ≤ b.length := blksF_len b _ _ hlm _ _
  have hb1 := hb.1
  intro k
  induction k with
  | zero =>
    intro i hk hi
    refine sy_goK dx10 (vc_l5L b w _ i _ _) ?_
    rw [decide_eq_false (by omega), bc_f]
  | succ k ih =>
    intro i hk hi
    refine sy_goK dx10 (vc_l5L b w _ i _ _) ?_
    by_cases h : i < (blks b l m).length
    · obtain ⟨k', q, q1, q2, q3, q4⟩ := blksF_at b hlm b.length 0 i (by omega) h
      have e1 : gt rgS (blks b l m) (0 + (i : Int).toNat) = (blks b l m)[i] := by rw [Nat.zero_add]; exact gtE h
      have e2 : ((blks b l m)[i]).1 = (q : Int) := q3
      have hdl : (b.drop q).length = b.length - q := List.length_drop
      have e3 : mvR (blks (b.drop q) l m) (q : Int) = (blks b l m).drop i := by
        rw [blks, blksF_shift b l m q (by omega), show (blks b l m).drop i = _ from q4]
        exact blksF_fuel b hlm _ _ _ (by omega) (by omega)
      have hsm : ∀ r ∈ blks (b.drop q) l m, small r.1 ∧ small r.2 := fun r hr => by
        have := blksF_in hlm _ _ r hr
        unfold small
        omega
      have hl2 : (blks (b.drop q) l m).length ≤ (b.drop q).length := blksF_len _ _ _ hlm _ _
      rw [decide_eq_true (show (i : Int) < ((blks b l m).length : Int) by omega), bc_t, e1, e2, Int.toNat_natCast, Int.toNat_natCast, hO, he, winA, e3, winA, winD, IntWalk.i64_in ((i : Int) + 1) (by omega)]
      rw [decide_eq_false (show ¬ (q : Int) < 0 by omega), bc_f, cond_false, decide_eq_false (show ¬ (b.length : Int) < q by omega), bc_f, decide_eq_false (show ¬ (0 : Int) ≠ 0 by simp), bc_f, cond_false]
      rw [show eqR ((blks b l m).drop i) ((blks b l m).drop i) = true from decide_eq_true rfl, Bool.not_true, bc_f]
      have t1 : preT (b.drop q) := ⟨by omega, bytes_drop hb.2 q⟩
      have t2 : preRg (blks (b.drop q) l m) (q : Int) := ⟨by omega, hsm, by unfold small; omega⟩
      have t3 : preLn ((blks b l m).drop i).length := by unfold preLn; rw [List.length_drop]; omega
      have t4 := ih (i + 1) (by omega) (by omega)
      repeat' first
        | exact t1
        | exact t2
        | exact t3
        | exact t4
        | exact trivial
        | omega
        | exact Int.ofNat_le.2 (Nat.le_of_lt q1)
        | (refine And.intro ?_ ?_)
    · rw [decide_eq_false (by omega), bc_f]
def ctL5 : Ctr := ⟨[slB, .arr 2 (.int .u8)], fun x => bytesOK x.1 ∧ preMade x.2.1, fun _ => [.bool true], fun _ => []⟩
theorem l5_run (b w : List Int) (hp : bytesOK b) (hw : preMade w) : sy tt G0 D10 Try.f5.ntmps Try.f5.results.toList (QC ctL5 (b, w, ())) (Px.Good Try.prog tt G0 5 Try.f5.ntmps Try.f5.results.toList (QC ctL5 (b, w, ()))) 1000 [.code (bodyOf Try.f5)] (entry [slB, .arr 2 (.int .u8)] (b, w, ())) := by
  rw [vc_l5]
  have hl := made_lim hw
  have he : errO (pr2 (madeL w)).1 (pr2 (madeL w)).2 = 0 := by rw [errO, hl]; rfl
  refine ⟨trivial, hw, bc_of (fun h => QC.flat rfl rfl rfl) (fun h => ?_)⟩
  have h : ¬ (200 : Int) < b.length := of_decide_eq_false h
  have hb : preT b := ⟨by omega, hp⟩
  rw [he, decide_eq_false (show ¬ (0 : Int) ≠ 0 by simp), bc_f]
  exact ⟨hb, ((l5_loop hb hl _ 0 (Nat.le_refl _) (Nat.zero_le _)).post fun rs blk hq => QC.flat (by rw [hq]; rfl) rfl (by rw [hq]; rfl)).only ⟨rfl, rfl, rfl, rfl, rfl, trivial⟩ ⟨rfl, rfl, trivial⟩⟩
theorem l5_held : Held Try.prog G0 5 ctL5 := Held.run dx10 (fn := Try.f5) rfl rfl ⟨by decide, by decide⟩ fun x hp => l5_run x.1 x.2.1 hp.1 hp.2
end Go.Proofs.Ytpdhohkamhmjkaa
namespace Go.Proofs.Ytpdhohkamhmjkaa
open Go.Px Go.Ax
attribute [local irreducible] Go.Px.sy Go.Px.syE
theorem ixF_some {a key : List Int} : ∀ {rs : List (Int × Int)} {i j : Nat}, ixF a key i rs = some j → ∃ t, j = i + t ∧ (∃ x, rs[t]? = some x ∧ pc a x = key) ∧ ∀ t' x, t' < t → rs[t']? = some x → pc a x ≠ key
  | [], _, _, h => by simp [ixF] at h
  | r :: rs, i, j, h => by
    rw [ixF] at h
    split at h
    · rename_i he
      cases h
      exact ⟨0, rfl, ⟨r, rfl, he⟩, fun t' x h => by omega⟩
    · rename_i he
      obtain ⟨t, h1, ⟨x, h2, h3⟩, h4⟩ := ixF_some h
      refine ⟨t + 1, by omega, ⟨x, by simpa using h2, h3⟩, fun t' y ht hy => ?_⟩
      cases t' with
      | zero => simp at hy; subst hy; exact he
      | succ t' => exact h4 t' y (by omega) (by simpa using hy)
theorem ixF_none {a key : List Int} : ∀ {rs : List (Int × Int)} {i : Nat}, ixF a key i rs = none → ∀ (t : Nat) (x : Int × Int), rs[t]? = some x → pc a x ≠ key
  | [], _, _, t, x, hx => by simp at hx
  | r :: rs, i, h, t, x, hx => by
    rw [ixF] at h
    split at h
    · cases h
    · rename_i he
      cases t with
      | zero => simp at hx; subst hx; exact he
      | succ t => exact ixF_none h t x (by simpa using hx)
theorem rmF_ge {a b : List Int} {r : List (Int × Int)} : ∀ {ss : List (Int × Int)} {k : Nat} {e : List Int}, e ∈ rmF a b r k ss → ∃ j k' : Nat, e = [(j : Int), (k' : Int)] ∧ k ≤ k'
  | [], _, _, h => by simp [rmF] at h
  | s :: ss, k, e, h => by
    rw [rmF] at h
    cases hi : ixF a (pc b s) 0 r with
    | some i =>
      rw [hi] at h
      rcases List.mem_cons.1 h with rfl | h
      · exact ⟨i, k, rfl, Nat.le_refl _⟩
      · obtain ⟨j, k', h1, h2⟩ := rmF_ge h
        exact ⟨j, k', h1, by omega⟩
    | none =>
      rw [hi] at h
      obtain ⟨j, k', h1, h2⟩ := rmF_ge h
      exact ⟨j, k', h1, by omega⟩
theorem rmF_len {a b : List Int} {r : List (Int × Int)} : ∀ (ss : List (Int × Int)) (k : Nat), (rmF a b r k ss).length ≤ ss.length
  | [], _ => Nat.le_refl _
  | s :: ss, k => by
    have := rmF_len (a := a) (b := b) (r := r) ss (k + 1)
    rw [rmF]
    cases ixF a (pc b s) 0 r <;> simp only [List.length_cons] <;> omega
theorem rmF_self {a : List Int} {r : List (Int × Int)} : ∀ (ss : List (Int × Int)) (k : Nat), (∀ t x, ss[t]? = some x → ∃ j, j ≤ k + t ∧ ixF a (pc a x) 0 r = some j) →
    (rmF a a r k ss).length = ss.length ∧ ∀ t, t < ss.length → ∃ j : Nat, j ≤ k + t ∧ (rmF a a r k ss)[t]? = some [(j : Int), ((k + t : Nat) : Int)]
  | [], _, _ => ⟨rfl, fun t h => by simp at h⟩
  | s :: ss, k, h => by
    obtain ⟨j, h1, h2⟩ := h 0 s rfl
    obtain ⟨g1, g2⟩ := rmF_self ss (k + 1) fun t x hx => by
      obtain ⟨j, h1, h2⟩ := h (t + 1) x (by simpa using hx)
      exact ⟨j, by omega, h2⟩
    rw [rmF, h2]
    refine ⟨by simp only [List.length_cons, g1], fun t ht => ?_⟩
    cases t with
    | zero => exact ⟨j, h1, rfl⟩
    | succ t =>
      obtain ⟨j, q1, q2⟩ := g2 t (by simpa using ht)
      exact ⟨j, by omega, by simp only [List.getElem?_cons_succ]; rw [q2, show k + 1 + t = k + (t + 1) by omega]⟩
theorem ix_self {a : List Int} {r : List (Int × Int)} (t : Nat) (x : Int × Int) (hx : r[t]? = some x) : ∃ j, j ≤ 0 + t ∧ ixF a (pc a x) 0 r = some j := by
  cases h : ixF a (pc a x) 0 r with
  | none => exact absurd rfl (ixF_none h t x hx)
  | some j =>
    obtain ⟨u, h1, _, h3⟩ := ixF_some h
    refine ⟨j, ?_, rfl⟩
    rcases Nat.lt_or_ge t u with q | q
    · exact absurd rfl (h3 t x q hx)
    · omega
theorem l8_u {m u : List (List Int)} {n : Nat} (hn : n = m.length) (hu : u.length < 1048576) (hs : ∀ t, t < u.length → ∃ j : Nat, j ≤ t ∧ u[t]? = some [(j : Int), (t : Int)]) : ∀ (k i : Nat), u.length - i ≤ k → i ≤ u.length →
    GD 8 Try.f8 QT (hd Try.f8 2) ⟨[(7, .bool true), (13, .win true paS 1217088 0 m.length), (15, .win true paS 1258048 0 u.length), (17, .int .i64 (n : Nat)), (21, .int .i64 (i : Nat))], [(1217088, .row 26 paS m), (1258048, .row 26 paS u)]⟩ := by
  intro k
  induction k with
  | zero =>
    intro i hk hi
    refine sy_goK dx13 (vc_l8U m u n i _ _) ?_
    rw [decide_eq_false (by omega), bc_f, decide_eq_true (by omega), bc_t]
    rfl
  | succ k ih =>
    intro i hk hi
    refine sy_goK dx13 (vc_l8U m u n i _ _) ?_
    by_cases h : i < u.length
    · obtain ⟨j, h1, h2⟩ := hs i h
      have e : gt paS u (0 + (i : Int).toNat) = [(j : Int), (i : Int)] := by
        rw [Nat.zero_add]
        show ((u[i]?).getD _) = _
        rw [h2]; rfl
      have k2 := ih (i + 1) (by omega) (by omega)
      rw [decide_eq_true (show (i : Int) < (u.length : Int) by omega), bc_t, e, IntWalk.i64_in ((i : Int) + 1) (by omega)]
      refine ⟨by omega, by omega, by decide, by decide, by omega, ?_⟩
      rw [show (([(j : Int), (i : Int)] : List Int)[Int.toNat 1 * 1]?.getD (Sh.int .i64).dflt) = (i : Int) from rfl, decide_eq_false (fun q => q rfl), bc_f]
      refine ⟨by omega, by omega, by decide, by decide, by omega, ?_⟩
      rw [cond_false, show (([(j : Int), (i : Int)] : List Int)[Int.toNat 0 * 1]?.getD (Sh.int .i64).dflt) = (j : Int) from rfl, decide_eq_false (by omega), bc_f]
      exact k2
    · rw [decide_eq_false (by omega), bc_f, decide_eq_true (by omega), bc_t]
      rfl
abbrev S8 (a b : List Int) (r s : List (Int × Int)) (m u : List (List Int)) (n k : Nat) : PS := ⟨[(0, .sl (.int .u8) a), (1, .sl (.int .u8) b), (7, .bool true), (9, .win true rgS 1151552 0 r.length), (11, .win true rgS 1176128 0 s.length), (13, .win true paS 1217088 0 m.length), (15, .win true paS 1258048 0 u.length), (17, .int .i64 (n : Nat)), (18, .int .i64 (k : Nat))], [(1151552, .row 48 rgS r), (1176128, .row 48 rgS s), (1217088, .row 26 paS m), (1258048, .row 26 paS u)]⟩
abbrev S8i (a b : List Int) (r s : List (Int × Int)) (m u : List (List Int)) (n k i : Nat) (pd : Bool) : PS := ⟨[(0, .sl (.int .u8) a), (1, .sl (.int .u8) b), (7, .bool true), (9, .win true rgS 1151552 0 r.length), (11, .win true rgS 1176128 0 s.length), (13, .win true paS 1217088 0 m.length), (15, .win true paS 1258048 0 u.length), (17, .int .i64 (n : Nat)), (18, .int .i64 (k : Nat)), (19, .bool pd), (20, .int .i64 (i : Nat))], [(1151552, .row 48 rgS r), (1176128, .row 48 rgS s), (1217088, .row 26 paS m), (1258048, .row 26 paS u)]⟩
section
variable {a b : List Int} {r s : List (Int × Int)} {m u : List (List Int)} {n k : Nat}
theorem l8_f (ha : preT a) (hr : ∀ q ∈ r, prePi a q) (hs : ∀ q ∈ s, prePi b q) (hrl : r.length < 1048576) (hsl : s.length < 1048576) (hk : k < s.length)
    (hno : ∀ (t : Nat) (x : Int × Int), r[t]? = some x → pc a x ≠ pc b s[k]) (hnext : GD 8 Try.f8 QT (hd Try.f8 0) (S8 a b r s m u n (k + 1))) : ∀ (d i : Nat), r.length - i ≤ d → i ≤ r.length →
    GD 8 Try.f8 QT (hd Try.f8 1) (S8i a b r s m u n k i false) := by
  intro d
  induction d with
  | zero =>
    intro i hd hi
    refine sy_goK dx13 (vc_l8I a b r s m u n k i false _ _) ?_
    rw [decide_eq_false (by omega), bc_f, bc_f, IntWalk.i64_in ((k : Int) + 1) (by omega)]
    exact hnext.only ⟨rfl, rfl, rfl, rfl, rfl, rfl, rfl, rfl, rfl, trivial⟩ ⟨rfl, rfl, rfl, rfl, trivial⟩
  | succ d ih =>
    intro i hd hi
    refine sy_goK dx13 (vc_l8I a b r s m u n k i false _ _) ?_
    by_cases h : i < r.length
    · have e1 : gt rgS r (0 + (i : Int).toNat) = r[i] := by rw [Nat.zero_add]; exact gtE h
      have e2 : gt rgS s (0 + (k : Int).toNat) = s[k] := by rw [Nat.zero_add]; exact gtE hk
      have p1 : ctPi.pre (a, r[i], ()) := hr _ (List.getElem_mem h)
      have p2 : ctPi.pre (b, s[k], ()) := hs _ (List.getElem_mem hk)
      have p3 : preLn (pc a r[i]).length := by
        have := ha.1
        show List.length ((a.take _).drop _) < 2 ^ 62
        rw [List.length_drop, List.length_take]; omega
      have hne := hno i r[i] (List.getElem?_eq_getElem h)
      rw [decide_eq_true (show (i : Int) < (r.length : Int) by omega), bc_t, Bool.not_false, bc_t, e1, e2, IntWalk.i64_in ((i : Int) + 1) (by omega)]
      refine ⟨rfl, by omega, by omega, by omega, p1, by omega, by omega, by omega, p2, p3, ?_⟩
      rw [cond_true, show eqI (Px.part a (some r[i].1) (some r[i].2)) (Px.part b (some s[k].1) (some s[k].2)) = false from decide_eq_false hne, bc_f]
      exact (ih (i + 1) (by omega) (by omega)).only ⟨rfl, rfl, rfl, rfl, rfl, rfl, rfl, rfl, rfl, rfl, rfl, trivial⟩ ⟨rfl, rfl, rfl, rfl, trivial⟩
    · rw [decide_eq_false (by omega), bc_f, bc_f, IntWalk.i64_in ((k : Int) + 1) (by omega)]
      exact hnext.only ⟨rfl, rfl, rfl, rfl, rfl, rfl, rfl, rfl, rfl, trivial⟩ ⟨rfl, rfl, rfl, rfl, trivial⟩
theorem l8_t {j : Nat} (ha : preT a) (hr : ∀ q ∈ r, prePi a q) (hs : ∀ q ∈ s, prePi b q) (hrl : r.length < 1048576) (hsl : s.length < 1048576) (hk : k < s.length) (hn : n < m.length) (hml : m.length < 1048576) (hm : gt paS m n = [(j : Int), (k : Int)])
    (hno : ∀ (t : Nat) (x : Int × Int), t < j → r[t]? = some x → pc a x ≠ pc b s[k]) (hnext : GD 8 Try.f8 QT (hd Try.f8 0) (S8 a b r s m u (n + 1) (k + 1))) : ∀ (d i : Nat), r.length - i ≤ d → i ≤ r.length →
    GD 8 Try.f8 QT (hd Try.f8 1) (S8i a b r s m u n k i true) := by
  intro d
  induction d with
  | zero =>
    intro i hd hi
    refine sy_goK dx13 (vc_l8I a b r s m u n k i true _ _) ?_
    rw [decide_eq_false (by omega), bc_f, bc_t, IntWalk.i64_in ((k : Int) + 1) (by omega), IntWalk.i64_in ((n : Int) + 1) (by omega)]
    exact hnext.only ⟨rfl, rfl, rfl, rfl, rfl, rfl, rfl, rfl, rfl, trivial⟩ ⟨rfl, rfl, rfl, rfl, trivial⟩
  | succ d ih =>
    intro i hd hi
    refine sy_goK dx13 (vc_l8I a b r s m u n k i true _ _) ?_
    by_cases h : i < r.length
    · have e1 : gt rgS r (0 + (i : Int).toNat) = r[i] := by rw [Nat.zero_add]; exact gtE h
      have e2 : gt rgS s (0 + (k : Int).toNat) = s[k] := by rw [Nat.zero_add]; exact gtE hk
      have e3 : gt paS m (0 + (n : Int).toNat) = [(j : Int), (k : Int)] := by rw [Nat.zero_add]; exact hm
      have p1 : ctPi.pre (a, r[i], ()) := hr _ (List.getElem_mem h)
      have p2 : ctPi.pre (b, s[k], ()) := hs _ (List.getElem_mem hk)
      have p3 : preLn (pc a r[i]).length := by
        have := ha.1
        show List.length ((a.take _).drop _) < 2 ^ 62
        rw [List.length_drop, List.length_take]; omega
      have k2 := ih (i + 1) (by omega) (by omega)
      rw [decide_eq_true (show (i : Int) < (r.length : Int) by omega), bc_t, Bool.not_true, bc_f, e1, e2, e3, IntWalk.i64_in ((i : Int) + 1) (by omega), cond_false]
      refine ⟨by omega, by omega, by decide, by decide, by omega, ?_⟩
      rw [show (([(j : Int), (k : Int)] : List Int)[Int.toNat 0 * 1]?.getD (Sh.int .i64).dflt) = (j : Int) from rfl]
      refine bc_of (fun hq => ?_) (fun hq => ⟨rfl, ?_⟩)
      · have hq : (i : Int) < (j : Int) := of_decide_eq_true hq
        have hne := hno i r[i] (by omega) (List.getElem?_eq_getElem h)
        refine ⟨by omega, by omega, by omega, p1, by omega, by omega, by omega, p2, p3, ?_⟩
        rw [cond_true, show eqI (Px.part a (some r[i].1) (some r[i].2)) (Px.part b (some s[k].1) (some s[k].2)) = false from decide_eq_false hne, bc_f]
        exact k2.only ⟨rfl, rfl, rfl, rfl, rfl, rfl, rfl, rfl, rfl, rfl, rfl, trivial⟩ ⟨rfl, rfl, rfl, rfl, trivial⟩
      · exact k2.only ⟨rfl, rfl, rfl, rfl, rfl, rfl, rfl, rfl, rfl, rfl, rfl, trivial⟩ ⟨rfl, rfl, rfl, rfl, trivial⟩
    · rw [decide_eq_false (by omega), bc_f, bc_t, IntWalk.i64_in ((k : Int) + 1) (by omega), IntWalk.i64_in ((n : Int) + 1) (by omega)]
      exact hnext.only ⟨rfl, rfl, rfl, rfl, rfl, rfl, rfl, rfl, rfl, trivial⟩ ⟨rfl, rfl, rfl, rfl, trivial⟩
end
theorem l8_k {a b : List Int} {r s : List (Int × Int)} {m u : List (List Int)} (ha : preT a) (hr : ∀ q ∈ r, prePi a q) (hs : ∀ q ∈ s, prePi b q) (hrl : r.length < 1048576) (hsl : s.length < 1048576) (hml : m.length < 1048576)
    (hu : ∀ n : Nat, n = m.length → GD 8 Try.f8 QT (hd Try.f8 2) ⟨[(7, .bool true), (13, .win true paS 1217088 0 m.length), (15, .win true paS 1258048 0 u.length), (17, .int .i64 (n : Nat)), (21, .int .i64 0)], [(1217088, .row 26 paS m), (1258048, .row 26 paS u)]⟩) : ∀ (d k n : Nat), s.length - k ≤ d → k ≤ s.length → n ≤ m.length → m.drop n = rmF a b r k (s.drop k) →
    GD 8 Try.f8 QT (hd Try.f8 0) (S8 a b r s m u n k) := by
  have fin : ∀ k n : Nat, ¬ k < s.length → n ≤ m.length → m.drop n = rmF a b r k (s.drop k) → n = m.length := by
    intro k n hk hn h
    rw [List.drop_eq_nil_of_le (show s.length ≤ k by omega), rmF] at h
    have := congrArg List.length h
    rw [List.length_drop, List.length_nil] at this
    omega
  intro d
  induction d with
  | zero =>
    intro k n hd hk hn h
    refine sy_goK dx13 (vc_l8K a b r s m u n k _ _) ?_
    rw [decide_eq_false (by omega), bc_f]
    exact (hu n (fin k n (by omega) hn h)).only ⟨rfl, rfl, rfl, rfl, rfl, trivial⟩ ⟨rfl, rfl, trivial⟩
  | succ d ih =>
    intro k n hd hk hn h
    refine sy_goK dx13 (vc_l8K a b r s m u n k _ _) ?_
    by_cases hlt : k < s.length
    · rw [decide_eq_true (show (k : Int) < (s.length : Int) by omega), bc_t]
      rw [dropc hlt, rmF] at h
      cases hx : ixF a (pc b s[k]) 0 r with
      | none =>
        rw [hx] at h
        have h : m.drop n = rmF a b r (k + 1) (s.drop (k + 1)) := h
        have k1 := l8_f (u := u) (m := m) (n := n) ha hr hs hrl hsl hlt (ixF_none hx) (ih (k + 1) n (by omega) (by omega) hn h) _ 0 (Nat.le_refl _) (Nat.zero_le _)
        refine bc_of (fun q => ?_) (fun q => ⟨rfl, rfl, ?_⟩)
        · have q : (n : Int) < (m.length : Int) := of_decide_eq_true q
          have hnm : n < m.length := by omega
          have hmem : m[n] ∈ rmF a b r (k + 1) (s.drop (k + 1)) := by rw [← h, dropc hnm]; exact List.mem_cons.2 (.inl rfl)
          obtain ⟨j, k', g1, g2⟩ := rmF_ge hmem
          have e3 : gt paS m (0 + (n : Int).toNat) = [(j : Int), (k' : Int)] := by rw [Nat.zero_add, ← g1]; exact gtE hnm
          refine ⟨by omega, q, by decide, by decide, by omega, ?_⟩
          rw [e3, cond_true, show (([(j : Int), (k' : Int)] : List Int)[Int.toNat 1 * 1]?.getD (Sh.int .i64).dflt) = (k' : Int) from rfl, decide_eq_false (show ¬ (k' : Int) = k by omega), bc_f]
          exact ⟨rfl, k1.only ⟨rfl, rfl, rfl, rfl, rfl, rfl, rfl, rfl, rfl, rfl, rfl, trivial⟩ ⟨rfl, rfl, rfl, rfl, trivial⟩⟩
        · exact k1.only ⟨rfl, rfl, rfl, rfl, rfl, rfl, rfl, rfl, rfl, rfl, rfl, trivial⟩ ⟨rfl, rfl, rfl, rfl, trivial⟩
      | some j =>
        rw [hx] at h
        obtain ⟨t, ht, ⟨x, hxt, hxe⟩, hbef⟩ := ixF_some hx
        obtain rfl : j = t := by omega
        have hnm : n < m.length := by
          rcases Nat.lt_or_ge n m.length with q | q
          · exact q
          · rw [List.drop_eq_nil_of_le q] at h; cases h
        rw [dropc hnm] at h
        have hm0 : m[n] = [(j : Int), (k : Int)] := (List.cons.inj h).1
        have h2 := (List.cons.inj h).2
        have e3 : gt paS m n = [(j : Int), (k : Int)] := by rw [← hm0]; exact gtE hnm
        have e4 : gt paS m (0 + (n : Int).toNat) = [(j : Int), (k : Int)] := by rw [Nat.zero_add]; exact e3
        have k1 := l8_t (u := u) (j := j) ha hr hs hrl hsl hlt hnm hml e3 (fun t' y ht' hy => hbef t' y ht' hy) (ih (k + 1) (n + 1) (by omega) (by omega) (by omega) h2) _ 0 (Nat.le_refl _) (Nat.zero_le _)
        have hj : j < r.length := (List.getElem?_eq_some_iff.1 hxt).1
        have hrj : r[j] = x := (List.getElem?_eq_some_iff.1 hxt).2
        have e1 : gt rgS r (0 + (j : Int).toNat) = r[j] := by rw [Nat.zero_add]; exact gtE hj
        have e2 : gt rgS s (0 + (k : Int).toNat) = s[k] := by rw [Nat.zero_add]; exact gtE hlt
        have p1 : ctPi.pre (a, r[j], ()) := hr _ (List.getElem_mem hj)
        have p2 : ctPi.pre (b, s[k], ()) := hs _ (List.getElem_mem hlt)
        have p3 : preLn (pc a r[j]).length := by
          have := ha.1
          show List.length ((a.take _).drop _) < 2 ^ 62
          rw [List.length_drop, List.length_take]; omega
        rw [decide_eq_true (show (n : Int) < (m.length : Int) by omega), bc_t, e4, cond_true,
          show (([(j : Int), (k : Int)] : List Int)[Int.toNat 1 * 1]?.getD (Sh.int .i64).dflt) = (k : Int) from rfl, show (([(j : Int), (k : Int)] : List Int)[Int.toNat 0 * 1]?.getD (Sh.int .i64).dflt) = (j : Int) from rfl, decide_eq_true rfl, bc_t, e1, e2,
          decide_eq_false (show ¬ (j : Int) < 0 by omega), bc_f, cond_false, decide_eq_false (show ¬ (r.length : Int) ≤ j by omega), bc_f, cond_true, cond_false,
          show eqI (Px.part a (some r[j].1) (some r[j].2)) (Px.part b (some s[k].1) (some s[k].2)) = true from decide_eq_true (by rw [hrj]; exact hxe), Bool.not_true, bc_f]
        have k3 := k1
        repeat' first
          | exact p1
          | exact p2
          | exact p3
          | exact trivial
          | exact k3.only ⟨rfl, rfl, rfl, rfl, rfl, rfl, rfl, rfl, rfl, rfl, rfl, trivial⟩ ⟨rfl, rfl, rfl, rfl, trivial⟩
          | omega
          | exact Int.natCast_nonneg _
          | exact Int.ofNat_lt.2 hj
          | decide
          | (refine And.intro ?_ ?_)
    · rw [decide_eq_false (by omega), bc_f]
      exact (hu n (fin k n hlt hn h)).only ⟨rfl, rfl, rfl, rfl, rfl, trivial⟩ ⟨rfl, rfl, trivial⟩
def ctL8 : Ctr := ⟨[slB, slB, .arr 2 (.int .u8)], fun x => (bytesOK x.1 ∧ bytesOK x.2.1) ∧ preMade x.2.2.1, fun _ => [.bool true], fun _ => []⟩
theorem l8_run (a b w : List Int) (ha : bytesOK a) (hb : bytesOK b) (hw : preMade w) : sy tt G0 D13 Try.f8.ntmps Try.f8.results.toList (QC ctL8 (a, b, w, ())) (fun it S => Px.Good Try.prog tt G0 8 Try.f8.ntmps Try.f8.results.toList (QC ctL8 (a, b, w, ())) it (keepS [0, 1, 7, 9, 11, 13, 15, 17, 18] [1151552, 1176128, 1217088, 1258048] S)) 1000 [.code (bodyOf Try.f8)] (entry [slB, slB, .arr 2 (.int .u8)] (a, b, w, ())) := by
  rw [vc_l8]
  have hl := made_lim hw
  have he : errO (pr2 (madeL w)).1 (pr2 (madeL w)).2 = 0 := by rw [errO, hl]; rfl
  refine ⟨trivial, hw, bc_of (fun h => ⟨rfl, QC.flat rfl rfl rfl⟩) (fun h1 => bc_of (fun h => QC.flat rfl rfl rfl) (fun h2 => ?_))⟩
  have h1 : ¬ (200 : Int) < a.length := of_decide_eq_false h1
  have h2 : ¬ (200 : Int) < b.length := of_decide_eq_false h2
  have pa : preT a := ⟨by omega, ha⟩
  have pb : preT b := ⟨by omega, hb⟩
  have pm : ctMa.pre (a, b, gt (Sh.int .i64) (madeL w) (Int.toNat 0), gt (Sh.int .i64) (madeL w) (Int.toNat 1), ()) := ⟨pa, pb⟩
  have pu : ctMa.pre (a, a, gt (Sh.int .i64) (madeL w) (Int.toNat 0), gt (Sh.int .i64) (madeL w) (Int.toNat 1), ()) := ⟨pa, pa⟩
  refine ⟨pa, pb, by decide, by decide, by decide, by decide, by decide, by decide, pm, by decide, by decide, by decide, by decide, by decide, by decide, pu, ?_⟩
  have g0 : gt (Sh.int .i64) (madeL w) (Int.toNat 0) = (pr2 (madeL w)).1 := rfl
  have g1 : gt (Sh.int .i64) (madeL w) (Int.toNat 1) = (pr2 (madeL w)).2 := rfl
  rw [g0, g1, he, matO_eq ha hb, matO_eq ha ha]
  have r1 := blkO_len a (pr2 (madeL w)).1 (pr2 (madeL w)).2
  have s1 := blkO_len b (pr2 (madeL w)).1 (pr2 (madeL w)).2
  have rin := fun q hq => blkO_in (b := a) (l := (pr2 (madeL w)).1) (m := (pr2 (madeL w)).2) (r := q) hq
  have sin := fun q hq => blkO_in (b := b) (l := (pr2 (madeL w)).1) (m := (pr2 (madeL w)).2) (r := q) hq
  generalize blkO a (pr2 (madeL w)).1 (pr2 (madeL w)).2 = r at *
  generalize blkO b (pr2 (madeL w)).1 (pr2 (madeL w)).2 = s at *
  have ml := rmF_len (a := a) (b := b) (r := r) s 0
  obtain ⟨u1, u2⟩ := rmF_self (a := a) (r := r) r 0 fun t x hx => ix_self t x hx
  rw [decide_eq_false (show ¬ (0 : Int) ≠ 0 by simp), bc_f, cond_false, bc_f, cond_false, decide_eq_false (show ¬ (s.length : Int) < (rmF a b r 0 s).length by omega), bc_f, cond_false, decide_eq_false (show ¬ ((rmF a a r 0 r).length : Int) ≠ r.length by omega), bc_f]
  refine ((l8_k (m := rmF a b r 0 s) (u := rmF a a r 0 r) pa rin sin (by omega) (by omega) (by omega) (fun n hn => ?_) _ 0 0 (Nat.le_refl _) (Nat.zero_le _) (Nat.zero_le _) rfl).post fun rs blk hq => QC.flat (by rw [hq]; rfl) rfl (by rw [hq]; rfl)).only ⟨rfl, rfl, rfl, rfl, rfl, rfl, rfl, rfl, rfl, trivial⟩ ⟨rfl, rfl, rfl, rfl, trivial⟩
  exact l8_u hn (by omega) (fun t ht => by
    obtain ⟨j, q1, q2⟩ := u2 t (by omega)
    exact ⟨j, by omega, by rw [q2, Nat.zero_add]⟩) _ 0 (Nat.le_refl _) (Nat.zero_le _)
theorem l8_held : Held Try.prog G0 8 ctL8 := Held.of dx13 (fn := Try.f8) rfl rfl ⟨by decide, by decide⟩ fun x hp => sy_soundR dx13 (fun _ _ h => h.keep) _ _ _ (l8_run x.1 x.2.1 x.2.2.1 hp.1.1 hp.1.2 hp.2)
end Go.Proofs.Ytpdhohkamhmjkaa
