/-
  A part of the proof: what a piece of the program gives; conditions: those of each theorem.
-/
import Derived.Test.YtijeaicbnfiegaaSv24
set_option linter.unusedVariables false
namespace Go.Proofs.Ytijeaicbnfiegaa
open Go.Px Go.Ax
/-- The list, sorted by pairs. -/
abbrev srtP (p : List (List Int)) (l : List Int) : List Int := (srtF p (List.replicate (l.length / 2) 0) l).2
def prePl (l : List Int) (p : List (List Int)) : Prop := l.length < 1048576 ∧ inP p l
def ctPl : CtrI := ⟨K23, fun x => prePl x.1 x.2.1.2.1.1, fun _ => [], fun x => bkKL 0 K23 (srtP x.2.1.2.1.1 x.1, x.2)⟩
theorem places_run (l : List Int) (p : List (List Int)) (hp : prePl l p) (R : List Item → PS → Prop) : sy tt G0 D5 Try.f23.ntmps Try.f23.results.toList (QI ctPl (l, ((), ((p, ()), ())), ())) R 1000 [.code (bodyOf Try.f23)] (entryI K23 (l, ((), ((p, ()), ())), ())) := by
  obtain ⟨h1, h2⟩ := hp
  rw [vc_places]
  have i1 : IntKind.i64.wrap ((l.length : Int).tdiv 2) = ((l.length / 2 : Nat) : Int) := by rw [show (l.length : Int).tdiv 2 = ((l.length / 2 : Nat) : Int) from rfl, IntWalk.i64_in _ (by omega)]
  have sg : seg l 0 l.length = l := by
    unfold seg
    rw [List.drop_zero, List.take_length]
  rw [i1, Int.toNat_natCast, sg]
  refine ⟨by decide, by omega, by omega, by omega, by omega, by rw [List.length_replicate], rfl, (show preSort 1048577 _ 0 l.length l p from ⟨by omega, by omega, by rw [List.length_replicate]; omega, h1, by rw [sg]; exact h2⟩), ?_⟩
  have e : putP l 0 (0 + l.length) (srtF p (List.replicate (l.length / 2) (Sh.int .i64).dflt) l).2 = srtP p l := by
    unfold putP
    rw [List.take_zero, List.nil_append, Nat.zero_add, List.drop_length, List.append_nil]
    rfl
  rw [e]
  refine QI.self rfl rfl rfl ?_
  intro b hb
  simp only [ctPl, bkKL, bkK, cnt, cntL, List.append_nil, List.nil_append, List.mem_append, List.mem_cons, List.not_mem_nil, or_false] at hb
  rcases hb with rfl | rfl | rfl <;> rfl
theorem places_held : HeldI Try.prog G0 23 ctPl := HeldI.run cxd5 (fn := Try.f23) rfl rfl ⟨by decide, by decide⟩ fun x hp => places_run x.1 x.2.1.2.1.1 hp _
/-- A list that is made from the front. -/
def bld {α : Type} (f : Nat → α) (n i : Nat) (d : α) : List α := (List.range i).map f ++ List.replicate (n - i) d
theorem bld_len {α : Type} {f : Nat → α} {n i : Nat} {d : α} (h : i ≤ n) : (bld f n i d).length = n := by
  unfold bld
  simp only [List.length_append, List.length_map, List.length_range, List.length_replicate]; omega
theorem bld_set {α : Type} {f : Nat → α} {n i : Nat} {d : α} (h : i < n) : (bld f n i d).set i (f i) = bld f n (i + 1) d := by
  unfold bld
  rw [List.set_append_right _ _ (by simp)]
  simp only [List.length_map, List.length_range, Nat.sub_self]
  obtain ⟨m, hm⟩ : ∃ m, n - i = m + 1 := ⟨n - i - 1, by omega⟩
  rw [hm, show n - (i + 1) = m by omega, List.replicate_succ, List.set_cons_zero, List.range_succ, List.map_append, List.append_assoc]
  rfl
theorem bld_zero {α : Type} {f : Nat → α} {n : Nat} {d : α} : bld f n 0 d = List.replicate n d := rfl
theorem bld_all {α : Type} {f : Nat → α} {n : Nat} {d : α} : bld f n n d = (List.range n).map f := by
  unfold bld
  rw [Nat.sub_self, List.replicate_zero, List.append_nil]
/-- The pairs of ranks. -/
def pairF (r : List Int) (d : Nat) (i : Nat) : List Int := [gt (Sh.int .i64) r i, if i + d < r.length then gt (Sh.int .i64) r (i + d) else -1]
def prePa (r : List Int) (n : Int) : Prop := r.length < 1048576 ∧ 0 ≤ n ∧ n < 2097152
def ctPa : Ctr := ⟨[slI, .int .i64], fun x => prePa x.1 x.2.1, fun x => [.win true shP 0 0 x.1.length], fun x => [.row 45 shP ((List.range x.1.length).map (pairF x.1 x.2.1.toNat))]⟩
theorem gt_set {e : Sh} {l : List e.D} {i : Nat} {v : e.D} (h : i < l.length) : gt e (l.set i v) i = v := by
  have := gt_at (σ := e) (l := l.set i v) (i := i) (by rw [List.length_set]; exact h)
  rw [List.getElem?_set_self h] at this
  exact (Option.some.inj this).symm
theorem pairs_loop (r : List Int) (n : Int) (hp : prePa r n) : ∀ (m i : Nat), r.length - i ≤ m → i ≤ r.length →
    GD 22 Try.f22 (QC ctPa (r, n, ())) (hd Try.f22 0) ⟨[(0, .sl (.int .i64) r), (1, .int .i64 n), (5, .win true shP 10 0 (bld (pairF r n.toNat) r.length i shP.dflt).length), (11, .sl (.int .i64) r), (12, .int .i64 r.length), (13, .int .i64 (i : Int))], [(10, .row 45 shP (bld (pairF r n.toNat) r.length i shP.dflt))]⟩ := by
  obtain ⟨h20, hn0, hn1⟩ := hp
  have fin : GD 22 Try.f22 (QC ctPa (r, n, ())) (hd Try.f22 0) ⟨[(0, .sl (.int .i64) r), (1, .int .i64 n), (5, .win true shP 10 0 (bld (pairF r n.toNat) r.length r.length shP.dflt).length), (11, .sl (.int .i64) r), (12, .int .i64 r.length), (13, .int .i64 (r.length : Int))], [(10, .row 45 shP (bld (pairF r n.toNat) r.length r.length shP.dflt))]⟩ := by
    refine sy_go cx0 (vc_pairsL _ _ _ _ _ _) (bc_of (fun h => ?_) (fun h => ?_))
    · have h := of_decide_eq_true h; omega
    · rw [bld_len (Nat.le_refl _), bld_all]
      refine QC.row (e := shP) (et := 45) (a := 10) (k := r.length) (xs := (List.range r.length).map (pairF r n.toNat)) ?_ rfl rfl (by simp) rfl
      show [SV.win true shP 0 0 r.length] = _
      rw [List.length_map, List.length_range]
  intro m
  induction m with
  | zero =>
    intro i hm h1
    obtain rfl : i = r.length := by omega
    exact fin
  | succ m ih =>
    intro i hm h1
    by_cases hi : i < r.length
    · refine sy_go cx0 (vc_pairsL _ _ _ _ _ _) ?_
      have hl : (bld (pairF r n.toNat) r.length i shP.dflt).length = r.length := bld_len h1
      have w1 : IntKind.i64.wrap ((i : Int) + n) = ((i + n.toNat : Nat) : Int) := by rw [IntWalk.i64_in _ (by omega)]; omega
      have w2 : IntKind.i64.wrap ((i : Int) + 1) = ((i + 1 : Nat) : Int) := by rw [IntWalk.i64_in _ (by omega)]; omega
      rw [decide_eq_true (show (i : Int) < (r.length : Int) by omega), bc_t, w1, w2]
      simp only [Int.toNat_natCast, Nat.zero_add]
      have q := ih (i + 1) (by omega) (by omega)
      rw [← bld_set hi] at q
      refine ⟨by omega, by omega, by omega, by omega, by omega, bc_of (fun h => ?_) (fun h => ?_)⟩
      · have h := of_decide_eq_true h
        refine ⟨by omega, by omega, by omega, by omega, by decide, by decide, by rw [List.length_set]; omega, ?_⟩
        rw [gt_set (by omega), List.set_set]
        have e : List.set ((List.set (Sh.arr 2 (Sh.int .i64)).dflt 0 (gt (Sh.int .i64) r i)).set 1 (-1 : Int)) (Int.toNat 1 * 1) (gt (Sh.int .i64) r (i + n.toNat)) = pairF r n.toNat i := by
          unfold pairF
          rw [if_pos (by omega)]
          rfl
        rw [e]
        refine q.only ⟨rfl, rfl, ?_, rfl, rfl, rfl, trivial⟩ ⟨rfl, trivial⟩
        rw [List.length_set]; rfl
      · have h := of_decide_eq_false h
        have e : ((List.set (Sh.arr 2 (Sh.int .i64)).dflt 0 (gt (Sh.int .i64) r i)).set 1 (-1 : Int)) = pairF r n.toNat i := by
          unfold pairF
          rw [if_neg (by omega)]
          rfl
        rw [e]
        refine q.only ⟨rfl, rfl, ?_, rfl, rfl, rfl, trivial⟩ ⟨rfl, trivial⟩
        rw [List.length_set]; rfl
    · obtain rfl : i = r.length := by omega
      exact fin
theorem pairs_run (r : List Int) (n : Int) (hp : prePa r n) : sy tt G0 [] Try.f22.ntmps Try.f22.results.toList (QC ctPa (r, n, ())) (Px.Good Try.prog tt G0 22 Try.f22.ntmps Try.f22.results.toList (QC ctPa (r, n, ()))) 1000 [.code (bodyOf Try.f22)] (entry [slI, .int .i64] (r, n, ())) := by
  rw [vc_pairs]
  have h20 := hp.1
  refine ⟨by omega, Int.le_refl _, by omega, by omega, ?_⟩
  rw [Int.toNat_natCast]
  have q := pairs_loop r n hp _ 0 (Nat.le_refl _) (Nat.zero_le _)
  rw [bld_zero] at q
  refine q.only ⟨rfl, rfl, ?_, rfl, rfl, rfl, trivial⟩ ⟨rfl, trivial⟩
  rw [List.length_replicate]; rfl
theorem pairs_held : Held Try.prog G0 22 ctPa := Held.run cx0 (fn := Try.f22) rfl rfl ⟨by decide, by decide⟩ fun x hp => pairs_run x.1 x.2.1 hp
/-- The rank of the k-th place. -/
def rk (p : List (List Int)) (o : List Nat) : Nat → Nat
  | 0 => 0
  | k + 1 => rk p o k + if gt shP p ((o[k + 1]?).getD 0) ≠ gt shP p ((o[k]?).getD 0) then 1 else 0
theorem ixlt {o : List Nat} {n j : Nat} (ho : o.Perm (List.range n)) (hj : j < n) : o.idxOf j < o.length := List.idxOf_lt_length_of_mem (ho.mem_iff.2 (by simpa using hj))
theorem ixat {o : List Nat} {n j : Nat} (ho : o.Perm (List.range n)) (hj : j < n) : o[o.idxOf j]'(ixlt ho hj) = j := List.getElem_idxOf (ixlt ho hj)
def rankV (p : List (List Int)) (o : List Nat) : List Int := rowF o.length fun j => ((rk p o (o.idxOf j) : Nat) : Int)
def preRk (l : List Int) (p : List (List Int)) : Prop := p.length < 1048576 ∧ ∃ o : List Nat, o.Perm (List.range p.length) ∧ l = mapI o
def ctRk : Ctr := ⟨[slI, slP], fun x => preRk x.1 x.2.1, fun x => [.win true (.int .i64) 0 0 (List.length (rankV x.2.1 (natsOf x.1)))], fun x => [.row 3 (.int .i64) (rankV x.2.1 (natsOf x.1))]⟩
/-- The rank before the i-th round. -/
def rkc (p : List (List Int)) (o : List Nat) : Nat → Nat
  | 0 => 0
  | k + 1 => rk p o k
theorem rk_le (p : List (List Int)) (o : List Nat) : ∀ k, rk p o k ≤ k
  | 0 => Nat.le_refl _
  | k + 1 => by
    have := rk_le p o k
    rw [rk]
    split <;> omega
abbrev rkRow (p : List (List Int)) (o : List Nat) (i : Nat) : List Int := rowF o.length fun j => if o.idxOf j < i then ((rk p o (o.idxOf j) : Nat) : Int) else 0
theorem ranks_loop {p : List (List Int)} {o : List Nat} (hp : p.length < 1048576) (ho : o.Perm (List.range p.length)) : ∀ (m i : Nat), o.length - i ≤ m → i ≤ o.length →
    GD 26 Try.f26 (fun rs blk => rs = [.win true (.int .i64) 11 0 o.length] ∧ lk blk 11 = some (.row 3 (.int .i64) (rankV p o))) (hd Try.f26 0)
      ⟨[(0, .sl (.int .i64) (mapI o)), (1, .sl shP p), (5, .win true (.int .i64) 11 0 (rkRow p o i).length), (6, .int .i64 ((rkc p o i : Nat) : Int)), (12, .sl (.int .i64) (mapI o)), (13, .int .i64 (mapI o).length), (14, .int .i64 (i : Int))], [(11, .row 3 (.int .i64) (rkRow p o i))]⟩ := by
  have hlen : o.length = p.length := by simpa using ho.length_eq
  have hnd : o.Nodup := ho.nodup_iff.2 List.nodup_range
  have hlt : ∀ {j : Nat} (h : j < o.length), o[j] < p.length := fun h => by simpa using ho.mem_iff.1 (List.getElem_mem h)
  intro m
  induction m with
  | zero =>
    intro i hm h1
    refine sy_go cx0 (vc_ranksL _ _ _ _ _ _ _) (bc_of (fun h => ?_) (fun h => ?_))
    · have h := of_decide_eq_true h; rw [mapI_len] at h; omega
    · have e : rkRow p o i = rankV p o := rowF_congr fun j hj => by
        rw [if_pos (by have := ixlt ho (j := j) (by omega); omega)]
      rw [e]
      exact ⟨by rw [rankV, rowF_len], rfl⟩
  | succ m ih =>
    intro i hm h1
    by_cases hi : i < o.length
    · refine sy_go cx0 (vc_ranksL _ _ _ _ _ _ _) ?_
      have hx := hlt hi
      have g : gt (Sh.int .i64) (mapI o) (i : Int).toNat = ((o[i] : Nat) : Int) := gt_mapI hi
      have hidx : o.idxOf o[i] = i := nodup_at hnd (ixlt ho hx) hi (ixat ho hx)
      have e : (rkRow p o i).set (0 + ((o[i] : Nat) : Int).toNat) ((rk p o i : Nat) : Int) = rkRow p o (i + 1) := by
        refine rowF_set ?_ fun j hj hne => ?_
        · rw [Nat.zero_add, Int.toNat_natCast, hidx, if_pos (by omega)]
        · have r := ixlt ho (j := j) (by omega)
          have : o.idxOf j ≠ i := by
            intro q
            have := ixat ho (j := j) (by omega)
            simp only [q] at this
            rw [Nat.zero_add, Int.toNat_natCast] at hne
            exact hne this.symm
          by_cases q : o.idxOf j < i
          · rw [if_pos q, if_pos (by omega)]
          · rw [if_neg q, if_neg (by omega)]
      have hrl : (rkRow p o i).length = o.length := rowF_len _ _
      have q := ih (i + 1) (by omega) (by omega)
      rw [show rkc p o (i + 1) = rk p o i from rfl, ← e] at q
      have hw : IntKind.i64.wrap ((i : Int) + 1) = ((i + 1 : Nat) : Int) := by rw [IntWalk.i64_in _ (by omega)]; omega
      rw [g, mapI_len, decide_eq_true (show (i : Int) < (o.length : Int) by omega), bc_t, hrl, hw]
      have fin : ∀ (S : PS), GD 26 Try.f26 (fun rs blk => rs = [.win true (.int .i64) 11 0 o.length] ∧ lk blk 11 = some (.row 3 (.int .i64) (rankV p o))) (hd Try.f26 0) S → True := fun _ _ => trivial
      cases i with
      | zero =>
        refine ⟨by omega, by omega, ?_⟩
        rw [decide_eq_false (show ¬ ((0 : Int) < ((0 : Nat) : Int)) by decide), bc_f]
        refine ⟨rfl, (show (0 : Int) ≤ ((o[0] : Nat) : Int) by omega), (show ((o[0] : Nat) : Int) < (o.length : Int) by omega), (show 0 + ((o[0] : Nat) : Int).toNat < o.length by rw [Nat.zero_add, Int.toNat_natCast]; omega), ?_⟩
        refine q.only ⟨rfl, rfl, ?_, rfl, rfl, ?_, rfl, trivial⟩ ⟨rfl, trivial⟩
        · rw [List.length_set, hrl]; rfl
        · rw [mapI_len]; rfl
      | succ k =>
        refine ⟨by omega, by omega, ?_⟩
        have hw1 : IntKind.i64.wrap (((k + 1 : Nat) : Int) - 1) = (k : Int) := by rw [IntWalk.i64_in _ (by omega)]; omega
        have g2 : gt (Sh.int .i64) (mapI o) (k : Int).toNat = ((o[k]'(by omega) : Nat) : Int) := gt_mapI (by omega)
        have hy := hlt (j := k) (by omega)
        rw [decide_eq_true (show (0 : Int) < ((k + 1 : Nat) : Int) by omega), bc_t, hw1, g2]
        simp only [Int.toNat_natCast]
        have hrk : rk p o (k + 1) = rk p o k + if gt shP p o[k + 1] ≠ gt shP p (o[k]'(by omega)) then 1 else 0 := by
          rw [rk, List.getElem?_eq_getElem hi, List.getElem?_eq_getElem (show k < o.length by omega)]; rfl
        have hle := rk_le p o k
        have st : 0 + o[k + 1] < o.length := by omega
        have st1 : ((o[k + 1] : Nat) : Int) < (o.length : Int) := by omega
        have st2 : (0 : Int) ≤ ((o[k + 1] : Nat) : Int) := by omega
        rw [cond_true]
        refine ⟨st2, (show ((o[k + 1] : Nat) : Int) < (p.length : Int) by omega), by omega, by omega, (show (0 : Int) ≤ ((o[k]'(by omega) : Nat) : Int) by omega), (show ((o[k]'(by omega) : Nat) : Int) < (p.length : Int) by omega), bc_of (fun h => ?_) (fun h => ?_)⟩
        · have hne : gt shP p o[k + 1] ≠ gt shP p (o[k]'(by omega)) := by
            intro hh
            rw [decide_eq_true hh] at h
            cases h
          rw [if_pos hne] at hrk
          have hw3 : IntKind.i64.wrap (((rkc p o (k + 1) : Nat) : Int) + 1) = ((rk p o (k + 1) : Nat) : Int) := by
            rw [show rkc p o (k + 1) = rk p o k from rfl, IntWalk.i64_in _ (by omega)]; omega
          rw [hw3]
          refine ⟨st2, st1, st, ?_⟩
          refine q.only ⟨rfl, rfl, ?_, rfl, rfl, ?_, rfl, trivial⟩ ⟨rfl, trivial⟩
          · rw [List.length_set, hrl]; rfl
          · rw [mapI_len]; rfl
        · have heq : gt shP p o[k + 1] = gt shP p (o[k]'(by omega)) := by
            apply Classical.byContradiction
            intro hh
            rw [decide_eq_false hh] at h
            cases h
          rw [if_neg (fun hh => hh heq)] at hrk
          have hr : rkc p o (k + 1) = rk p o (k + 1) := hrk.symm
          rw [hr]
          refine ⟨st2, st1, st, ?_⟩
          refine q.only ⟨rfl, rfl, ?_, rfl, rfl, ?_, rfl, trivial⟩ ⟨rfl, trivial⟩
          · rw [List.length_set, hrl]; rfl
          · rw [mapI_len]; rfl
    · exact ih i (by omega) h1
theorem ranks_run (l : List Int) (p : List (List Int)) (hp : preRk l p) : sy tt G0 [] Try.f26.ntmps Try.f26.results.toList (QC ctRk (l, p, ())) (Px.Good Try.prog tt G0 26 Try.f26.ntmps Try.f26.results.toList (QC ctRk (l, p, ()))) 1000 [.code (bodyOf Try.f26)] (entry [slI, slP] (l, p, ())) := by
  obtain ⟨h20, o, ho, rfl⟩ := hp
  have hlen : o.length = p.length := by simpa using ho.length_eq
  refine (vc_ranks _ _ _ _).mpr ?_
  rw [mapI_len]
  refine ⟨by omega, Int.le_refl _, by omega, by omega, ?_⟩
  have e0 : List.replicate ((o.length : Nat) : Int).toNat (Sh.int .i64).dflt = rkRow p o 0 := by
    rw [Int.toNat_natCast]
    apply List.ext_getElem
    · simp [rowF]
    · intro j h1 h2
      simp [rowF]; rfl
  rw [e0]
  refine ((ranks_loop h20 ho _ 0 (Nat.le_refl _) (Nat.zero_le _)).post fun rs blk hq => ?_).only ⟨rfl, rfl, ?_, rfl, rfl, ?_, rfl, trivial⟩ ⟨rfl, trivial⟩
  · refine QC.row (e := .int .i64) (et := 3) (a := 11) (k := o.length) (xs := rankV p o) ?_ ?_ hq.1 (by rw [rankV, rowF_len]) hq.2
    · simp only [ctRk, nats_map]
    · simp only [ctRk, nats_map]
  · rw [rowF_len, Int.toNat_natCast]; rfl
  · rw [mapI_len]; rfl
theorem ranks_held : Held Try.prog G0 26 ctRk := Held.run cx0 (fn := Try.f26) rfl rfl ⟨by decide, by decide⟩ fun x hp => ranks_run x.1 x.2.1 hp
def D6 : CV := (22, .inl ctPa) :: (26, .inl ctRk) :: (23, .inr ctPl) :: []
theorem cxd6 : CxOK Try.prog tt G0 D6 := ((cx0.consI places_held (fn := Try.f23) rfl rfl rfl).cons ranks_held (fn := Try.f26) rfl rfl rfl).cons pairs_held (fn := Try.f22) rfl rfl rfl
end Go.Proofs.Ytijeaicbnfiegaa
