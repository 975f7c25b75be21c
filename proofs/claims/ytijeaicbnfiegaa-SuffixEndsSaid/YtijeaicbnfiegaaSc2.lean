/-
  A part of the proof: what a piece of the program gives; conditions: those of each theorem.
-/
import Derived.Test.YtijeaicbnfiegaaSv2
import Derived.Test.YtijeaicbnfiegaaSm2
set_option linter.unusedVariables false
namespace Go.Proofs.Ytijeaicbnfiegaa
open Go.Px Go.Ax
def mapI (l : List Nat) : List Int := l.map fun (k : Nat) => (k : Int)
def natsOf (l : List Int) : List Nat := l.map Int.toNat
theorem nats_map (l : List Nat) : natsOf (mapI l) = l := by
  unfold natsOf mapI
  rw [List.map_map]
  exact (List.map_congr_left fun x _ => by simp).trans (List.map_id _)
theorem mapI_len (l : List Nat) : (mapI l).length = l.length := by simp [mapI]
theorem gt_mapI {l : List Nat} {i : Nat} (h : i < l.length) : gt (Sh.int .i64) (mapI l) i = ((l[i] : Nat) : Int) := by
  have : i < (mapI l).length := by rw [mapI_len]; exact h
  rw [gt_eq this]; simp [mapI]
/-- A row by a function of the place. -/
def rowF (n : Nat) (f : Nat → Int) : List Int := (List.range n).map f
theorem rowF_len (n : Nat) (f : Nat → Int) : (rowF n f).length = n := by simp [rowF]
theorem rowF_set {n : Nat} {f g : Nat → Int} {i : Nat} {v : Int} (hi : g i = v) (h : ∀ j, j < n → j ≠ i → f j = g j) : (rowF n f).set i v = rowF n g := by
  apply List.ext_getElem?
  intro j
  rw [List.getElem?_set]
  by_cases hj : j < n
  · by_cases e : i = j
    · subst e
      rw [if_pos rfl, if_pos (by rw [rowF_len]; exact hj)]
      simp [rowF, hj, hi]
    · rw [if_neg e]
      simp [rowF, hj, h j hj (Ne.symm e)]
  · rw [List.getElem?_eq_none (l := rowF n g) (by rw [rowF_len]; omega)]
    by_cases e : i = j
    · subst e; rw [if_pos rfl, if_neg (by rw [rowF_len]; exact hj)]
    · rw [if_neg e, List.getElem?_eq_none (by rw [rowF_len]; omega)]
theorem rowF_congr {n : Nat} {f g : Nat → Int} (h : ∀ j, j < n → f j = g j) : rowF n f = rowF n g := by
  unfold rowF
  exact List.map_congr_left fun j hj => h j (by simpa using hj)
theorem gt_rowF {n : Nat} {f : Nat → Int} {i : Nat} (h : i < n) : gt (Sh.int .i64) (rowF n f) i = f i := by
  have : i < (rowF n f).length := by rw [rowF_len]; exact h
  rw [gt_eq this]; simp [rowF]
abbrev slI : Sh := .sl (.int .i64)
/-- The given order of a text. -/
def preOrd (b : List Int) (o : List Int) : Prop := b.length < 1048576 ∧ ∃ p, OrdOK b p ∧ o = mapI p
theorem QC.row {ct : Ctr} {x : DL ct.args} {rs : List SV} {blk : List (Nat × LB)} {e : Sh} {et : TypeId} {a k : Nat} {xs : List e.D} (h : ct.out x = [.win true e 0 0 xs.length]) (hr : ct.rows x = [.row et e xs]) (hs : rs = [.win true e a 0 k]) (hk : k = xs.length) (hb : lk blk a = some (.row et e xs)) : QC ct x rs blk := by
  subst hs; subst hk
  refine ⟨fun i => if i = 0 then some a else none, ?_, ?_, fun i j b h1 h2 => ?_, by rw [hr]; rfl⟩
  · rw [h]
    exact ⟨_, _, rfl, .inl ⟨true, a, rfl, rfl, fun h => h⟩, rfl⟩
  · rw [hr]
    exact ⟨.inl ⟨a, rfl, hb⟩, trivial⟩
  · simp only at h1 h2
    split at h1
    · split at h2
      · omega
      · cases h2
    · cases h1
/-- The indices of places. -/
def idxV (o : List Nat) : List Int := rowF o.length fun i => ((o.idxOf i : Nat) : Int)
def preIdx (o : List Int) (n : Int) : Prop := (∃ b, preOrd b o) ∧ n = o.length
def ctIdx : Ctr := ⟨[slI, .int .i64], fun x => preIdx x.1 x.2.1, fun x => [.win true (.int .i64) 0 0 (List.length (idxV (natsOf x.1)))], fun x => [.row 3 (.int .i64) (idxV (natsOf x.1))]⟩
theorem nodup_at {o : List Nat} (h : o.Nodup) {i j : Nat} (hi : i < o.length) (hj : j < o.length) (e : o[i] = o[j]) : i = j := by
  have hp := List.pairwise_iff_getElem.1 h
  rcases Nat.lt_trichotomy i j with q | q | q
  · exact absurd e (hp i j hi hj q)
  · exact q
  · exact absurd e.symm (hp j i hj hi q)
theorem idx_loop {b : List Int} {o : List Nat} (ho : OrdOK b o) (hb : b.length < 1048576) : ∀ (m i : Nat), o.length - i ≤ m → i ≤ o.length →
    GD 34 Try.f34 (fun rs blk => rs = [.win true (.int .i64) 9 0 o.length] ∧ lk blk 9 = some (.row 3 (.int .i64) (idxV o))) (hd Try.f34 0)
      ⟨[(0, .sl (.int .i64) (mapI o)), (1, .int .i64 o.length), (5, .win true (.int .i64) 9 0 (rowF o.length fun j => if o.idxOf j < i then ((o.idxOf j : Nat) : Int) else 0).length), (10, .sl (.int .i64) (mapI o)), (11, .int .i64 (mapI o).length), (12, .int .i64 (i : Int))], [(9, .row 3 (.int .i64) (rowF o.length fun j => if o.idxOf j < i then ((o.idxOf j : Nat) : Int) else 0))]⟩ := by
  have hlen := ho.len
  intro m
  induction m with
  | zero =>
    intro i hm h1
    refine sy_go cx0 (vc_indicesL _ _ _ _ _ _) (bc_of (fun h => ?_) (fun h => ?_))
    · have h := of_decide_eq_true h; rw [mapI_len] at h; omega
    · have e : (rowF o.length fun j => if o.idxOf j < i then ((o.idxOf j : Nat) : Int) else 0) = idxV o := rowF_congr fun j hj => by
        rw [if_pos (by have := rank_lt ho (i := j) (by omega); omega)]
      rw [e]
      exact ⟨by rw [idxV, rowF_len], rfl⟩
  | succ m ih =>
    intro i hm h1
    by_cases hi : i < o.length
    · refine sy_go cx0 (vc_indicesL _ _ _ _ _ _) ?_
      have hx : o[i] < o.length := by rw [hlen]; exact ho.lt (List.getElem_mem hi)
      have g : gt (Sh.int .i64) (mapI o) (i : Int).toNat = ((o[i] : Nat) : Int) := gt_mapI hi
      rw [g, mapI_len, decide_eq_true (show (i : Int) < (o.length : Int) by omega), bc_t, decide_eq_true (show (0 : Int) ≤ (o[i] : Nat) by omega), bc_t, decide_eq_true (show ((o[i] : Nat) : Int) < (o.length : Int) by omega), rowF_len]
      refine ⟨by omega, by omega, ?_⟩
      refine ⟨by omega, Int.ofNat_lt.2 hx, by rw [Int.toNat_natCast, Nat.zero_add]; exact hx, ?_⟩
      rw [IntWalk.i64_in ((i : Int) + 1) (by omega)]
      have hidx : o.idxOf o[i] = i := by
        have r := rank_lt ho (i := o[i]) (by omega)
        exact nodup_at ho.nodup r hi (rank_at ho r)
      have e : (rowF o.length fun j => if o.idxOf j < i then ((o.idxOf j : Nat) : Int) else 0).set (0 + ((o[i] : Nat) : Int).toNat) (i : Int) = rowF o.length fun j => if o.idxOf j < i + 1 then ((o.idxOf j : Nat) : Int) else 0 := by
        refine rowF_set ?_ fun j hj hne => ?_
        · rw [Nat.zero_add, Int.toNat_natCast, hidx, if_pos (by omega)]
        · have r := rank_lt ho (i := j) (by omega)
          have : o.idxOf j ≠ i := by
            intro q
            have := rank_at ho r
            simp only [q] at this
            rw [Nat.zero_add, Int.toNat_natCast] at hne
            exact hne this.symm
          by_cases q : o.idxOf j < i
          · rw [if_pos q, if_pos (by omega)]
          · rw [if_neg q, if_neg (by omega)]
      rw [e]
      refine (ih (i + 1) (by omega) (by omega)).only ⟨rfl, rfl, ?_, rfl, ?_, rfl, trivial⟩ ⟨rfl, trivial⟩
      · rw [rowF_len]; rfl
      · rw [mapI_len]; rfl
    · exact ih i (by omega) h1
theorem idx_run (o : List Int) (n : Int) (hp : preIdx o n) : sy tt G0 [] Try.f34.ntmps Try.f34.results.toList (QC ctIdx (o, n, ())) (Px.Good Try.prog tt G0 34 Try.f34.ntmps Try.f34.results.toList (QC ctIdx (o, n, ()))) 1000 [.code (bodyOf Try.f34)] (entry [slI, .int .i64] (o, n, ())) := by
  obtain ⟨⟨b, hb, p, ho, rfl⟩, rfl⟩ := hp
  have hlen := ho.len
  refine (vc_indices _ _ _ _).mpr ?_
  rw [mapI_len]
  refine ⟨by omega, Int.le_refl _, by omega, by omega, ?_⟩
  have e0 : List.replicate ((p.length : Nat) : Int).toNat (Sh.int .i64).dflt = rowF p.length fun j => if p.idxOf j < 0 then ((p.idxOf j : Nat) : Int) else 0 := by
    rw [Int.toNat_natCast]
    apply List.ext_getElem
    · simp [rowF]
    · intro j h1 h2
      simp [rowF]; rfl
  rw [e0]
  refine ((idx_loop ho hb _ 0 (Nat.le_refl _) (by omega)).post fun rs blk hq => ?_).only ⟨rfl, rfl, ?_, rfl, ?_, rfl, trivial⟩ ⟨rfl, trivial⟩
  · refine QC.row (e := .int .i64) (et := 3) (a := 9) (k := p.length) (xs := idxV p) ?_ ?_ hq.1 (by rw [idxV, rowF_len]) hq.2
    · simp only [ctIdx, nats_map]
    · simp only [ctIdx, nats_map]
  · rw [rowF_len, Int.toNat_natCast]; rfl
  · rw [mapI_len]; rfl
theorem idx_held : Held Try.prog G0 34 ctIdx := Held.run cx0 (fn := Try.f34) rfl rfl ⟨by decide, by decide⟩ fun x hp => idx_run x.1 x.2.1 hp
def C2 : CV := (34, .inl ctIdx) :: C1
theorem cx2 : CxOK Try.prog tt G0 C2 := cx1.cons idx_held (fn := Try.f34) rfl rfl rfl
end Go.Proofs.Ytijeaicbnfiegaa
