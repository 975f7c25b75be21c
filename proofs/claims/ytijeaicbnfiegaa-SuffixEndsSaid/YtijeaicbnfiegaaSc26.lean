/-
  A part of the proof: what a piece of the program gives; conditions: those of each theorem.
-/
import Derived.Test.YtijeaicbnfiegaaSv26
import Derived.Test.YtijeaicbnfiegaaSc12
set_option linter.unusedVariables false
namespace Go.Proofs.Ytijeaicbnfiegaa
open Go.Px Go.Ax
theorem map_set {α : Type} {n : Nat} {f g : Nat → α} {i : Nat} {v : α} (hi : g i = v) (h : ∀ j, j < n → j ≠ i → f j = g j) : ((List.range n).map f).set i v = (List.range n).map g := by
  apply List.ext_getElem
  · simp
  · intro j h1 h2
    simp only [List.length_map, List.length_range] at h2
    rw [List.getElem_set]
    simp only [List.getElem_map, List.getElem_range]
    by_cases e : i = j
    · subst e; rw [if_pos rfl, hi]
    · rw [if_neg e]; exact h j h2 (Ne.symm e)
theorem gt_map {e : Sh} {n : Nat} {f : Nat → e.D} {i : Nat} (h : i < n) : gt e ((List.range n).map f) i = f i := by
  have q := gt_at (σ := e) (l := (List.range n).map f) (i := i) (by simp [h])
  have : ((List.range n).map f)[i]? = some (f i) := by simp [h]
  rw [this] at q
  exact (Option.some.inj q).symm
def preIsP (l : List Int) : Prop := l.length < 1048576 ∧ ∃ o : List Nat, o.Perm (List.range l.length) ∧ l = mapI o
def ctIsP : Ctr := ⟨[slI], fun x => preIsP x.1, fun _ => [.bool true], fun _ => []⟩
abbrev pU (o : List Nat) (i : Nat) : List Bool := (List.range o.length).map fun j => decide (o.idxOf j < i)
theorem perm_loop {o : List Nat} (ho : o.Perm (List.range o.length)) (hn : o.length < 1048576) : ∀ (m i : Nat), o.length - i ≤ m → i ≤ o.length →
    GD 19 Try.f19 (fun rs _ => rs = [.bool true]) (hd Try.f19 0) ⟨[(0, .sl (.int .i64) (mapI o)), (3, .win true .bool 7 0 (pU o i).length), (4, .int .i64 (i : Int))], [(7, .row 4 .bool (pU o i))]⟩ := by
  have hnd : o.Nodup := ho.nodup_iff.2 List.nodup_range
  have hlt : ∀ {j : Nat} (h : j < o.length), o[j] < o.length := fun h => by simpa using ho.mem_iff.1 (List.getElem_mem h)
  intro m
  induction m with
  | zero =>
    intro i hm h1
    refine sy_goK cx0 (vc_permL _ _ _ _ _) (bc_of (fun h => ?_) (fun h => ?_))
    · have h := of_decide_eq_true h; rw [mapI_len] at h; omega
    · rfl
  | succ m ih =>
    intro i hm h1
    by_cases hi : i < o.length
    · refine sy_goK cx0 (vc_permL _ _ _ _ _) ?_
      have hx := hlt hi
      have g : gt (Sh.int .i64) (mapI o) (i : Int).toNat = ((o[i] : Nat) : Int) := gt_mapI hi
      have hidx : o.idxOf o[i] = i := nodup_at hnd (ixlt ho hx) hi (ixat ho hx)
      have hul : (pU o i).length = o.length := by simp
      have gu : gt Sh.bool (pU o i) (0 + o[i]) = false := by
        rw [Nat.zero_add]
        have := gt_map (e := .bool) (f := fun j => decide (o.idxOf j < i)) hx
        rw [this, hidx]
        exact decide_eq_false (Nat.lt_irrefl _)
      have e : (pU o i).set (0 + o[i]) true = pU o (i + 1) := by
        rw [Nat.zero_add]
        refine map_set (by rw [hidx]; exact decide_eq_true (by omega)) fun j hj hne => ?_
        have : o.idxOf j ≠ i := by
          intro q
          have := ixat ho hj
          simp only [q] at this
          exact hne this.symm
        by_cases q : o.idxOf j < i
        · rw [decide_eq_true q, decide_eq_true (by omega)]
        · rw [decide_eq_false q, decide_eq_false (by omega)]
      have w : IntKind.i64.wrap ((i : Int) + 1) = ((i + 1 : Nat) : Int) := by rw [IntWalk.i64_in _ (by omega)]; omega
      rw [g, Int.toNat_natCast, gu, w, mapI_len, hul, decide_eq_true (show (i : Int) < (o.length : Int) by omega), bc_t, decide_eq_false (show ¬ (((o[i] : Nat) : Int) < 0) by omega), bc_f, decide_eq_false (show ¬ ((o.length : Int) ≤ ((o[i] : Nat) : Int)) by omega)]
      have a1 : (0 : Int) ≤ ((o[i] : Nat) : Int) := by omega
      have a2 : ((o[i] : Nat) : Int) < (o.length : Int) := by omega
      have a3 : 0 + o[i] < o.length := by omega
      refine ⟨by omega, by omega, by omega, by omega, ?_⟩
      rw [cond_false, bc_f]
      refine ⟨by omega, by omega, a1, a2, a3, ?_⟩
      rw [bc_f, e]
      refine ⟨by omega, by omega, a1, a2, a3, ?_⟩
      refine (ih (i + 1) (by omega) (by omega)).only ⟨rfl, ?_, rfl, trivial⟩ ⟨rfl, trivial⟩
      rw [show (pU o (i + 1)).length = o.length by simp]; rfl
    · exact ih i (by omega) h1
theorem perm_run (l : List Int) (hp : preIsP l) : sy tt G0 [] Try.f19.ntmps Try.f19.results.toList (QC ctIsP (l, ())) (Px.Good Try.prog tt G0 19 Try.f19.ntmps Try.f19.results.toList (QC ctIsP (l, ()))) 1000 [.code (bodyOf Try.f19)] (entry [slI] (l, ())) := by
  obtain ⟨hn, o, ho, rfl⟩ := hp
  rw [mapI_len] at hn ho
  refine (vc_perm _ _ _).mpr ?_
  rw [mapI_len]
  refine ⟨by omega, Int.le_refl _, by omega, by omega, ?_⟩
  rw [Int.toNat_natCast]
  have e0 : List.replicate o.length Sh.bool.dflt = pU o 0 := by
    apply List.ext_getElem
    · simp
    · intro j h1 h2
      simp; rfl
  rw [e0]
  refine ((perm_loop ho hn _ 0 (Nat.le_refl _) (Nat.zero_le _)).post fun rs blk hq => QC.flat hq.symm rfl (by rw [hq]; rfl)).only ⟨rfl, ?_, rfl, trivial⟩ ⟨rfl, trivial⟩
  rw [show (pU o 0).length = o.length by simp]; rfl
theorem perm_held : Held Try.prog G0 19 ctIsP := Held.run cx0 (fn := Try.f19) rfl rfl ⟨by decide, by decide⟩ fun x hp => perm_run x.1 hp
def D7 : CV := (19, .inl ctIsP) :: (14, .inl ctSo) :: C10
theorem cxd7 : CxOK Try.prog tt G0 D7 := (cx10.cons so_held (fn := Try.f14) rfl rfl rfl).cons perm_held (fn := Try.f19) rfl rfl rfl
end Go.Proofs.Ytijeaicbnfiegaa
