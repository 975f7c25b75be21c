/-
  A part of the proof: what a piece of the program gives; conditions: those of each theorem.
-/
import Derived.Test.YtijeaicbnfiegaaSm1
set_option linter.unusedVariables false
namespace Go.Proofs.Ytijeaicbnfiegaa
open Go.Px
/-- Two sorted lists, put together; the first one goes first where neither is before. -/
def mrg (lt : Int → Int → Bool) : List Int → List Int → List Int
  | [], m => m
  | l, [] => l
  | x :: l, y :: m => if lt y x then y :: mrg lt (x :: l) m else x :: mrg lt l (y :: m)
  termination_by l m => l.length + m.length
theorem mrg_nil (lt : Int → Int → Bool) (m : List Int) : mrg lt [] m = m := by unfold mrg; rfl
theorem mrg_nil2 (lt : Int → Int → Bool) (l : List Int) : mrg lt l [] = l := by
  cases l with
  | nil => exact mrg_nil lt []
  | cons x l => unfold mrg; rfl
theorem mrg_cons (lt : Int → Int → Bool) (x y : Int) (l m : List Int) : mrg lt (x :: l) (y :: m) = if lt y x then y :: mrg lt (x :: l) m else x :: mrg lt l (y :: m) := by
  rw [mrg]
theorem mrg_perm (lt : Int → Int → Bool) : ∀ (n : Nat) (l m : List Int), l.length + m.length ≤ n → (mrg lt l m).Perm (l ++ m) := by
  intro n
  induction n with
  | zero =>
    intro l m h
    rw [List.eq_nil_of_length_eq_zero (show l.length = 0 by omega), List.eq_nil_of_length_eq_zero (show m.length = 0 by omega), mrg_nil]
    exact .refl _
  | succ n ih =>
    intro l m h
    cases l with
    | nil => rw [mrg_nil]; exact .refl _
    | cons x l =>
      cases m with
      | nil => rw [mrg_nil2, List.append_nil]
      | cons y m =>
        simp only [List.length_cons] at h
        rw [mrg_cons]
        split
        · refine ((ih (x :: l) m (by simp only [List.length_cons]; omega)).cons y).trans ?_
          exact List.perm_middle.symm
        · exact (ih l (y :: m) (by simp only [List.length_cons]; omega)).cons x
theorem mrg_len (lt : Int → Int → Bool) (l m : List Int) : (mrg lt l m).length = l.length + m.length := by
  rw [(mrg_perm lt _ l m (Nat.le_refl _)).length_eq, List.length_append]
/-- In order: none is before one that stands before it. -/
def Srt (lt : Int → Int → Bool) (l : List Int) : Prop := l.Pairwise fun x y => lt y x = false
/-- An order by ranks. -/
structure WO (lt : Int → Int → Bool) : Prop where
  asym : ∀ x y, lt x y = true → lt y x = false
  tr : ∀ x y z, lt x y = false → lt y z = false → lt x z = false
theorem mrg_srt {lt : Int → Int → Bool} (h : WO lt) : ∀ (n : Nat) (l m : List Int), l.length + m.length ≤ n → Srt lt l → Srt lt m → Srt lt (mrg lt l m) := by
  intro n
  induction n with
  | zero =>
    intro l m hn hl hm
    rw [List.eq_nil_of_length_eq_zero (show l.length = 0 by omega), mrg_nil]
    exact hm
  | succ n ih =>
    intro l m hn hl hm
    cases l with
    | nil => rw [mrg_nil]; exact hm
    | cons x l =>
      cases m with
      | nil => rw [mrg_nil2]; exact hl
      | cons y m =>
        simp only [List.length_cons] at hn
        have hl' := List.pairwise_cons.1 hl
        have hm' := List.pairwise_cons.1 hm
        rw [mrg_cons]
        split
        · rename_i hyx
          refine List.pairwise_cons.2 ⟨?_, ih _ _ (by simp only [List.length_cons]; omega) hl hm'.2⟩
          intro z hz
          have hz := (mrg_perm lt _ (x :: l) m (Nat.le_refl _)).mem_iff.1 hz
          rw [List.cons_append, List.mem_cons, List.mem_append] at hz
          rcases hz with rfl | hz | hz
          · exact h.asym _ _ hyx
          · exact h.tr _ _ _ (hl'.1 z hz) (h.asym _ _ hyx)
          · exact hm'.1 z hz
        · rename_i hyx
          have hyx : lt y x = false := by simpa using hyx
          refine List.pairwise_cons.2 ⟨?_, ih _ _ (by simp only [List.length_cons]; omega) hl'.2 hm⟩
          intro z hz
          have hz := (mrg_perm lt _ l (y :: m) (Nat.le_refl _)).mem_iff.1 hz
          rw [List.mem_append, List.mem_cons] at hz
          rcases hz with hz | rfl | hz
          · exact hl'.1 z hz
          · exact hyx
          · exact h.tr _ _ _ (hm'.1 z hz) hyx
/-- What sortWith leaves in the spare list and in the list. -/
def sortF (lt : Int → Int → Bool) : Nat → List Int → List Int → List Int × List Int
  | 0, s, l => (s, l)
  | f + 1, s, l => if l.length < 2 then (s, l) else
    let r1 := sortF lt f s (l.take (l.length / 2))
    let r2 := sortF lt f r1.1 (l.drop (l.length / 2))
    if lt (gt (Sh.int .i64) r2.2 0) (gt (Sh.int .i64) r1.2 (l.length / 2 - 1)) then (setRow r2.1 0 r1.2, mrg lt r1.2 r2.2) else (r2.1, r1.2 ++ r2.2)
theorem sortF_perm (lt : Int → Int → Bool) : ∀ (f : Nat) (s l : List Int), (sortF lt f s l).2.Perm l := by
  intro f
  induction f with
  | zero => intro s l; exact .refl _
  | succ f ih =>
    intro s l
    rw [sortF]
    split
    · exact .refl _
    · have h1 := ih s (l.take (l.length / 2))
      have h2 := ih (sortF lt f s (l.take (l.length / 2))).1 (l.drop (l.length / 2))
      have h3 := h1.append h2
      rw [List.take_append_drop] at h3
      simp only
      split
      · exact (mrg_perm lt _ _ _ (Nat.le_refl _)).trans h3
      · exact h3
theorem sortF_len (lt : Int → Int → Bool) (f : Nat) (s l : List Int) : (sortF lt f s l).2.length = l.length := (sortF_perm lt f s l).length_eq
theorem setRow0_len {s a : List Int} (h : a.length ≤ s.length) : (setRow s 0 a).length = s.length := by
  unfold setRow
  simp only [List.take_zero, List.nil_append, Nat.zero_add, List.length_append, List.length_drop]
  omega
theorem sortF_spare (lt : Int → Int → Bool) : ∀ (f : Nat) (s l : List Int), l.length / 2 ≤ s.length → (sortF lt f s l).1.length = s.length := by
  intro f
  induction f with
  | zero => intro s l _; rfl
  | succ f ih =>
    intro s l hs
    rw [sortF]
    split
    · rfl
    · have h1 := ih s (l.take (l.length / 2)) (by rw [List.length_take]; omega)
      have h2 := ih (sortF lt f s (l.take (l.length / 2))).1 (l.drop (l.length / 2)) (by rw [h1, List.length_drop]; omega)
      simp only
      split
      · rw [setRow0_len (by rw [h2, h1, sortF_len, List.length_take]; omega), h2, h1]
      · rw [h2, h1]
theorem srt_app {lt : Int → Int → Bool} (h : WO lt) {a b : List Int} (ha : Srt lt a) (hb : Srt lt b) (ha0 : 0 < a.length) (hb0 : 0 < b.length) (hx : lt (gt (Sh.int .i64) b 0) (gt (Sh.int .i64) a (a.length - 1)) = false) : Srt lt (a ++ b) := by
  rw [gt_eq hb0, gt_eq (show a.length - 1 < a.length by omega)] at hx
  have ha' := List.pairwise_iff_getElem.1 ha
  have hb' := List.pairwise_iff_getElem.1 hb
  refine List.pairwise_append.2 ⟨ha, hb, ?_⟩
  intro x hxa y hyb
  obtain ⟨i, hi, rfl⟩ := List.getElem_of_mem hxa
  obtain ⟨j, hj, rfl⟩ := List.getElem_of_mem hyb
  have irr : ∀ z, lt z z = false := fun z => by
    cases e : lt z z with
    | false => rfl
    | true => have := h.asym _ _ e; rw [e] at this; cases this
  have e1 : lt a[a.length - 1] a[i] = false := by
    by_cases hh : i = a.length - 1
    · subst hh; exact irr _
    · exact ha' i (a.length - 1) hi (by omega) (by omega)
  have e2 : lt b[j] b[0] = false := by
    by_cases hh : j = 0
    · subst hh; exact irr _
    · exact hb' 0 j hb0 hj (by omega)
  exact h.tr _ _ _ e2 (h.tr _ _ _ hx e1)
theorem sortF_srt {lt : Int → Int → Bool} (h : WO lt) : ∀ (f : Nat) (s l : List Int), l.length ≤ f → Srt lt (sortF lt f s l).2 := by
  intro f
  induction f with
  | zero =>
    intro s l hl
    rw [List.eq_nil_of_length_eq_zero (show l.length = 0 by omega)]
    exact List.Pairwise.nil
  | succ f ih =>
    intro s l hl
    rw [sortF]
    split
    · rename_i h2
      match l, h2 with
      | [], _ => exact List.Pairwise.nil
      | [x], _ => exact List.pairwise_singleton _ _
      | _ :: _ :: _, h2 => simp at h2; omega
    · rename_i h2
      have h1 := ih s (l.take (l.length / 2)) (by rw [List.length_take]; omega)
      have h3 := ih (sortF lt f s (l.take (l.length / 2))).1 (l.drop (l.length / 2)) (by rw [List.length_drop]; omega)
      simp only
      split
      · exact mrg_srt h _ _ _ (Nat.le_refl _) h1 h3
      · rename_i hc
        refine srt_app h h1 h3 (by rw [sortF_len, List.length_take]; omega) (by rw [sortF_len, List.length_drop]; omega) ?_
        have e : (sortF lt f s (List.take (l.length / 2) l)).2.length - 1 = l.length / 2 - 1 := by rw [sortF_len, List.length_take]; omega
        rw [e]
        simpa using hc
end Go.Proofs.Ytijeaicbnfiegaa
