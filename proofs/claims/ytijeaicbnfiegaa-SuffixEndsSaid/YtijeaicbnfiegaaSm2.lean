/-
  A part of the proof: what a piece of the program gives; conditions: those of each theorem.
-/
import Derived.Test.YtijeaicbnfiegaaSm1
set_option linter.unusedVariables false
namespace Go.Proofs.Ytijeaicbnfiegaa
/-- What the suffix at an index of the order has in common with the one before. -/
def adjN (b : List Int) (o : List Nat) (k : Nat) : Nat := if k = 0 then 0 else lcp (b.drop (o.getD k 0)) (b.drop (o.getD (k - 1) 0))
theorem getD_at {o : List Nat} {k : Nat} (h : k < o.length) : o.getD k 0 = o[k] := by simp [h]
theorem adjN_le (b : List Int) (o : List Nat) (k : Nat) : adjN b o k ≤ b.length := by
  unfold adjN
  split
  · exact Nat.zero_le _
  · refine Nat.le_trans (lcp_le _ _) ?_
    rw [List.length_drop]; omega
section
variable {b : List Int} {o : List Nat}
theorem rank_lt (h : OrdOK b o) {i : Nat} (hi : i < b.length) : o.idxOf i < o.length := List.idxOf_lt_length_of_mem (h.mem hi)
theorem rank_at (_h : OrdOK b o) {i : Nat} (hi : o.idxOf i < o.length) : o[o.idxOf i] = i := List.getElem_idxOf hi
theorem kasai (h : OrdOK b o) {i : Nat} (hi : i + 1 < b.length) : adjN b o (o.idxOf i) - 1 ≤ adjN b o (o.idxOf (i + 1)) := by
  have r0 := rank_lt h (i := i) (by omega)
  have r1 := rank_lt h hi
  have e0 := rank_at h r0
  have e1 := rank_at h r1
  by_cases hh : adjN b o (o.idxOf i) ≤ 1
  · omega
  have hk : o.idxOf i ≠ 0 := by
    intro e
    rw [e] at hh
    simp [adjN] at hh
  have hkl : o.idxOf i - 1 < o.length := by omega
  have hj : o[o.idxOf i - 1] < b.length := h.lt (List.getElem_mem hkl)
  have hs : sl b o[o.idxOf i - 1] i = true := by
    have := h.at_lt (i := o.idxOf i - 1) (j := o.idxOf i) (by omega) r0
    rw [e0] at this; exact this
  have ha : adjN b o (o.idxOf i) = lcp (b.drop i) (b.drop o[o.idxOf i - 1]) := by
    unfold adjN
    rw [if_neg hk, getD_at r0, getD_at hkl, e0]
  generalize o[o.idxOf i - 1] = j at hj hs ha
  rw [ha] at hh ⊢
  have di : b.drop i = b[i] :: b.drop (i + 1) := List.drop_eq_getElem_cons (by omega)
  have dj : b.drop j = b[j] :: b.drop (j + 1) := List.drop_eq_getElem_cons hj
  unfold sl at hs
  rw [di, dj] at hh ⊢
  rw [di, dj] at hs
  simp only [lcp] at hh ⊢
  simp only [lexLt] at hs
  split at hh
  · rename_i e
    rw [if_pos e.symm] at hs
    rw [if_pos e, Nat.add_sub_cancel]
    have hj1 : j + 1 < b.length := by
      apply Classical.byContradiction
      intro hn
      rw [List.drop_eq_nil_of_le (show b.length ≤ j + 1 by omega), lcp_nil] at hh
      omega
    have r2 := rank_lt h hj1
    have e2 := rank_at h r2
    have hlt : o.idxOf (j + 1) < o.idxOf (i + 1) := by
      rcases Nat.lt_trichotomy (o.idxOf (j + 1)) (o.idxOf (i + 1)) with q | q | q
      · exact q
      · exfalso
        have : j + 1 = i + 1 := by rw [← e1, ← e2]; simp only [q]
        rw [this, lexLt_irrefl] at hs; cases hs
      · exfalso
        have := h.at_lt q r2
        rw [e1, e2] at this
        have := lexLt_asymm this
        rw [hs] at this; cases this
    have hpl : o.idxOf (i + 1) - 1 < o.length := by omega
    have hb : adjN b o (o.idxOf (i + 1)) = lcp (b.drop (i + 1)) (b.drop o[o.idxOf (i + 1) - 1]) := by
      unfold adjN
      rw [if_neg (by omega), getD_at r1, getD_at hpl, e1]
    rw [hb]
    by_cases hq : o.idxOf (j + 1) = o.idxOf (i + 1) - 1
    · have : o[o.idxOf (i + 1) - 1] = j + 1 := by rw [← e2]; simp only [hq]
      rw [this]; exact Nat.le_refl _
    · have g1 := h.at_lt (i := o.idxOf (j + 1)) (j := o.idxOf (i + 1) - 1) (by omega) hpl
      have g2 := h.at_lt (i := o.idxOf (i + 1) - 1) (j := o.idxOf (i + 1)) (by omega) r1
      rw [e2] at g1
      rw [e1] at g2
      have := lcp_min g1 g2
      rw [lcp_comm (b.drop (i + 1)) (b.drop (j + 1)), this, lcp_comm (b.drop (i + 1))]
      exact Nat.min_le_right _ _
  · omega
/-- The least of the neighbors' numbers, from behind an index on. -/
def minN (b : List Int) (o : List Nat) (i : Nat) : Nat → Nat
  | 0 => b.length
  | m + 1 => min (minN b o i m) (adjN b o (i + m + 1))
theorem minN_eq (h : OrdOK b o) {i : Nat} : ∀ (m : Nat) (hm : i + m + 1 < o.length), lcp (b.drop o[i]) (b.drop o[i + m + 1]) = minN b o i (m + 1)
  | 0, hm => by
    simp only [minN]
    have := adjN_le b o (i + 0 + 1)
    rw [Nat.min_eq_right this]
    unfold adjN
    rw [if_neg (by omega), getD_at hm, getD_at (by omega), lcp_comm]
    rfl
  | m + 1, hm => by
    have ih := minN_eq h (i := i) m (by omega)
    rw [minN, ← ih]
    have g1 := h.at_lt (i := i) (j := i + m + 1) (by omega) (by omega)
    have g2 := h.at_lt (i := i + m + 1) (j := i + (m + 1) + 1) (by omega) hm
    rw [lcp_min g1 g2]
    congr 1
    unfold adjN
    rw [if_neg (by omega), getD_at hm, getD_at (by omega), lcp_comm]
    rfl
end
end Go.Proofs.Ytijeaicbnfiegaa
