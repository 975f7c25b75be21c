/-
  A part of the proof: what a piece of the program gives; conditions: those of each theorem.
-/
import Derived.Test.YtijeaicbnfiegaaSm3
set_option linter.unusedVariables false
namespace Go.Proofs.Ytijeaicbnfiegaa
/-- The longest beginning that stands somewhere, and its least place. -/
def lonF (b s : List Int) : Nat × Nat := (List.range b.length).foldl (fun r i => if r.2 < lcp (b.drop i) s then (i, lcp (b.drop i) s) else r) (0, 0)
structure IsLon (b s : List Int) (m : Nat) (r : Nat × Nat) : Prop where
  max : ∀ i, i < m → lcp (b.drop i) s ≤ r.2
  z : r.2 = 0 → r.1 = 0
  at' : 0 < r.2 → r.1 < m ∧ lcp (b.drop r.1) s = r.2 ∧ ∀ i, i < r.1 → lcp (b.drop i) s < r.2
theorem lonF_ok (b s : List Int) : IsLon b s b.length (lonF b s) := by
  unfold lonF
  generalize b.length = m
  induction m with
  | zero => exact ⟨fun i h => by omega, fun _ => rfl, fun h => by simp at h⟩
  | succ m ih =>
    rw [List.range_succ, List.foldl_append, List.foldl_cons, List.foldl_nil]
    generalize (List.range m).foldl _ (0, 0) = r at ih
    obtain ⟨h1, h2, h3⟩ := ih
    split
    · rename_i q
      refine ⟨fun i hi => ?_, fun e => by simp only at e; omega, fun _ => ⟨by simp, rfl, fun i hi => ?_⟩⟩
      · by_cases e : i = m
        · subst e; exact Nat.le_refl _
        · have := h1 i (by omega); simp only; omega
      · have := h1 i hi; simp only; omega
    · rename_i q
      refine ⟨fun i hi => ?_, h2, fun h => ?_⟩
      · by_cases e : i = m
        · subst e; omega
        · exact h1 i (by omega)
      · obtain ⟨a, c⟩ := h3 h
        exact ⟨by omega, c⟩
theorem IsLon.unique {b s : List Int} {m : Nat} {r q : Nat × Nat} (h : IsLon b s m r) (k : IsLon b s m q) : r = q := by
  have e2 : r.2 = q.2 := by
    apply Nat.le_antisymm
    · by_cases h0 : r.2 = 0
      · omega
      · obtain ⟨a, c, _⟩ := h.at' (by omega)
        rw [← c]; exact k.max _ a
    · by_cases h0 : q.2 = 0
      · omega
      · obtain ⟨a, c, _⟩ := k.at' (by omega)
        rw [← c]; exact h.max _ a
  have e1 : r.1 = q.1 := by
    by_cases h0 : r.2 = 0
    · rw [h.z h0, k.z (by omega)]
    · obtain ⟨a, c, d⟩ := h.at' (by omega)
      obtain ⟨a', c', d'⟩ := k.at' (by omega)
      rcases Nat.lt_trichotomy r.1 q.1 with x | x | x
      · have := d' _ x; omega
      · exact x
      · have := d _ x; omega
  exact Prod.ext e1 e2
theorem lcp_take : ∀ (n : Nat) (a s : List Int), lcp a (s.take n) = min n (lcp a s)
  | 0, a, s => by simp [lcp_nil]
  | n + 1, [], s => by cases s <;> simp [lcp]
  | n + 1, _ :: _, [] => by simp [lcp]
  | n + 1, x :: a, y :: s => by
    simp only [List.take_succ_cons, lcp]
    split
    · rw [lcp_take n a s]; omega
    · simp
end Go.Proofs.Ytijeaicbnfiegaa
