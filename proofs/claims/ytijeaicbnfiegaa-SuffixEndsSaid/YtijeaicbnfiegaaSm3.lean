/-
  A part of the proof: what a piece of the program gives; conditions: those of each theorem.
-/
import Derived.Test.YtijeaicbnfiegaaSm2
set_option linter.unusedVariables false
namespace Go.Proofs.Ytijeaicbnfiegaa
/-- How two texts compare where they part. -/
theorem lcp_cmp : ∀ {a s : List Int}, lcp a s < s.length → (lcp a s = a.length → lexLt a s = true) ∧ (∀ (h : lcp a s < a.length) (h2 : lcp a s < s.length), a[lcp a s] ≠ s[lcp a s] ∧ lexLt a s = decide (a[lcp a s] < s[lcp a s]))
  | [], [], h => by simp at h
  | [], _ :: _, _ => ⟨fun _ => rfl, fun h => by simp [lcp] at h⟩
  | _ :: _, [], h => by simp at h
  | x :: a, y :: s, h => by
    by_cases e : x = y
    · subst e
      have hl : lcp (x :: a) (x :: s) = lcp a s + 1 := by simp [lcp]
      have hx : lexLt (x :: a) (x :: s) = lexLt a s := by simp [lexLt]
      rw [hl] at h
      obtain ⟨h1, h2⟩ := lcp_cmp (a := a) (s := s) (by simpa using h)
      refine ⟨fun q => by rw [hx]; exact h1 (by rw [hl] at q; simpa using q), fun q q2 => ?_⟩
      rw [hx]
      have q' := q
      rw [hl] at q'
      have := h2 (by simpa using q') (by simpa using h)
      simp only [hl, List.getElem_cons_succ]
      exact this
    · have hl : lcp (x :: a) (y :: s) = 0 := by simp [lcp, e]
      refine ⟨fun q => by rw [hl] at q; simp at q, fun q q2 => ?_⟩
      simp only [hl, List.getElem_cons_zero]
      exact ⟨e, by simp [lexLt, e]⟩
theorem lcp_ultra : ∀ a b c : List Int, min (lcp a b) (lcp b c) ≤ lcp a c
  | [], _, _ => by simp [lcp]
  | _ :: _, [], _ => by simp [lcp]
  | _ :: _, _ :: _, [] => by simp [lcp]
  | a :: l, b :: m, c :: n => by
    simp only [lcp]
    by_cases h : a = b
    · subst h
      by_cases k : a = c
      · subst k
        simp only [if_true]
        have := lcp_ultra l m n
        omega
      · simp [k]
    · simp [h]
section
variable {b s : List Int} {o : List Nat}
/-- The suffix at an index. -/
def sf (b : List Int) (o : List Nat) (k : Nat) : List Int := b.drop (o.getD k 0)
def lc (b s : List Int) (o : List Nat) (k : Nat) : Nat := lcp (sf b o k) s
theorem sf_lt (h : OrdOK b o) {i j : Nat} (hij : i < j) (hj : j < o.length) : lexLt (sf b o i) (sf b o j) = true := by
  have := h.at_lt hij hj
  unfold sf
  rw [getD_at (by omega), getD_at hj]
  exact this
/-- The search of the program. -/
def clo (b s : List Int) (o : List Nat) : Nat → Nat → Nat → Nat → Nat → Nat × Nat
  | 0, _, _, best, n => (best, n)
  | f + 1, low, high, best, n =>
    if low < high then
      let mid := low + (high - low) / 2
      let e := lc b s o mid
      let r := if n < e then (mid, e) else (best, n)
      if e = s.length then r
      else if lexLt (sf b o mid) s then clo b s o f (mid + 1) high r.1 r.2
      else clo b s o f low mid r.1 r.2
    else (best, n)
/-- What is known in the search. -/
structure CloI (b s : List Int) (o : List Nat) (low high best n : Nat) : Prop where
  le : low ≤ high ∧ high ≤ o.length
  lo : ∀ k, k < low → lexLt (sf b o k) s = true
  hi : ∀ k, high ≤ k → k < o.length → lexLt s (sf b o k) = true
  nl : low = 0 ∨ lc b s o (low - 1) ≤ n
  nh : high = o.length ∨ lc b s o high ≤ n
  at' : 0 < n → best < o.length ∧ lc b s o best = n
  z : n = 0 → best = 0
/-- What the search finds. -/
structure CloR (b s : List Int) (o : List Nat) (best n : Nat) : Prop where
  at' : 0 < n → best < o.length ∧ lc b s o best = n
  max : ∀ k, k < o.length → lc b s o k ≤ n
theorem CloI.done (ho : OrdOK b o) {low best n : Nat} (h : CloI b s o low low best n) : CloR b s o best n where
  at' := h.at'
  max k hk := by
    by_cases hl : k < low
    · have h0 : low ≠ 0 := by omega
      rcases h.nl with e | e
      · exact absurd e h0
      · by_cases q : k = low - 1
        · rw [q]; exact e
        · have g1 := sf_lt ho (i := k) (j := low - 1) (by omega) (by have := h.le; omega)
          have g2 := h.lo (low - 1) (by omega)
          have := lcp_min g1 g2
          unfold lc at e ⊢
          rw [this]
          exact Nat.le_trans (Nat.min_le_right _ _) e
    · rcases h.nh with e | e
      · omega
      · by_cases q : k = low
        · rw [q]; exact e
        · have g1 := h.hi low (Nat.le_refl _) (by omega)
          have g2 := sf_lt ho (i := low) (j := k) (by omega) hk
          have := lcp_min g1 g2
          unfold lc at e ⊢
          rw [lcp_comm (sf b o k), this, lcp_comm s]
          exact Nat.le_trans (Nat.min_le_left _ _) e
theorem clo_ok (ho : OrdOK b o) : ∀ (f low high best n : Nat), high - low ≤ f → CloI b s o low high best n → CloR b s o (clo b s o f low high best n).1 (clo b s o f low high best n).2
  | 0, low, high, best, n, hf, h => by
    obtain rfl : high = low := by have := h.le; omega
    exact h.done ho
  | f + 1, low, high, best, n, hf, h => by
    simp only [clo]
    split
    · rename_i hlt
      have hmid : low ≤ low + (high - low) / 2 ∧ low + (high - low) / 2 < high := by omega
      generalize low + (high - low) / 2 = mid at hmid
      have hle := h.le
      -- the better one
      have hr : (0 < (if n < lc b s o mid then (mid, lc b s o mid) else (best, n)).2 → (if n < lc b s o mid then (mid, lc b s o mid) else (best, n)).1 < o.length ∧ lc b s o (if n < lc b s o mid then (mid, lc b s o mid) else (best, n)).1 = (if n < lc b s o mid then (mid, lc b s o mid) else (best, n)).2) ∧
          n ≤ (if n < lc b s o mid then (mid, lc b s o mid) else (best, n)).2 ∧ lc b s o mid ≤ (if n < lc b s o mid then (mid, lc b s o mid) else (best, n)).2 ∧ ((if n < lc b s o mid then (mid, lc b s o mid) else (best, n)).2 = 0 → (if n < lc b s o mid then (mid, lc b s o mid) else (best, n)).1 = 0) := by
        split
        · rename_i q
          exact ⟨fun _ => ⟨by omega, rfl⟩, by simp only; omega, Nat.le_refl _, fun q2 => by simp only at q2; omega⟩
        · rename_i q
          exact ⟨h.at', Nat.le_refl _, by simp only; omega, h.z⟩
      generalize (if n < lc b s o mid then (mid, lc b s o mid) else (best, n)) = r at hr
      obtain ⟨r1, r2, r3, r4⟩ := hr
      split
      · rename_i hs
        refine ⟨r1, fun k _ => Nat.le_trans ?_ r3⟩
        rw [hs]
        unfold lc
        rw [lcp_comm]
        exact lcp_le _ _
      · rename_i hs
        have hll : lc b s o mid < s.length := by
          have : lc b s o mid ≤ s.length := by unfold lc; rw [lcp_comm]; exact lcp_le _ _
          omega
        split
        · rename_i hx
          refine clo_ok ho f (mid + 1) high r.1 r.2 (by omega) ⟨by omega, fun k hk => ?_, h.hi, .inr (by rw [Nat.add_sub_cancel]; exact r3), h.nh.imp_right (fun q => Nat.le_trans q r2), r1, r4⟩
          by_cases q : k = mid
          · rw [q]; exact hx
          · exact lexLt_trans (sf_lt ho (i := k) (j := mid) (by omega) (by omega)) hx
        · rename_i hx
          have hsm : lexLt s (sf b o mid) = true := by
            rcases lexLt_tri (sf b o mid) s with q | q | q
            · exfalso
              unfold lc at hll
              rw [q, lcp_self] at hll
              omega
            · exact absurd q hx
            · exact q
          refine clo_ok ho f low mid r.1 r.2 (by omega) ⟨by omega, h.lo, fun k hk hkl => ?_, h.nl.imp_right (fun q => Nat.le_trans q r2), .inr r3, r1, r4⟩
          by_cases q : k = mid
          · rw [q]; exact hsm
          · exact lexLt_trans hsm (sf_lt ho (i := mid) (j := k) (by omega) hkl)
    · have hle := h.le
      obtain rfl : high = low := by omega
      exact h.done ho
/-- Once the most is known, those that have it stand together. -/
theorem stands_between (ho : OrdOK b o) {best n : Nat} (hb : best < o.length) (hn : lc b s o best = n) {k l : Nat} (hk : n ≤ lc b s o k) : (k < l → l < best → n ≤ lc b s o l) ∧ (best < l → l < k → k < o.length → n ≤ lc b s o l) := by
  have hkb : n ≤ lcp (sf b o k) (sf b o best) := by
    have := lcp_ultra (sf b o k) s (sf b o best)
    rw [lcp_comm s] at this
    unfold lc at hk hn
    omega
  constructor
  · intro h1 h2
    have := lcp_min (sf_lt ho h1 (by omega)) (sf_lt ho h2 hb)
    have u := lcp_ultra (sf b o l) (sf b o best) s
    unfold lc at hn ⊢
    omega
  · intro h1 h2 h3
    have := lcp_min (sf_lt ho h1 (by omega)) (sf_lt ho h2 h3)
    rw [lcp_comm] at hkb
    have u := lcp_ultra (sf b o l) (sf b o best) s
    rw [lcp_comm (sf b o l)] at u
    unfold lc at hn ⊢
    omega
end
end Go.Proofs.Ytijeaicbnfiegaa
