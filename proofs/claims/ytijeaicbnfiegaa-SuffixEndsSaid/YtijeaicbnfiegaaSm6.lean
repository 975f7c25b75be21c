/-
  A part of the proof: what a piece of the program gives; conditions: those of each theorem.
-/
import Derived.Test.YtijeaicbnfiegaaSc22
set_option linter.unusedVariables false
namespace Go.Proofs.Ytijeaicbnfiegaa
open Go.Px
variable {l m m' : List Int} {a b c k : Nat}
theorem take_len (h : a ≤ l.length) : (l.take a).length = a := by rw [List.length_take]; omega
theorem putP_len (h1 : a ≤ b) (h2 : b ≤ l.length) (h3 : m.length = b - a) : (putP l a b m).length = l.length := by
  unfold putP
  simp only [List.length_append, List.length_take, List.length_drop]; omega
theorem take_putP (h1 : a ≤ b) (h2 : b ≤ l.length) (h3 : m.length = b - a) : (putP l a b m).take b = l.take a ++ m := by
  unfold putP
  rw [List.take_append_of_le_length (by rw [List.length_append, take_len (by omega)]; omega)]
  exact List.take_of_length_le (by rw [List.length_append, take_len (by omega)]; omega)
theorem drop_putP (h1 : a ≤ b) (h2 : b ≤ l.length) (h3 : m.length = b - a) (h4 : b ≤ c) : (putP l a b m).drop c = l.drop c := by
  unfold putP
  obtain ⟨d, rfl⟩ : ∃ d, c = b + d := ⟨c - b, by omega⟩
  have hT : (l.take a ++ m).length = b := by rw [List.length_append, take_len (by omega)]; omega
  have e : (l.take a ++ m ++ l.drop b).drop b = l.drop b := by
    rw [List.drop_append_of_le_length (by omega), List.drop_of_length_le (l := l.take a ++ m) (by omega), List.nil_append]
  rw [← List.drop_drop, e, List.drop_drop]
theorem seg_putP_out (h1 : a ≤ b) (h2 : b ≤ l.length) (h3 : m.length = b - a) (h4 : b ≤ c) : seg (putP l a b m) c k = seg l c k := by
  unfold seg
  rw [drop_putP h1 h2 h3 h4]
theorem putP_putP (h1 : a ≤ b) (h2 : b ≤ l.length) (h3 : m.length = b - a) : putP (putP l a b m) a b m' = putP l a b m' := by
  have e : (putP l a b m).take a = l.take a := by
    unfold putP
    rw [List.append_assoc, List.take_append_of_le_length (by rw [take_len (by omega)]; omega), List.take_take, Nat.min_self]
  have e2 := drop_putP (c := b) h1 h2 h3 (Nat.le_refl _)
  unfold putP at e e2 ⊢
  rw [e, e2]
theorem putP_next (h1 : a ≤ b) (h2 : b ≤ c) (h4 : c ≤ l.length) (h3 : m.length = b - a) : putP (putP l a b m) b c m' = putP l a c (m ++ m') := by
  have e := take_putP (l := l) h1 (by omega) h3
  have e2 := drop_putP (l := l) (c := c) h1 (by omega) h3 h2
  rw [putP, e, e2, putP, List.append_assoc (l.take a)]
theorem getP (h1 : a ≤ l.length) {j : Nat} (hj : j < m.length) : gt (Sh.int .i64) (putP l a b m) (a + j) = gt (Sh.int .i64) m j := by
  show ((putP l a b m)[a + j]?).getD _ = (m[j]?).getD _
  unfold putP
  rw [List.append_assoc, List.getElem?_append_right (by rw [take_len h1]; omega), take_len h1, Nat.add_sub_cancel_left, List.getElem?_append_left hj]
theorem getA1 {j : Nat} (hj : j < m.length) : gt (Sh.int .i64) (m ++ m') j = gt (Sh.int .i64) m j := by
  show ((m ++ m')[j]?).getD _ = (m[j]?).getD _
  rw [List.getElem?_append_left hj]
theorem getA2 {j : Nat} : gt (Sh.int .i64) (m ++ m') (m.length + j) = gt (Sh.int .i64) m' j := by
  show ((m ++ m')[m.length + j]?).getD _ = (m'[j]?).getD _
  rw [List.getElem?_append_right (by omega), Nat.add_sub_cancel_left]
theorem seg_putP (h1 : a ≤ l.length) (hk : c + k ≤ m.length) : seg (putP l a b m) (a + c) k = seg m c k := by
  have e : (l.take a ++ (m ++ l.drop b)).drop a = m ++ l.drop b := by
    rw [List.drop_append_of_le_length (by rw [take_len h1]; omega), List.drop_of_length_le (l := l.take a) (by rw [take_len h1]; omega), List.nil_append]
  unfold seg putP
  rw [← List.drop_drop, List.append_assoc, e, List.drop_append_of_le_length (by omega), List.take_append_of_le_length (by rw [List.length_drop]; omega)]
theorem seg_all : seg (m ++ m') 0 m.length = m := by
  unfold seg
  rw [List.drop_zero, List.take_append_of_le_length (Nat.le_refl _), List.take_length]
theorem seg_all2 : seg (m ++ m') m.length m'.length = m' := by
  unfold seg
  rw [List.drop_append_of_le_length (Nat.le_refl _), List.drop_length, List.nil_append, List.take_length]
theorem sortF_short {lt : Int → Int → Bool} (f : Nat) (s : List Int) (h : l.length < 2) : sortF lt f s l = (s, l) := by
  cases f with
  | zero => rfl
  | succ f => rw [sortF, if_pos h]
theorem sortF_fuel {lt : Int → Int → Bool} : ∀ (N : Nat) (l s : List Int) (f f' : Nat), l.length ≤ N → l.length ≤ f → l.length ≤ f' → sortF lt f s l = sortF lt f' s l := by
  intro N
  induction N with
  | zero => intro l s f f' h _ _; rw [sortF_short f s (by omega), sortF_short f' s (by omega)]
  | succ N ih =>
    intro l s f f' h h1 h2
    by_cases hl : l.length < 2
    · rw [sortF_short f s hl, sortF_short f' s hl]
    · obtain ⟨f, rfl⟩ : ∃ g, f = g + 1 := ⟨f - 1, by omega⟩
      obtain ⟨f', rfl⟩ : ∃ g, f' = g + 1 := ⟨f' - 1, by omega⟩
      rw [sortF, sortF, if_neg hl, if_neg hl]
      have e1 : sortF lt f s (l.take (l.length / 2)) = sortF lt f' s (l.take (l.length / 2)) := ih _ _ _ _ (by rw [List.length_take]; omega) (by rw [List.length_take]; omega) (by rw [List.length_take]; omega)
      have e2 : ∀ t, sortF lt f t (l.drop (l.length / 2)) = sortF lt f' t (l.drop (l.length / 2)) := fun t => ih _ _ _ _ (by rw [List.length_drop]; omega) (by rw [List.length_drop]; omega) (by rw [List.length_drop]; omega)
      simp only [e1, e2]
theorem take_seg {h : Nat} (hh : h ≤ k) : (seg l a k).take h = seg l a h := by
  unfold seg
  rw [List.take_take, Nat.min_eq_left hh]
theorem drop_seg {h : Nat} : (seg l a k).drop h = seg l (a + h) (k - h) := by
  unfold seg
  rw [List.drop_take, List.drop_drop]
theorem srt_eq {p : List (List Int)} {s : List Int} {lo n : Nat} {A B : List Int × List Int} (h2 : 2 ≤ n) (hl : lo + n ≤ l.length) (hA : srtF p s (seg l lo (n / 2)) = A) (hB : srtF p A.1 (seg l (lo + n / 2) (n - n / 2)) = B) :
    srtF p s (seg l lo n) = if pbB p (gt (Sh.int .i64) B.2 0) (gt (Sh.int .i64) A.2 (n / 2 - 1)) then (setRow B.1 0 A.2, mrg (pbB p) A.2 B.2) else (B.1, A.2 ++ B.2) := by
  have hn : (seg l lo n).length = n := seg_len hl
  have e1 : sortF (pbB p) (n - 1) s (seg l lo (n / 2)) = A := by
    rw [← hA]
    refine sortF_fuel n _ _ _ _ ?_ ?_ ?_ <;> rw [seg_len (by omega)] <;> omega
  have e2 : sortF (pbB p) (n - 1) A.1 (seg l (lo + n / 2) (n - n / 2)) = B := by
    rw [← hB]
    refine sortF_fuel n _ _ _ _ ?_ ?_ ?_ <;> rw [seg_len (by omega)] <;> omega
  unfold srtF
  rw [hn]
  obtain ⟨n', rfl⟩ : ∃ g, n = g + 1 := ⟨n - 1, by omega⟩
  rw [Nat.add_sub_cancel] at e1 e2
  rw [sortF, if_neg (by rw [hn]; omega), hn, take_seg (by omega), drop_seg]
  simp only [e1, e2]
end Go.Proofs.Ytijeaicbnfiegaa
