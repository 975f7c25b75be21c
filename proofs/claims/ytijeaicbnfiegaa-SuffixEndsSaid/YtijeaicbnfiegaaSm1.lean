/-
  A part of the proof: what a piece of the program gives; conditions: those of each theorem.
-/
import Derived.Test.YtijeaicbnfiegaaSc1
set_option linter.unusedVariables false
namespace Go.Proofs.Ytijeaicbnfiegaa
theorem lexLt_irrefl : ∀ a : List Int, lexLt a a = false
  | [] => rfl
  | a :: l => by simp [lexLt, lexLt_irrefl l]
theorem lexLt_trans : ∀ {a b c : List Int}, lexLt a b = true → lexLt b c = true → lexLt a c = true
  | _, [], _, h, _ => by simp [lexLt] at h
  | _, _ :: _, [], _, h => by simp [lexLt] at h
  | [], _ :: _, _ :: _, _, _ => rfl
  | a :: l, b :: m, c :: n, h, k => by
    simp only [lexLt] at h k ⊢
    split at h
    · rename_i e; subst e
      split at k
      · rename_i e; subst e
        rw [if_pos rfl]; exact lexLt_trans h k
      · rename_i e; rw [if_neg e]; exact k
    · rename_i e
      have h := of_decide_eq_true h
      split at k
      · rename_i e2; subst e2; rw [if_neg e]; exact decide_eq_true h
      · have k := of_decide_eq_true k
        rw [if_neg (by omega)]; exact decide_eq_true (by omega)
theorem lexLt_tri : ∀ a b : List Int, a = b ∨ lexLt a b = true ∨ lexLt b a = true
  | [], [] => .inl rfl
  | [], _ :: _ => .inr (.inl rfl)
  | _ :: _, [] => .inr (.inr rfl)
  | a :: l, b :: m => by
    by_cases h : a = b
    · subst h
      rcases lexLt_tri l m with e | e | e
      · exact .inl (by rw [e])
      · exact .inr (.inl (by simp [lexLt, e]))
      · exact .inr (.inr (by simp [lexLt, e]))
    · rcases Int.lt_or_gt_of_ne h with e | e
      · exact .inr (.inl (by simp [lexLt, h, e]))
      · exact .inr (.inr (by simp [lexLt, Ne.symm h, e]))
theorem lexLt_asymm {a b : List Int} (h : lexLt a b = true) : lexLt b a = false := by
  cases e : lexLt b a with
  | false => rfl
  | true => have := lexLt_trans h e; rw [lexLt_irrefl] at this; cases this
theorem lcp_comm : ∀ a b : List Int, lcp a b = lcp b a
  | [], [] => rfl
  | [], _ :: _ => rfl
  | _ :: _, [] => rfl
  | a :: l, b :: m => by
    simp only [lcp]
    by_cases h : a = b
    · subst h; simp [lcp_comm l m]
    · rw [if_neg h, if_neg (Ne.symm h)]
theorem lcp_self : ∀ a : List Int, lcp a a = a.length
  | [] => rfl
  | a :: l => by simp [lcp, lcp_self l]
theorem lcp_le : ∀ a b : List Int, lcp a b ≤ a.length
  | [], _ => Nat.zero_le _
  | _ :: _, [] => Nat.zero_le _
  | a :: l, b :: m => by
    simp only [lcp]
    split
    · have := lcp_le l m; simp; exact this
    · exact Nat.zero_le _
/-- Between two texts in order, what they have in common is the least of what neighbors have. -/
theorem lcp_min : ∀ {a b c : List Int}, lexLt a b = true → lexLt b c = true → lcp a c = min (lcp a b) (lcp b c)
  | _, [], _, h, _ => by simp [lexLt] at h
  | _, _ :: _, [], _, h => by simp [lexLt] at h
  | [], _ :: _, _ :: _, _, _ => by simp [lcp]
  | a :: l, b :: m, c :: n, h, k => by
    simp only [lexLt] at h k
    simp only [lcp]
    split at h
    · rename_i e; subst e
      split at k
      · rename_i e; subst e
        simp only [if_true]
        rw [lcp_min h k]; omega
      · rename_i e; simp [e]
    · rename_i e
      have h := of_decide_eq_true h
      split at k
      · rename_i e2; subst e2; simp [e]
      · rename_i e2
        have k := of_decide_eq_true k
        rw [if_neg (by omega), if_neg e, if_neg e2]; rfl
theorem drop_inj {b : List Int} {i j : Nat} (hi : i < b.length) (hj : j < b.length) (h : b.drop i = b.drop j) : i = j := by
  have := congrArg List.length h
  simp only [List.length_drop] at this
  omega
/-- Suffixes, by their places. -/
def sl (b : List Int) (i j : Nat) : Bool := lexLt (b.drop i) (b.drop j)
theorem sl_tri {b : List Int} {i j : Nat} (hi : i < b.length) (hj : j < b.length) : i = j ∨ sl b i j = true ∨ sl b j i = true := by
  rcases lexLt_tri (b.drop i) (b.drop j) with h | h | h
  · exact .inl (drop_inj hi hj h)
  · exact .inr (.inl h)
  · exact .inr (.inr h)
/-- An order of all suffixes. -/
structure OrdOK (b : List Int) (o : List Nat) : Prop where
  perm : o.Perm (List.range b.length)
  sorted : o.Pairwise fun i j => sl b i j = true
def insN (b : List Int) (l : List Nat) (i : Nat) : List Nat := l.takeWhile (fun k => sl b k i) ++ i :: l.dropWhile (fun k => sl b k i)
def ordN (b : List Int) (n : Nat) : List Nat := (List.range n).foldl (insN b) []
theorem ordN_succ (b : List Int) (n : Nat) : ordN b (n + 1) = insN b (ordN b n) n := by
  unfold ordN
  rw [List.range_succ, List.foldl_append]; rfl
theorem insN_perm (b : List Int) (l : List Nat) (i : Nat) : (insN b l i).Perm (i :: l) := by
  unfold insN
  refine List.perm_middle.trans ?_
  rw [List.takeWhile_append_dropWhile]
theorem ordN_perm (b : List Int) : ∀ n, (ordN b n).Perm (List.range n)
  | 0 => by simp [ordN]
  | n + 1 => by
    rw [ordN_succ, List.range_succ]
    refine (insN_perm b _ n).trans ?_
    refine ((ordN_perm b n).cons n).trans ?_
    exact (List.perm_append_singleton n (List.range n)).symm
theorem ins_sorted {b : List Int} : ∀ {l : List Nat} {i : Nat}, l.Pairwise (fun i j => sl b i j = true) → (∀ k ∈ l, k < b.length ∧ k ≠ i) → i < b.length → (insN b l i).Pairwise (fun i j => sl b i j = true)
  | [], i, _, _, _ => by simp [insN]
  | a :: l, i, hs, hk, hi => by
    rw [List.pairwise_cons] at hs
    have ha := hk a (by simp)
    cases h : sl b a i with
    | true =>
      have e : insN b (a :: l) i = a :: insN b l i := by simp [insN, List.takeWhile, List.dropWhile, h]
      rw [e, List.pairwise_cons]
      refine ⟨fun k hkm => ?_, ins_sorted hs.2 (fun k hkl => hk k (by simp [hkl])) hi⟩
      have := (insN_perm b l i).mem_iff.1 hkm
      rcases List.mem_cons.1 this with rfl | hkl
      · exact h
      · exact hs.1 k hkl
    | false =>
      have e : insN b (a :: l) i = i :: a :: l := by simp [insN, List.takeWhile, List.dropWhile, h]
      rw [e, List.pairwise_cons]
      have hia : sl b i a = true := by
        rcases sl_tri ha.1 hi with q | q | q
        · exact absurd q ha.2
        · rw [h] at q; cases q
        · exact q
      refine ⟨fun k hkm => ?_, List.pairwise_cons.2 hs⟩
      rcases List.mem_cons.1 hkm with rfl | hkl
      · exact hia
      · exact lexLt_trans hia (hs.1 k hkl)
theorem ordN_sorted (b : List Int) : ∀ n, n ≤ b.length → (ordN b n).Pairwise fun i j => sl b i j = true
  | 0, _ => by simp [ordN]
  | n + 1, h => by
    rw [ordN_succ]
    refine ins_sorted (ordN_sorted b n (by omega)) (fun k hk => ?_) (by omega)
    have := (ordN_perm b n).mem_iff.1 hk
    simp at this
    omega
theorem ordN_ok (b : List Int) : OrdOK b (ordN b b.length) := ⟨ordN_perm b _, ordN_sorted b _ (Nat.le_refl _)⟩
namespace OrdOK
variable {b : List Int} {o : List Nat}
theorem len (h : OrdOK b o) : o.length = b.length := by simpa using h.perm.length_eq
theorem lt (h : OrdOK b o) {k : Nat} (hk : k ∈ o) : k < b.length := by simpa using h.perm.mem_iff.1 hk
theorem mem (h : OrdOK b o) {k : Nat} (hk : k < b.length) : k ∈ o := h.perm.mem_iff.2 (by simpa using hk)
theorem nodup (h : OrdOK b o) : o.Nodup := h.perm.nodup_iff.2 List.nodup_range
theorem at_lt (h : OrdOK b o) {i j : Nat} (hij : i < j) (hj : j < o.length) : sl b (o[i]'(by omega)) o[j] = true := List.pairwise_iff_getElem.1 h.sorted i j (by omega) hj hij
/-- There is one order only. -/
theorem unique {p : List Nat} (h : OrdOK b o) (k : OrdOK b p) : o = p :=
  List.Perm.eq_of_pairwise (fun _ _ _ _ h1 h2 => by have := lexLt_asymm h1; unfold sl at h2; rw [this] at h2; cases h2) h.sorted k.sorted (h.perm.trans k.perm.symm)
end OrdOK
end Go.Proofs.Ytijeaicbnfiegaa
