/-
  A part of the proof: what a piece of the program gives; conditions: those of each theorem.
-/
import Derived.Test.YtijeaicbnfiegaaSc24
set_option linter.unusedVariables false
namespace Go.Proofs.Ytijeaicbnfiegaa
open Go.Px
/-- The first k of a suffix. -/
def pre (x : List Int) (k i : Nat) : List Int := (x.drop i).take k
theorem lexLt_app : ∀ (a : List Int) {b d : List Int}, lexLt (a ++ b) (a ++ d) = lexLt b d
  | [], _, _ => rfl
  | x :: a, b, d => by
    rw [List.cons_append, List.cons_append, lexLt, if_pos rfl]
    exact lexLt_app a
theorem lexLt_app2 : ∀ (a c : List Int) {b d : List Int}, a ≠ c → (a.length < c.length → b = []) → (c.length < a.length → d = []) → lexLt (a ++ b) (c ++ d) = lexLt a c
  | [], [], _, _, h, _, _ => absurd rfl h
  | [], y :: c, b, d, _, h1, _ => by rw [h1 (by simp)]; rfl
  | x :: a, [], b, d, _, _, h2 => by rw [h2 (by simp)]; rfl
  | x :: a, y :: c, b, d, h, h1, h2 => by
    rw [List.cons_append, List.cons_append, lexLt, lexLt]
    by_cases e : x = y
    · subst e
      rw [if_pos rfl, if_pos rfl]
      exact lexLt_app2 a c (fun q => h (by rw [q])) (fun q => h1 (by simpa using q)) (fun q => h2 (by simpa using q))
    · rw [if_neg e, if_neg e]
theorem lexLt_take : ∀ (m : Nat) (u v : List Int), lexLt (u.take m) (v.take m) = true → lexLt u v = true
  | 0, u, v, h => by rw [List.take_zero, List.take_zero] at h; exact absurd h (by decide)
  | m + 1, [], [], h => absurd h (by simp [lexLt])
  | m + 1, [], y :: v, _ => rfl
  | m + 1, x :: u, [], h => absurd h (by simp [lexLt])
  | m + 1, x :: u, y :: v, h => by
    rw [List.take_succ_cons, List.take_succ_cons, lexLt] at h
    rw [lexLt]
    by_cases e : x = y
    · rw [if_pos e] at h ⊢
      exact lexLt_take m u v h
    · rw [if_neg e] at h ⊢
      exact h
theorem pre_len (x : List Int) (k i : Nat) : (pre x k i).length = min k (x.length - i) := by
  unfold pre
  rw [List.length_take, List.length_drop]
theorem pre_nil {x : List Int} {k i : Nat} (h : x.length ≤ i) : pre x k i = [] := by
  unfold pre
  rw [List.drop_of_length_le h, List.take_nil]
theorem pre_dbl (x : List Int) (k i : Nat) : pre x (k * 2) i = pre x k i ++ pre x k (i + k) := by
  unfold pre
  rw [show k * 2 = k + k by omega, List.take_add, List.drop_drop]
/-- Ranks of the first k. -/
structure RI (x : List Int) (k : Nat) (r : List Int) : Prop where
  len : r.length = x.length
  pos : ∀ i, i < x.length → 0 ≤ G64 r i
  lt : ∀ i j, i < x.length → j < x.length → (G64 r i < G64 r j ↔ lexLt (pre x k i) (pre x k j) = true)
theorem RI.eq {x : List Int} {k : Nat} {r : List Int} (h : RI x k r) {i j : Nat} (hi : i < x.length) (hj : j < x.length) : G64 r i = G64 r j ↔ pre x k i = pre x k j := by
  have a := h.lt i j hi hj
  have b := h.lt j i hj hi
  constructor
  · intro e
    rcases lexLt_tri (pre x k i) (pre x k j) with q | q | q
    · exact q
    · have := a.2 q; omega
    · have := b.2 q; omega
  · intro e
    rw [e, lexLt_irrefl] at a b
    have a' : ¬ (G64 r i < G64 r j) := fun q => absurd (a.1 q) (by decide)
    have b' : ¬ (G64 r j < G64 r i) := fun q => absurd (b.1 q) (by decide)
    omega
abbrev prs (r : List Int) (k : Nat) : List (List Int) := (List.range r.length).map (pairF r k)
theorem prs_len (r : List Int) (k : Nat) : (prs r k).length = r.length := by simp
theorem gt_prs {r : List Int} {k i : Nat} (h : i < r.length) : gt shP (prs r k) i = pairF r k i := by
  have e := gt_at (σ := shP) (l := prs r k) (i := i) (by rw [prs_len]; exact h)
  have : (prs r k)[i]? = some (pairF r k i) := by simp [prs, h]
  rw [this] at e
  exact (Option.some.inj e).symm
theorem pBef_iff (p q : List Int) : pBef p q = true ↔ G64 p 0 < G64 q 0 ∨ (G64 p 0 = G64 q 0 ∧ G64 p 1 < G64 q 1) := by
  unfold pBef
  by_cases h : G64 p 0 = G64 q 0
  · rw [decide_eq_true h]
    simp [h]
  · rw [decide_eq_false h]
    simp [h]
theorem wo_pb (p : List (List Int)) : WO (pbB p) := by
  have F : ∀ x y, pbB p x y = false ↔ ¬ (pBef (gt shP p x.toNat) (gt shP p y.toNat) = true) := fun x y => by unfold pbB; simp
  refine ⟨fun x y h => (F _ _).2 fun k => ?_, fun x y z h k => (F _ _).2 fun q => ?_⟩
  · have h : pBef (gt shP p x.toNat) (gt shP p y.toNat) = true := h
    rw [pBef_iff] at h k
    omega
  · have h := (F _ _).1 h
    have k := (F _ _).1 k
    rw [pBef_iff] at h k q
    omega
/-- The pairs of ranks are the ranks of twice as many. -/
theorem pairs_lt {x : List Int} {k : Nat} {r : List Int} (h : RI x k r) (hk : 0 < k) {i j : Nat} (hi : i < x.length) (hj : j < x.length) : pBef (pairF r k i) (pairF r k j) = lexLt (pre x (k * 2) i) (pre x (k * 2) j) := by
  have hl := h.len
  rw [pre_dbl, pre_dbl]
  have p0 : ∀ i, G64 (pairF r k i) 0 = G64 r i := fun i => rfl
  have p1 : ∀ i, G64 (pairF r k i) 1 = if i + k < x.length then G64 r (i + k) else -1 := fun i => by rw [← hl]; rfl
  by_cases e : pre x k i = pre x k j
  · rw [e, lexLt_app]
    have e0 : G64 r i = G64 r j := (h.eq hi hj).2 e
    rw [Bool.eq_iff_iff, pBef_iff, p0, p0, p1, p1, e0]
    simp only [Int.lt_irrefl, false_or, true_and]
    by_cases c1 : i + k < x.length
    · by_cases c2 : j + k < x.length
      · rw [if_pos c1, if_pos c2]
        exact h.lt _ _ c1 c2
      · rw [if_pos c1, if_neg c2, pre_nil (i := j + k) (by omega)]
        have := h.pos _ c1
        constructor
        · intro q; omega
        · intro q
          cases hp : pre x k (i + k) <;> rw [hp] at q <;> simp [lexLt] at q
    · by_cases c2 : j + k < x.length
      · rw [if_neg c1, if_pos c2, pre_nil (i := i + k) (by omega)]
        have := h.pos _ c2
        refine ⟨fun _ => ?_, fun _ => by omega⟩
        have hlen := pre_len x k (j + k)
        cases hp : pre x k (j + k) with
        | nil => rw [hp] at hlen; simp at hlen; omega
        | cons a l => rfl
      · rw [if_neg c1, if_neg c2, pre_nil (i := i + k) (by omega), pre_nil (i := j + k) (by omega)]
        exact ⟨fun q => by omega, fun q => absurd q (by decide)⟩
  · have hne : G64 r i ≠ G64 r j := fun q => e ((h.eq hi hj).1 q)
    have li := pre_len x k i
    have lj := pre_len x k j
    rw [lexLt_app2 _ _ e (fun q => pre_nil (by omega)) (fun q => pre_nil (by omega)), Bool.eq_iff_iff, pBef_iff, p0, p0, ← h.lt i j hi hj]
    omega
theorem pairs_eq {k : Nat} {r : List Int} {i j : Nat} : (pBef (pairF r k i) (pairF r k j) = false ∧ pBef (pairF r k j) (pairF r k i) = false) ↔ pairF r k i = pairF r k j := by
  constructor
  · rintro ⟨a, b⟩
    have a : ¬ (pBef (pairF r k i) (pairF r k j) = true) := by rw [a]; decide
    have b : ¬ (pBef (pairF r k j) (pairF r k i) = true) := by rw [b]; decide
    rw [pBef_iff] at a b
    have e0 : G64 (pairF r k i) 0 = G64 (pairF r k j) 0 := by omega
    have e1 : G64 (pairF r k i) 1 = G64 (pairF r k j) 1 := by omega
    show [G64 (pairF r k i) 0, G64 (pairF r k i) 1] = [G64 (pairF r k j) 0, G64 (pairF r k j) 1]
    rw [e0, e1]
  · intro e
    rw [e]
    have : pBef (pairF r k j) (pairF r k j) = false := by
      cases hh : pBef (pairF r k j) (pairF r k j) with
      | false => rfl
      | true => rw [pBef_iff] at hh; omega
    exact ⟨this, this⟩
section
variable {x : List Int} {k : Nat} {r : List Int} {o : List Nat}
/-- A place's order, sorted by pairs. -/
structure SOP (x : List Int) (k : Nat) (r : List Int) (o : List Nat) : Prop where
  perm : o.Perm (List.range x.length)
  srt : ∀ a b (hb : b < o.length) (hab : a < b), pBef (pairF r k o[b]) (pairF r k (o[a]'(by omega))) = false
theorem SOP.len (h : SOP x k r o) : o.length = x.length := by simpa using h.perm.length_eq
theorem SOP.lt (h : SOP x k r o) {a : Nat} (ha : a < o.length) : o[a] < x.length := by simpa using h.perm.mem_iff.1 (List.getElem_mem ha)
theorem rk_mono (p : List (List Int)) (o : List Nat) (a : Nat) : ∀ d, rk p o a ≤ rk p o (a + d)
  | 0 => Nat.le_refl _
  | d + 1 => by
    have := rk_mono p o a d
    rw [← Nat.add_assoc, rk]
    omega
theorem SOP.rk_eq (hr : RI x k r) (h : SOP x k r o) {a : Nat} : ∀ d, (hd : a + d < o.length) → (rk (prs r k) o a = rk (prs r k) o (a + d) ↔ pairF r k (o[a]'(by omega)) = pairF r k o[a + d])
  | 0, _ => by simp
  | d + 1, hd => by
    have ih := SOP.rk_eq hr h (a := a) d (by omega)
    have hl := hr.len
    have hol := h.len
    have m := rk_mono (prs r k) o a d
    have l1 := h.lt (a := a + d) (by omega)
    have l2 := h.lt (a := a + d + 1) (by omega)
    have st : rk (prs r k) o (a + d + 1) = rk (prs r k) o (a + d) + if pairF r k (o[a + d + 1]'(by omega)) ≠ pairF r k (o[a + d]'(by omega)) then 1 else 0 := by
      rw [rk, List.getElem?_eq_getElem (show a + d + 1 < o.length by omega), List.getElem?_eq_getElem (show a + d < o.length by omega)]
      simp only [Option.getD_some, gt_prs (show o[a + d + 1] < r.length by omega), gt_prs (show o[a + d] < r.length by omega)]
    simp only [← Nat.add_assoc]
    constructor
    · intro e
      rw [st] at e
      by_cases c : pairF r k (o[a + d + 1]'(by omega)) ≠ pairF r k (o[a + d]'(by omega))
      · rw [if_pos c] at e; omega
      · rw [if_neg c] at e
        have c := Classical.not_not.1 c
        rw [c]
        exact ih.1 (by omega)
    · intro e
      have s2 := h.srt (a + d) (a + d + 1) (by omega) (by omega)
      have eq2 : pairF r k (o[a]'(by omega)) = pairF r k (o[a + d]'(by omega)) := by
        by_cases hd0 : d = 0
        · subst hd0; rfl
        · have s1 := h.srt a (a + d) (by omega) (by omega)
          rw [← e] at s2
          exact pairs_eq.1 ⟨s2, s1⟩
      rw [st, if_neg (fun c => c (by rw [← e, eq2])), Nat.add_zero]
      exact ih.2 eq2
theorem SOP.rk_lt (hr : RI x k r) (h : SOP x k r o) {a b : Nat} (ha : a < o.length) (hb : b < o.length) : rk (prs r k) o a < rk (prs r k) o b ↔ pBef (pairF r k o[a]) (pairF r k o[b]) = true := by
  constructor
  · intro q
    have hab : a < b := by
      apply Classical.byContradiction
      intro c
      have := rk_mono (prs r k) o b (a - b)
      rw [show b + (a - b) = a by omega] at this
      omega
    have s := h.srt a b hb hab
    cases e : pBef (pairF r k o[a]) (pairF r k o[b]) with
    | true => rfl
    | false =>
      have := pairs_eq.1 ⟨e, s⟩
      have := (h.rk_eq hr (a := a) (b - a) (by omega)).2 (by simp only [show a + (b - a) = b by omega]; exact this)
      rw [show a + (b - a) = b by omega] at this
      omega
  · intro q
    have hne : pairF r k o[a] ≠ pairF r k o[b] := fun e => by
      have := (pairs_eq.2 e).1
      rw [q] at this; cases this
    have hab : a < b := by
      apply Classical.byContradiction
      intro c
      by_cases e : a = b
      · subst e; exact hne rfl
      · have := h.srt b a ha (by omega)
        rw [q] at this; cases this
    have m := rk_mono (prs r k) o a (b - a)
    have e := h.rk_eq hr (a := a) (b - a) (by omega)
    simp only [show a + (b - a) = b by omega] at m e
    have : rk (prs r k) o a ≠ rk (prs r k) o b := fun z => hne (e.1 z)
    omega
/-- The next ranks. -/
theorem SOP.next (hr : RI x k r) (hk : 0 < k) (h : SOP x k r o) : RI x (k * 2) (rankV (prs r k) o) := by
  have hol := h.len
  have g : ∀ i, i < x.length → G64 (rankV (prs r k) o) i = ((rk (prs r k) o (o.idxOf i) : Nat) : Int) := fun i hi => gt_rowF (by omega)
  refine ⟨by rw [rankV, rowF_len, hol], fun i hi => by rw [g i hi]; exact Int.natCast_nonneg _, fun i j hi hj => ?_⟩
  rw [g i hi, g j hj, Int.ofNat_lt, h.rk_lt hr (ixlt h.perm hi) (ixlt h.perm hj), ixat h.perm hi, ixat h.perm hj, pairs_lt hr hk hi hj]
theorem SOP.ok_of (h : SOP x k r o) (hs : ∀ a b (hb : b < o.length) (hab : a < b), sl x (o[a]'(by omega)) o[b] = true) : OrdOK x o := ⟨h.perm, List.pairwise_iff_getElem.2 fun a b _ hb hab => hs a b hb hab⟩
theorem SOP.ne (h : SOP x k r o) {a b : Nat} (hb : b < o.length) (hab : a < b) : o[a]'(by omega) ≠ o[b] := fun e => by
  have := nodup_at (h.perm.nodup_iff.2 List.nodup_range) (show a < o.length by omega) hb e
  omega
theorem SOP.long (hr : RI x k r) (hk : 0 < k) (h : SOP x k r o) (hn : x.length ≤ k * 2) : OrdOK x o := by
  refine h.ok_of fun a b hb hab => ?_
  have s := h.srt a b hb hab
  rw [pairs_lt hr hk (h.lt hb) (h.lt (by omega))] at s
  have w : ∀ i, pre x (k * 2) i = x.drop i := fun i => by
    unfold pre
    exact List.take_of_length_le (by rw [List.length_drop]; omega)
  rw [w, w] at s
  rcases sl_tri (h.lt (show a < o.length by omega)) (h.lt hb) with q | q | q
  · exact absurd q (h.ne hb hab)
  · exact q
  · unfold sl at q; rw [s] at q; cases q
theorem rk_step_le (p : List (List Int)) (o : List Nat) (a : Nat) : ∀ d, rk p o (a + d) ≤ rk p o a + d
  | 0 => Nat.le_refl _
  | d + 1 => by
    have := rk_step_le p o a d
    rw [← Nat.add_assoc, rk]
    split <;> omega
theorem SOP.full (hr : RI x k r) (hk : 0 < k) (h : SOP x k r o) (h0 : 0 < o.length) (hf : rk (prs r k) o (o.length - 1) = o.length - 1) : OrdOK x o := by
  refine h.ok_of fun a b hb hab => ?_
  have r1 := rk_le (prs r k) o a
  have r3 := rk_step_le (prs r k) o b (o.length - 1 - b)
  rw [show b + (o.length - 1 - b) = o.length - 1 by omega, hf] at r3
  have := (h.rk_lt hr (show a < o.length by omega) hb).1 (by omega)
  rw [pairs_lt hr hk (h.lt (by omega)) (h.lt hb)] at this
  exact lexLt_take _ _ _ this
end
end Go.Proofs.Ytijeaicbnfiegaa
