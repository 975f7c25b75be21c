/-
  A part of the proof: what a piece of the program gives; conditions: those of each theorem.
-/
import Derived.Test.YtijeaicbnfiegaaSv22
import Derived.Test.YtijeaicbnfiegaaSm5
set_option linter.unusedVariables false
namespace Go.Proofs.Ytijeaicbnfiegaa
open Go.Px Go.Ax
def inP (p : List (List Int)) (l : List Int) : Prop := ∀ i ∈ l, 0 ≤ i ∧ i < p.length
/-- A part of a list. -/
def seg (l : List Int) (a n : Nat) : List Int := (l.drop a).take n
theorem seg_zero (l : List Int) (a : Nat) : seg l a 0 = [] := rfl
theorem seg_succ {l : List Int} {a n : Nat} (h : a < l.length) : seg l a (n + 1) = l[a] :: seg l (a + 1) n := by
  unfold seg
  rw [List.drop_eq_getElem_cons h, List.take_succ_cons]
theorem seg_len {l : List Int} {a n : Nat} (h : a + n ≤ l.length) : (seg l a n).length = n := by
  unfold seg
  rw [List.length_take, List.length_drop]; omega
theorem seg_set {l : List Int} {k a n : Nat} {v : Int} (h : k < a) : seg (l.set k v) a n = seg l a n := by
  unfold seg
  rw [List.drop_set_of_lt h]
/-- A list with a part in the place of another. -/
def putP (l : List Int) (a b : Nat) (m : List Int) : List Int := l.take a ++ m ++ l.drop b
theorem putP_step {l m : List Int} {a b : Nat} {v : Int} (h : a < l.length) (hb : a < b) : putP (l.set a v) (a + 1) b m = putP l a b (v :: m) := by
  unfold putP
  rw [List.drop_set_of_lt hb, List.take_add_one, List.take_set_of_le (Nat.le_refl _)]
  simp [h]
theorem putP_self {l : List Int} {a n : Nat} (h : a + n ≤ l.length) : putP l a (a + n) (seg l a n) = l := by
  unfold putP seg
  rw [List.append_assoc, ← List.drop_drop, List.take_append_drop, List.take_append_drop]
abbrev mS (lo n : Nat) (s l : List Int) (a na b nb : Nat) (k : Nat) (p : List (List Int)) : PS := ⟨[(1, .win false (.int .i64) 1099511627777 lo n), (3, .fn 24 [] [.ptr 1099511627778 0]), (8, .win false (.int .i64) 1099511627776 a na), (9, .win false (.int .i64) 1099511627777 b nb), (10, .int .i64 (k : Int))], [(1099511627776, .row 3 (.int .i64) s), (1099511627777, .row 3 (.int .i64) l), (1099511627778, .var [.win true shP 1099511627779 0 p.length]), (1099511627779, .row 45 shP p)]⟩
abbrev QB (s l : List Int) (p : List (List Int)) : List SV → List (Nat × LB) → Prop := fun rs blk => rs = [] ∧ blk = [(1099511627776, .row 3 (.int .i64) s), (1099511627777, .row 3 (.int .i64) l), (1099511627778, .var [.win true shP 1099511627779 0 p.length]), (1099511627779, .row 45 shP p)]
theorem merge_loop {s : List Int} {p : List (List Int)} {lo n : Nat} : ∀ (m : Nat) (l : List Int) (a na b nb k : Nat), na + nb ≤ m → a + na ≤ s.length → k + na + nb = n → b = lo + k + na → lo + n ≤ l.length → l.length < 1048576 → inP p (seg s a na) → inP p (seg l b nb) →
    GD 36 Try.f36 (QB s (putP l (lo + k) (lo + n) (mrg (pbB p) (seg s a na) (seg l b nb))) p) (hd Try.f36 0) (mS lo n s l a na b nb k p) := by
  intro m
  induction m with
  | zero =>
    intro l a na b nb k hm ha hk hb hl h20 h1 h2
    obtain rfl : na = 0 := by omega
    refine sy_go cxd2 (vc_mergeL _ _ _ _ _ _ _ _ _ _ _ _) ?_
    rw [decide_eq_false (show ¬ ((0 : Int) < ((0 : Nat) : Int)) by decide), bc_f, seg_zero, mrg_nil]
    obtain rfl : nb = 0 := by omega
    refine ⟨rfl, ?_⟩
    have e := putP_self (l := l) (a := lo + k) (n := 0) (by omega)
    rw [seg_zero] at e ⊢
    rw [show lo + n = lo + k + 0 by omega, e]
  | succ m ih =>
    intro l a na b nb k hm ha hk hb hl h20 h1 h2
    refine sy_go cxd2 (vc_mergeL _ _ _ _ _ _ _ _ _ _ _ _) ?_
    cases na with
    | zero =>
      rw [decide_eq_false (show ¬ ((0 : Int) < ((0 : Nat) : Int)) by decide), bc_f, seg_zero, mrg_nil]
      refine ⟨rfl, ?_⟩
      have e := putP_self (l := l) (a := lo + k) (n := nb) (by omega)
      rw [show lo + n = lo + k + nb by omega, show b = lo + k by omega, e]
    | succ na =>
      rw [decide_eq_true (show (0 : Int) < ((na + 1 : Nat) : Int) by omega), bc_t]
      have z0 : Int.toNat 0 = 0 := rfl
      have z1 : Int.toNat 1 = 1 := rfl
      have hw : IntKind.i64.wrap ((k : Int) + 1) = ((k + 1 : Nat) : Int) := by rw [IntWalk.i64_in _ (by omega)]; omega
      have gs : gt (Sh.int .i64) s (a + 0) = s[a]'(by omega) := gt_eq (by omega)
      have es := seg_succ (l := s) (a := a) (n := na) (by omega)
      have p1 := h1 s[a] (by rw [es]; exact List.mem_cons_self ..)
      -- what is taken from the first ones
      have first : ∀ (hh : seg l b nb = [] ∨ ∃ y ys, seg l b nb = y :: ys ∧ pbB p y s[a] = false), GD 36 Try.f36 (QB s (putP l (lo + k) (lo + n) (mrg (pbB p) (seg s a (na + 1)) (seg l b nb))) p) (hd Try.f36 0) (mS lo n s (l.set (lo + k) s[a]) (a + 1) na b nb (k + 1) p) := by
        intro hh
        have hlk : lo + k < l.length := by omega
        have q := ih (l.set (lo + k) s[a]) (a + 1) na b nb (k + 1) (by omega) (by omega) (by omega) (by omega) (by rw [List.length_set]; omega) (by rw [List.length_set]; omega)
          (fun i hi => h1 i (by rw [es]; exact List.mem_cons_of_mem _ hi)) (by rw [seg_set (by omega)]; exact h2)
        rw [seg_set (by omega), show lo + (k + 1) = lo + k + 1 by omega, putP_step hlk (by omega)] at q
        have e : mrg (pbB p) (seg s a (na + 1)) (seg l b nb) = s[a] :: mrg (pbB p) (seg s (a + 1) na) (seg l b nb) := by
          rw [es]
          rcases hh with h | ⟨y, ys, h, h'⟩
          · rw [h, mrg_nil2, mrg_nil2]
          · rw [h, mrg_cons, if_neg (by rw [h']; decide)]
        rw [e]
        exact q
      refine bc_of (fun h => ?_) (fun h => ?_)
      · have h := of_decide_eq_true h
        obtain ⟨nb, rfl⟩ : ∃ c, nb = c + 1 := ⟨nb - 1, by omega⟩
        have gl : gt (Sh.int .i64) l (b + 0) = l[b]'(by omega) := gt_eq (by omega)
        have el := seg_succ (l := l) (a := b) (n := nb) (by omega)
        have p2 := h2 l[b] (by rw [el]; exact List.mem_cons_self ..)
        rw [z0, z1, gs, gl, hw, Int.toNat_natCast]
        refine ⟨by omega, by omega, by omega, by omega, by omega, by omega, rfl, ⟨p2.1, p2.2, p1.1, p1.2⟩, ?_⟩
        rw [cond_true]
        refine bc_of (fun hb2 => ?_) (fun hb2 => ?_)
        · refine ⟨by omega, by omega, by omega, by omega, by omega, by omega, by omega, by omega, by omega, ?_⟩
          have hlk : lo + k < l.length := by omega
          have q := ih (l.set (lo + k) l[b]) a (na + 1) (b + 1) nb (k + 1) (by omega) (by omega) (by omega) (by omega) (by rw [List.length_set]; omega) (by rw [List.length_set]; omega)
            h1 (by rw [seg_set (by omega)]; exact fun i hi => h2 i (by rw [el]; exact List.mem_cons_of_mem _ hi))
          rw [seg_set (by omega), show lo + (k + 1) = lo + k + 1 by omega, putP_step hlk (by omega)] at q
          have e : mrg (pbB p) (seg s a (na + 1)) (seg l b (nb + 1)) = l[b] :: mrg (pbB p) (seg s a (na + 1)) (seg l (b + 1) nb) := by
            rw [el, es, mrg_cons, if_pos hb2]
          rw [e]
          exact q.only ⟨rfl, rfl, rfl, rfl, rfl, trivial⟩ ⟨rfl, rfl, rfl, rfl, trivial⟩
        · refine ⟨by omega, by omega, by omega, by omega, by omega, by omega, by omega, by omega, by omega, ?_⟩
          exact (first (.inr ⟨_, _, el, hb2⟩)).only ⟨rfl, rfl, rfl, rfl, rfl, trivial⟩ ⟨rfl, rfl, rfl, rfl, trivial⟩
      · have h := of_decide_eq_false h
        obtain rfl : nb = 0 := by omega
        rw [z0, z1, gs, hw, Int.toNat_natCast]
        refine ⟨rfl, by omega, by omega, by omega, by omega, by omega, by omega, by omega, by omega, by omega, ?_⟩
        exact (first (.inl rfl)).only ⟨rfl, rfl, rfl, rfl, rfl, trivial⟩ ⟨rfl, rfl, rfl, rfl, trivial⟩
def preMrg (s : List Int) (lo n : Nat) (l : List Int) (h : Int) (p : List (List Int)) : Prop := 0 ≤ h ∧ h ≤ n ∧ lo + n ≤ l.length ∧ h ≤ s.length ∧ l.length < 1048576 ∧ inP p (seg l lo n)
abbrev mrgL (lo n : Nat) (l : List Int) (h : Int) (p : List (List Int)) : List Int := putP l lo (lo + n) (mrg (pbB p) (seg l lo h.toNat) (seg l (lo + h.toNat) (n - h.toNat)))
def ctMrg : CtrI := ⟨K36, fun x => preMrg x.1 x.2.1.1 x.2.1.2.1 x.2.1.2.2 x.2.2.1 x.2.2.2.1.2.1.1, fun _ => [],
  fun x => bkKL 0 K36 (setRow x.1 0 (seg x.2.1.2.2 x.2.1.1 x.2.2.1.toNat), (x.2.1.1, x.2.1.2.1, mrgL x.2.1.1 x.2.1.2.1 x.2.1.2.2 x.2.2.1 x.2.2.2.1.2.1.1), x.2.2)⟩
theorem seg_setRow {s f : List Int} (h : f.length ≤ s.length) : seg (setRow s 0 f) 0 f.length = f := by
  unfold seg setRow
  rw [List.take_zero, List.nil_append, List.drop_zero, List.take_append_of_le_length (Nat.le_refl _), List.take_length]
theorem mem_seg {l : List Int} {a n b m : Nat} (h1 : b ≤ a) (h2 : a + n ≤ b + m) {i : Int} (h : i ∈ seg l a n) : i ∈ seg l b m := by
  unfold seg at h ⊢
  obtain ⟨k, rfl⟩ : ∃ k, a = b + k := ⟨a - b, by omega⟩
  rw [← List.drop_drop] at h
  rw [List.mem_take_iff_getElem] at h ⊢
  obtain ⟨j, hj, e⟩ := h
  simp only [List.length_drop] at hj
  refine ⟨k + j, by simp only [List.length_drop]; omega, ?_⟩
  rw [← e]
  simp [Nat.add_assoc]
theorem merge_run (s : List Int) (lo n : Nat) (l : List Int) (h : Int) (p : List (List Int)) (hp : preMrg s lo n l h p) : sy tt G0 D2 Try.f36.ntmps Try.f36.results.toList (QI ctMrg (s, (lo, n, l), h, ((), ((p, ()), ())), ())) (Px.Good Try.prog tt G0 36 Try.f36.ntmps Try.f36.results.toList (QI ctMrg (s, (lo, n, l), h, ((), ((p, ()), ())), ()))) 1000 [.code (bodyOf Try.f36)] (entryI K36 (s, (lo, n, l), h, ((), ((p, ()), ())), ())) := by
  obtain ⟨h0, h1, h2, h3, h4, h5⟩ := hp
  rw [vc_merge]
  have hF : (seg l lo h.toNat).length = h.toNat := seg_len (by omega)
  have e0 : winL (Sh.int .i64) (lo + 0) (h.toNat - 0) l = seg l lo h.toNat := rfl
  have e1 : List.take s.length (seg l lo h.toNat) = seg l lo h.toNat := List.take_of_length_le (by omega)
  have e2 : min (seg l lo h.toNat).length s.length = h.toNat := by omega
  have e3 : (setRow s 0 (seg l lo h.toNat)).length = s.length := setRow0_len (by omega)
  rw [e0, e1, e2, e3]
  refine ⟨h0, h1, h2, by omega, by omega, by omega, by omega, by omega, h0, h1, h2, ?_⟩
  have q := merge_loop (s := setRow s 0 (seg l lo h.toNat)) (p := p) (lo := lo) (n := n) _ l 0 h.toNat (lo + h.toNat) (n - h.toNat) 0 (Nat.le_refl _) (by rw [e3]; omega) (by omega) (by omega) h2 h4
    (by have := seg_setRow (s := s) (f := seg l lo h.toNat) (by omega)
        rw [hF] at this
        rw [this]
        exact fun i hi => h5 i (mem_seg (by omega) (by omega) hi))
    (fun i hi => h5 i (mem_seg (by omega) (by omega) hi))
  have e4 := seg_setRow (s := s) (f := seg l lo h.toNat) (by omega)
  rw [hF] at e4
  rw [e4] at q
  refine (q.post fun rs blk hq => ?_).only ⟨rfl, rfl, ?_, rfl, rfl, trivial⟩ ⟨rfl, rfl, rfl, rfl, trivial⟩
  · obtain ⟨rfl, rfl⟩ := hq
    refine QI.self rfl rfl rfl ?_
    intro b hb
    simp only [ctMrg, bkKL, bkK, cnt, cntL, List.append_nil, List.nil_append, List.mem_append, List.mem_cons, List.mem_singleton, List.not_mem_nil, or_false] at hb
    rcases hb with rfl | rfl | rfl | rfl <;> rfl
  · exact congrArg (fun z => some (SV.win false (Sh.int .i64) 1099511627776 0 z)) (by rw [Int.toNat_natCast]; rfl)
theorem merge_held : HeldI Try.prog G0 36 ctMrg := HeldI.run cxd2 (fn := Try.f36) rfl rfl ⟨by decide, by decide⟩ fun x hp => merge_run x.1 x.2.1.1 x.2.1.2.1 x.2.1.2.2 x.2.2.1 x.2.2.2.1.2.1.1 hp
def D3 : CV := (36, .inr ctMrg) :: D2
theorem cxd3 : CxOK Try.prog tt G0 D3 := cxd2.consI merge_held (fn := Try.f36) rfl rfl rfl
/-- sortWith, on parts shorter than m. -/
def preSort (m : Nat) (s : List Int) (lo n : Nat) (l : List Int) (p : List (List Int)) : Prop := n < m ∧ lo + n ≤ l.length ∧ n / 2 ≤ s.length ∧ l.length < 1048576 ∧ inP p (seg l lo n)
abbrev srtF (p : List (List Int)) (s : List Int) (l : List Int) : List Int × List Int := sortF (pbB p) l.length s l
def ctSort (m : Nat) : CtrI := ⟨K35, fun x => preSort m x.1 x.2.1.1 x.2.1.2.1 x.2.1.2.2 x.2.2.1.2.1.1, fun _ => [],
  fun x => bkKL 0 K35 ((srtF x.2.2.1.2.1.1 x.1 (seg x.2.1.2.2 x.2.1.1 x.2.1.2.1)).1, (x.2.1.1, x.2.1.2.1, putP x.2.1.2.2 x.2.1.1 (x.2.1.1 + x.2.1.2.1) (srtF x.2.2.1.2.1.1 x.1 (seg x.2.1.2.2 x.2.1.1 x.2.1.2.1)).2), x.2.2)⟩
def D4 (m : Nat) : CV := (35, .inr (ctSort m)) :: D3
end Go.Proofs.Ytijeaicbnfiegaa
