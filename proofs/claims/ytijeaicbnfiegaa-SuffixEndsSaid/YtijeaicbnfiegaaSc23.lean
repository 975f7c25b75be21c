/-
  A part of the proof: what a piece of the program gives; conditions: those of each theorem.
-/
import Derived.Test.YtijeaicbnfiegaaSv23
import Derived.Test.YtijeaicbnfiegaaSm6
set_option linter.unusedVariables false
namespace Go.Proofs.Ytijeaicbnfiegaa
open Go.Px Go.Ax
theorem inP_perm {p : List (List Int)} {l m : List Int} (h : l.Perm m) (k : inP p m) : inP p l := fun i hi => k i (h.mem_iff.1 hi)
theorem inP_gt {p : List (List Int)} {l : List Int} (k : inP p l) {j : Nat} (h : j < l.length) : 0 ≤ gt (Sh.int .i64) l j ∧ gt (Sh.int .i64) l j < p.length := by
  rw [gt_eq h]
  exact k _ (List.getElem_mem h)
theorem sort_end {m : Nat} {s : List Int} {lo n : Nat} {l : List Int} {p : List (List Int)} {s' l' : List Int} (h : srtF p s (seg l lo n) = (s', l')) {l2 : List Int} (h2 : l2 = putP l lo (lo + n) l') : QI (ctSort m) (s, (lo, n, l), ((), ((p, ()), ())), ()) []
    [(1099511627776, LB.row 3 (.int .i64) s'), (1099511627777, .row 3 (.int .i64) l2), (1099511627778, .var [.win true shP 1099511627779 0 p.length]), (1099511627779, .row 45 shP p)] := by
  subst h2
  refine QI.self rfl rfl rfl ?_
  intro b hb
  simp only [ctSort, h, bkKL, bkK, cnt, cntL, List.append_nil, List.nil_append, List.mem_append, List.mem_cons, List.not_mem_nil, or_false] at hb
  rcases hb with rfl | rfl | rfl | rfl <;> rfl
theorem sort_run (m : Nat) (s : List Int) (lo n : Nat) (l : List Int) (p : List (List Int)) (hp : preSort (m + 1) s lo n l p) (R : List Item → PS → Prop) : sy tt G0 (D4 m) Try.f35.ntmps Try.f35.results.toList (QI (ctSort (m + 1)) (s, (lo, n, l), ((), ((p, ()), ())), ())) R 1000 [.code (bodyOf Try.f35)] (entryI K35 (s, (lo, n, l), ((), ((p, ()), ())), ())) := by
  obtain ⟨h0, h1, h2, h3, h4⟩ := hp
  rw [vc_sortW]
  refine bc_of (fun hn => ?_) (fun hn => ?_)
  · have hn := of_decide_eq_true hn
    exact sort_end (sortF_short _ s (by rw [seg_len h1]; omega)) (putP_self h1).symm
  · have hn := of_decide_eq_false hn
    have i1 : IntKind.i64.wrap ((n : Int).tdiv 2) = ((n / 2 : Nat) : Int) := by rw [show (n : Int).tdiv 2 = ((n / 2 : Nat) : Int) from rfl, IntWalk.i64_in _ (by omega)]
    rw [i1]
    have i2 : IntKind.i64.wrap (((n / 2 : Nat) : Int) - 1) = ((n / 2 - 1 : Nat) : Int) := by rw [IntWalk.i64_in _ (by omega)]; omega
    rw [i2]
    simp only [Nat.add_zero, Nat.sub_zero, Int.toNat_natCast]
    generalize hH : n / 2 = H at *
    have c1 : lo + H + (n - H) = lo + n := by omega
    rw [c1]
    generalize hA : srtF p s (seg l lo H) = A
    have a2 : A.2.length = H := by rw [← hA, sortF_len, seg_len (by omega)]
    have a1 : A.1.length = s.length := by rw [← hA]; exact sortF_spare _ _ _ _ (by rw [seg_len (by omega)]; omega)
    have aP : inP p A.2 := inP_perm (by rw [← hA]; exact sortF_perm _ _ _ _) fun i hi => h4 i (mem_seg (by omega) (by omega) hi)
    generalize hl1 : putP l lo (lo + H) A.2 = l1
    have b1 : l1.length = l.length := by rw [← hl1]; exact putP_len (by omega) (by omega) (by omega)
    have b2 : seg l1 (lo + H) (n - H) = seg l (lo + H) (n - H) := by rw [← hl1]; exact seg_putP_out (by omega) (by omega) (by omega) (by omega)
    rw [b2]
    generalize hB : srtF p A.1 (seg l (lo + H) (n - H)) = B
    have d2 : B.2.length = n - H := by rw [← hB, sortF_len, seg_len (by omega)]
    have d1 : B.1.length = s.length := by rw [← hB, ← a1]; exact sortF_spare _ _ _ _ (by rw [seg_len (by omega)]; omega)
    have dP : inP p B.2 := inP_perm (by rw [← hB]; exact sortF_perm _ _ _ _) fun i hi => h4 i (mem_seg (by omega) (by omega) hi)
    have hl2 : putP l1 (lo + H) (lo + n) B.2 = putP l lo (lo + n) (A.2 ++ B.2) := by rw [← hl1]; exact putP_next (by omega) (by omega) (by omega) (by omega)
    rw [hl2]
    have e1 : (putP l lo (lo + n) (A.2 ++ B.2)).length = l.length := putP_len (by omega) (by omega) (by rw [List.length_append]; omega)
    have g1 : gt (Sh.int .i64) (putP l lo (lo + n) (A.2 ++ B.2)) (lo + H) = gt (Sh.int .i64) B.2 0 := by
      rw [getP (by omega) (by rw [List.length_append]; omega)]
      have := getA2 (m := A.2) (m' := B.2) (j := 0)
      rw [a2] at this
      exact this
    have g2 : gt (Sh.int .i64) (putP l lo (lo + n) (A.2 ++ B.2)) (lo + (H - 1)) = gt (Sh.int .i64) A.2 (H - 1) := by
      rw [getP (by omega) (by rw [List.length_append]; omega), getA1 (by omega)]
    have s1 : seg (putP l lo (lo + n) (A.2 ++ B.2)) lo H = A.2 := by
      have := seg_putP (l := l) (a := lo) (b := lo + n) (m := A.2 ++ B.2) (c := 0) (k := H) (by omega) (by rw [List.length_append]; omega)
      rw [Nat.add_zero] at this
      rw [this, ← a2]; exact seg_all
    have s2 : seg (putP l lo (lo + n) (A.2 ++ B.2)) (lo + H) (n - H) = B.2 := by
      rw [seg_putP (by omega) (by rw [List.length_append]; omega), ← d2, ← a2]
      exact seg_all2
    have s3 : seg (putP l lo (lo + n) (A.2 ++ B.2)) lo n = A.2 ++ B.2 := by
      have := seg_putP (l := l) (a := lo) (b := lo + n) (m := A.2 ++ B.2) (c := 0) (k := n) (by omega) (by rw [List.length_append]; omega)
      rw [Nat.add_zero] at this
      rw [this]
      unfold seg
      rw [List.drop_zero]
      exact List.take_of_length_le (by rw [List.length_append]; omega)
    have sP : inP p (A.2 ++ B.2) := fun i hi => (List.mem_append.1 hi).elim (fun h => aP i h) fun h => dP i h
    have key := srt_eq (p := p) (s := s) (l := l) (lo := lo) (n := n) (A := A) (B := B) (by omega) h1 (by rw [hH]; exact hA) (by rw [hH]; exact hB)
    rw [hH] at key
    rw [g1, g2, e1]
    refine ⟨by omega, by omega, by omega, by omega, trivial, trivial, (show preSort m s lo H l p from ⟨by omega, by omega, by omega, h3, fun i hi => h4 i (mem_seg (by omega) (by omega) hi)⟩), by omega, by omega, by omega, by omega, trivial,
      (show preSort m A.1 (lo + H) (n - H) l1 p from ⟨by omega, by omega, by omega, by omega, by rw [b2]; exact fun i hi => h4 i (mem_seg (by omega) (by omega) hi)⟩), by omega, by omega, by omega, by omega, by omega, by omega, trivial, ?_, ?_⟩
    · have q1 := inP_gt dP (j := 0) (by omega)
      have q2 := inP_gt aP (j := H - 1) (by omega)
      exact ⟨q1.1, q1.2, q2.1, q2.2⟩
    · refine bc_of (fun hb => ?_) (fun hb => ?_)
      · rw [if_pos hb] at key
        refine ⟨by omega, trivial, (show preMrg B.1 lo n (putP l lo (lo + n) (A.2 ++ B.2)) (H : Int) p from ⟨by omega, by omega, by omega, by omega, by omega, by rw [s3]; exact sP⟩), ?_⟩
        rw [s1]
        refine sort_end key ?_
        unfold mrgL
        simp only [Int.toNat_natCast]
        rw [s1, s2]
        exact putP_putP (by omega) (by omega) (by rw [List.length_append]; omega)
      · rw [if_neg (by rw [hb]; decide)] at key
        exact sort_end key rfl
theorem sort_held : ∀ m, HeldI Try.prog G0 35 (ctSort m) := by
  intro m
  induction m with
  | zero => intro x hp; exact absurd hp.1 (Nat.not_lt_zero _)
  | succ m ih =>
    have cx : CxOK Try.prog tt G0 (D4 m) := cxd3.consI ih (fn := Try.f35) rfl rfl rfl
    exact HeldI.run cx (fn := Try.f35) rfl rfl ⟨(by decide : 3 ≤ Try.f35.ntmps), (by decide : 3 < 1000)⟩ fun x hp => sort_run m x.1 x.2.1.1 x.2.1.2.1 x.2.1.2.2 x.2.2.1.2.1.1 hp _
abbrev ctSort' : CtrI := ctSort 1048577
def D5 : CV := (35, .inr ctSort') :: D3
theorem cxd5 : CxOK Try.prog tt G0 D5 := cxd3.consI (sort_held _) (fn := Try.f35) rfl rfl rfl
abbrev K23 : List AK := [rI, fn24]
end Go.Proofs.Ytijeaicbnfiegaa
