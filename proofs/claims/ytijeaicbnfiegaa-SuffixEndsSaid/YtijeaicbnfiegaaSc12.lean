/-
  A part of the proof: what a piece of the program gives; conditions: those of each theorem.
-/
import Derived.Test.YtijeaicbnfiegaaSv11
import Derived.Test.YtijeaicbnfiegaaSm4
set_option linter.unusedVariables false
namespace Go.Proofs.Ytijeaicbnfiegaa
open Go.Px Go.Ax
theorem minL_spec : ∀ (l : List Int) (m : Int), minL l m ≤ m ∧ (∀ x ∈ l, minL l m ≤ x) ∧ (minL l m = m ∨ minL l m ∈ l)
  | [], m => by
    simp only [minL]
    exact ⟨Int.le_refl _, (fun x h => by cases h), .inl trivial⟩
  | x :: l, m => by
    obtain ⟨h1, h2, h3⟩ := minL_spec l (min m x)
    simp only [minL]
    refine ⟨by omega, fun y hy => ?_, ?_⟩
    · rcases List.mem_cons.1 hy with rfl | hy
      · omega
      · exact h2 y hy
    · rcases h3 with h3 | h3
      · rcases (by omega : min m x = m ∨ min m x = x) with e | e
        · exact .inl (by rw [h3, e])
        · exact .inr (by rw [h3, e]; simp)
      · exact .inr (List.mem_cons_of_mem _ h3)
theorem stB_eq {b : List Int} {o : List Nat} {s : List Int} {n k : Nat} (hk : k < o.length) : stB b (mapI o) s n k = decide (n ≤ lc b s o k) := by
  unfold stB
  have g : gt (Sh.int .i64) (mapI o) (k : Int).toNat = ((o[k] : Nat) : Int) := gt_mapI hk
  rw [g, sfx_nat, Int.toNat_natCast, lcp_take]
  unfold lc sf
  rw [getD_at hk]
  refine decide_eq_decide.2 ?_
  omega
section
variable {b s : List Int} {o : List Nat} {best n : Nat}
/-- The suffixes that begin with the longest beginning stand from 'fr' to 'to'. -/
structure Run (b s : List Int) (o : List Nat) (best n fr to : Nat) : Prop where
  le : fr ≤ best ∧ best < to ∧ to ≤ o.length
  iff : ∀ k, k < o.length → (n ≤ lc b s o k ↔ fr ≤ k ∧ k < to)
theorem run_ok (ho : OrdOK b o) (hr : CloR b s o best n) (hn : 0 < n) :
    Run b s o best n (bs (fun k => stB b (mapI o) s n k) best 0 best) (bs (fun k => !stB b (mapI o) s n k) (o.length - (best + 1)) (best + 1) o.length) := by
  obtain ⟨hb, hl⟩ := hr.at' hn
  have b1 := bs_ok (p := fun k => stB b (mapI o) s n k) best 0 best (by omega) (by omega) (fun i j _ h1 h2 hi => by
    simp only [stB_eq (show i < o.length by omega), decide_eq_true_eq] at hi
    simp only [stB_eq (show j < o.length by omega), decide_eq_true_eq]
    by_cases e : i = j
    · subst e; exact hi
    · exact (stands_between ho hb hl hi).1 (by omega) h2)
  have b2 := bs_ok (p := fun k => !stB b (mapI o) s n k) (o.length - (best + 1)) (best + 1) o.length (by omega) (by omega) (fun i j h0 h1 h2 hi => by
    simp only [stB_eq (show i < o.length by omega), Bool.not_eq_true', decide_eq_false_iff_not] at hi
    simp only [stB_eq (show j < o.length by omega), Bool.not_eq_true', decide_eq_false_iff_not]
    intro hj
    by_cases e : i = j
    · subst e; exact hi hj
    · exact hi ((stands_between ho hb hl hj).2 (by omega) (by omega) h2))
  obtain ⟨a1, a2, a3, a4⟩ := b1
  obtain ⟨c1, c2, c3, c4⟩ := b2
  refine ⟨⟨a2, by omega, c2⟩, fun k hk => ?_⟩
  rcases Nat.lt_trichotomy k best with q | q | q
  · constructor
    · intro h
      refine ⟨?_, by omega⟩
      apply Classical.byContradiction
      intro hh
      have := a3 k (by omega) (by omega)
      simp only [stB_eq hk, decide_eq_false_iff_not] at this
      exact this h
    · intro h
      have := a4 k h.1 q
      simpa only [stB_eq hk, decide_eq_true_eq] using this
  · subst q
    exact ⟨fun _ => ⟨a2, by omega⟩, fun _ => by omega⟩
  · constructor
    · intro h
      refine ⟨by omega, ?_⟩
      apply Classical.byContradiction
      intro hh
      have := c4 k (by omega) hk
      simp only [stB_eq hk, Bool.not_eq_true', decide_eq_false_iff_not] at this
      exact this h
    · intro h
      have := c3 k (by omega) h.2
      simpa only [stB_eq hk, Bool.not_eq_false', decide_eq_true_eq] using this
theorem lon_at (ho : OrdOK b o) (hr : CloR b s o best n) (hn : 0 < n) {fr to : Nat} (hu : Run b s o best n fr to) {L : List Int} (hL : L = ((mapI o).drop fr).take (to - fr)) {x0 : Int} (hx0 : x0 ∈ L) :
    minL L x0 = ((lonF b s).1 : Int) ∧ n = (lonF b s).2 := by
  have hol := ho.len
  obtain ⟨l1, l2, l3⟩ := minL_spec L x0
  have hmem : ∀ x, x ∈ L ↔ ∃ (k : Nat) (hk : k < o.length), fr ≤ k ∧ k < to ∧ x = ((o[k] : Nat) : Int) := by
    intro x
    rw [hL, List.mem_iff_getElem]
    have := hu.le
    constructor
    · rintro ⟨i, hi, rfl⟩
      rw [List.length_take, List.length_drop, mapI_len] at hi
      refine ⟨fr + i, by omega, by omega, by omega, ?_⟩
      simp [mapI]
    · rintro ⟨k, hk, h1, h2, rfl⟩
      refine ⟨k - fr, by rw [List.length_take, List.length_drop, mapI_len]; omega, ?_⟩
      simp only [List.getElem_take, List.getElem_drop, mapI, List.getElem_map]
      congr 2
      omega
  have hin : minL L x0 ∈ L := by
    rcases l3 with h | h
    · rw [h]; exact hx0
    · exact h
  obtain ⟨k, hk, k1, k2, k3⟩ := (hmem _).1 hin
  have hlk : lc b s o k = n := Nat.le_antisymm (hr.max k hk) ((hu.iff k hk).2 ⟨k1, k2⟩)
  have hlc : ∀ k (hk : k < o.length), lc b s o k = lcp (b.drop o[k]) s := fun k hk => by unfold lc sf; rw [getD_at hk]
  have is : IsLon b s b.length (o[k], n) := by
    refine ⟨fun i hi => ?_, fun e => by simp only at e; omega, fun _ => ⟨ho.lt (List.getElem_mem hk), by rw [← hlc k hk]; exact hlk, fun i hi => ?_⟩⟩
    · have r := rank_lt ho hi
      have := hr.max _ r
      rw [hlc _ r, rank_at ho r] at this
      exact this
    · simp only at hi
      have hib : i < b.length := by have := ho.lt (List.getElem_mem hk); omega
      have r := rank_lt ho hib
      have h1 := hr.max _ r
      have e : lc b s o (o.idxOf i) = lcp (b.drop i) s := by rw [hlc _ r, rank_at ho r]
      rw [e] at h1
      simp only
      apply Classical.byContradiction
      intro hh
      have h2 := (hu.iff _ r).1 (by omega)
      have := l2 _ ((hmem _).2 ⟨_, r, h2.1, h2.2, rfl⟩)
      rw [k3, rank_at ho r] at this
      omega
  have := is.unique (lonF_ok b s)
  rw [← this]
  exact ⟨k3, rfl⟩
theorem lon_zero (ho : OrdOK b o) (hr : CloR b s o best 0) : lonF b s = (0, 0) := by
  refine (lonF_ok b s).unique ⟨fun i hi => ?_, fun _ => rfl, fun h => by simp at h⟩
  have r := rank_lt ho hi
  have h1 := hr.max _ r
  unfold lc sf at h1
  rw [getD_at r, rank_at ho r] at h1
  exact h1
end
def ctLon : Ctr := ⟨[slB, slI, slB], fun x => preClo x.1 x.2.1 x.2.2.1, fun x => [.agg [.int .i64 ((lonF x.1 x.2.2.1).1 : Nat), .int .i64 ((lonF x.1 x.2.2.1).2 : Nat)]], fun _ => []⟩
theorem lon_run (b o s : List Int) (hp : preClo b o s) (R : List Item → PS → Prop) : sy tt G0 C9 Try.f15.ntmps Try.f15.results.toList (QC ctLon (b, o, s, ())) R 1000 [.code (bodyOf Try.f15)] (entry [slB, slI, slB] (b, o, s, ())) := by
  have hp0 := hp
  obtain ⟨⟨hb, p, ho, rfl⟩, hs⟩ := hp
  have hol := ho.len
  have hcl : cloR b (mapI p) s = clo b s p p.length 0 p.length 0 0 := by unfold cloR; rw [nats_map]
  have hr := clo_spec (s := s) ho
  rw [vc_lon]
  refine ⟨hp0, ?_⟩
  rw [hcl]
  generalize clo b s p p.length 0 p.length 0 0 = r at hr
  obtain ⟨best, n⟩ := r
  simp only at hr ⊢
  refine bc_of (fun h => ?_) (fun h => ?_)
  · have h := of_decide_eq_true h
    obtain rfl : n = 0 := by omega
    refine QC.flat ?_ rfl rfl
    show [SV.agg [SV.int .i64 ((lonF b s).1 : Nat), SV.int .i64 ((lonF b s).2 : Nat)]] = _
    rw [lon_zero ho hr]; rfl
  · have h : ¬ ((n : Nat) : Int) = 0 := of_decide_eq_false h
    have hn : 0 < n := by omega
    obtain ⟨hbl, hlb⟩ := hr.at' hn
    have hu := run_ok ho hr hn
    have hns : n ≤ s.length := by rw [← hlb]; unfold lc; rw [lcp_comm]; exact lcp_le _ _
    have e1 : IntKind.i64.wrap ((best : Int) + 1) = ((best + 1 : Nat) : Int) := by rw [IntWalk.i64_in _ (by omega)]; omega
    have f1 : bsV (fun k => cap31 stB (((), (b, ()), (mapI p, ()), (s, ()), ((n : Int), ()), ()), ()) (k : Int)) 0 (best : Int) = ((bs (fun k => stB b (mapI p) s n k) best 0 best : Nat) : Int) := by
      unfold bsV
      rw [Int.sub_zero, Int.toNat_natCast]; rfl
    have f2 : bsV (fun k => !cap33 stB (((), (((), (b, ()), (mapI p, ()), (s, ()), ((n : Int), ()), ()), ()), ()), ()) (k : Int)) ((best + 1 : Nat) : Int) ((mapI p).length : Nat) = ((bs (fun k => !stB b (mapI p) s n k) (p.length - (best + 1)) (best + 1) p.length : Nat) : Int) := by
      unfold bsV
      rw [mapI_len, Int.toNat_natCast, Int.toNat_natCast]
      have : (((p.length : Nat) : Int) - ((best + 1 : Nat) : Int)).toNat = p.length - (best + 1) := by omega
      rw [this]
    rw [e1, f1, f2]
    have hul := hu.le
    generalize bs (fun k => stB b (mapI p) s n k) best 0 best = fr at hu hul
    generalize bs (fun k => !stB b (mapI p) s n k) (p.length - (best + 1)) (best + 1) p.length = to at hu hul
    have hpart : Px.part (mapI p) (some ((fr : Nat) : Int)) (some ((to : Nat) : Int)) = ((mapI p).drop fr).take (to - fr) := by
      simp only [Px.part, Int.toNat_natCast]
      first | done | rfl | (rw [List.drop_take])
    rw [hpart]
    have hlen : (((mapI p).drop fr).take (to - fr)).length = to - fr := by rw [List.length_take, List.length_drop, mapI_len]; omega
    have hx0 : gt (Sh.int .i64) (((mapI p).drop fr).take (to - fr)) 0 ∈ ((mapI p).drop fr).take (to - fr) := by
      have h0 : 0 < (((mapI p).drop fr).take (to - fr)).length := by omega
      rw [gt_eq h0]
      exact List.getElem_mem h0
    obtain ⟨k1, k2⟩ := lon_at ho hr hn hu rfl hx0
    have hfa : preFo 0 (best : Int) b (mapI p) s (n : Int) := ⟨⟨by omega, by omega, by rw [mapI_len]; omega, by rw [mapI_len]; omega⟩, by omega, by omega, hb, hs⟩
    have hfb : preFo ((best + 1 : Nat) : Int) ((mapI p).length : Nat) b (mapI p) s (n : Int) := ⟨⟨by omega, by rw [mapI_len]; omega, Int.le_refl _, by rw [mapI_len]; omega⟩, by omega, by omega, hb, hs⟩
    have hne : preNe (((mapI p).drop fr).take (to - fr)) := ⟨by rw [hlen]; omega, by rw [hlen]; omega⟩
    refine ⟨hfa, hfb, by omega, by omega, by rw [mapI_len]; omega, hne, ?_⟩
    · refine QC.flat ?_ rfl rfl
      show [SV.agg [SV.int .i64 ((lonF b s).1 : Nat), SV.int .i64 ((lonF b s).2 : Nat)]] = _
      rw [k1, k2]
theorem lon_held : Held Try.prog G0 15 ctLon := Held.run cx9 (fn := Try.f15) rfl rfl ⟨by decide, by decide⟩ fun x hp => lon_run x.1 x.2.1 x.2.2.1 hp _
def C10 : CV := (15, .inl ctLon) :: C9
theorem cx10 : CxOK Try.prog tt G0 C10 := cx9.cons lon_held (fn := Try.f15) rfl rfl rfl
end Go.Proofs.Ytijeaicbnfiegaa
