/-
  A part of the proof: what pieces of the program give; conditions: those of each theorem.
-/
import Derived.Test.YtjcknfkddbiobaaQ1
import Derived.Test.YtjcknfkddbiobaaHD
import Derived.Test.YtjcknfkddbiobaaQ0
set_option linter.unusedVariables false
namespace Go.Proofs.Ytjcknfkddbiobaa
open Go.Px Go.Ax
theorem minL_spec : ∀ (l : List Int) (m : Int), minL l m ≤ m ∧ (∀ x ∈ l, minL l m ≤ x) ∧ (minL l m = m ∨ minL l m ∈ l)
  | [], m => by
    simp only [minL]
    exact ⟨Int.le_refl _, (fun x h => by cases h), .inl trivial⟩
  | x :: l, m => by
    obtain ⟨h1, h2, h3⟩ := minL_spec l (min m x)
    simp only [minL]
    refine ⟨by omega, fun y hy => ?_, ?_⟩
    · rcases List.mem_cons.1 hy with rfl | hy
      · omega
      · exact h2 y hy
    · rcases h3 with h3 | h3
      · rcases (by omega : min m x = m ∨ min m x = x) with e | e
        · exact .inl (by rw [h3, e])
        · exact .inr (by rw [h3, e]; simp)
      · exact .inr (List.mem_cons_of_mem _ h3)
theorem stB_eq {b : List Int} {o : List Nat} {s : List Int} {n k : Nat} (hk : k < o.length) : stB b (mapI o) s n k = decide (n ≤ lc b s o k) := by
  unfold stB
  have g : gt (Sh.int .i64) (mapI o) (k : Int).toNat = ((o[k] : Nat) : Int) := gt_mapI hk
  rw [g, sfx_nat, Int.toNat_natCast, lcp_take]
  unfold lc sf
  rw [getD_at hk]
  refine decide_eq_decide.2 ?_
  omega
section
variable {b s : List Int} {o : List Nat} {best n : Nat}
/-- The suffixes that begin with the longest beginning stand from 'fr' to 'to'. -/
structure Run (b s : List Int) (o : List Nat) (best n fr to : Nat) : Prop where
  le : fr ≤ best ∧ best < to ∧ to ≤ o.length
  iff : ∀ k, k < o.length → (n ≤ lc b s o k ↔ fr ≤ k ∧ k < to)
theorem run_ok (ho : OrdOK b o) (hr : CloR b s o best n) (hn : 0 < n) :
    Run b s o best n (bs (fun k => stB b (mapI o) s n k) best 0 best) (bs (fun k => !stB b (mapI o) s n k) (o.length - (best + 1)) (best + 1) o.length) := by
  obtain ⟨hb, hl⟩ := hr.at' hn
  have b1 := bs_ok (p := fun k => stB b (mapI o) s n k) best 0 best (by omega) (by omega) (fun i j _ h1 h2 hi => by
    simp only [stB_eq (show i < o.length by omega), decide_eq_true_eq] at hi
    simp only [stB_eq (show j < o.length by omega), decide_eq_true_eq]
    by_cases e : i = j
    · subst e; exact hi
    · exact (stands_between ho hb hl hi).1 (by omega) h2)
  have b2 := bs_ok (p := fun k => !stB b (mapI o) s n k) (o.length - (best + 1)) (best + 1) o.length (by omega) (by omega) (fun i j h0 h1 h2 hi => by
    simp only [stB_eq (show i < o.length by omega), Bool.not_eq_true', decide_eq_false_iff_not] at hi
    simp only [stB_eq (show j < o.length by omega), Bool.not_eq_true', decide_eq_false_iff_not]
    intro hj
    by_cases e : i = j
    · subst e; exact hi hj
    · exact hi ((stands_between ho hb hl hj).2 (by omega) (by omega) h2))
  obtain ⟨a1, a2, a3, a4⟩ := b1
  obtain ⟨c1, c2, c3, c4⟩ := b2
  refine ⟨⟨a2, by omega, c2⟩, fun k hk => ?_⟩
  rcases Nat.lt_trichotomy k best with q | q | q
  · constructor
    · intro h
      refine ⟨?_, by omega⟩
      apply Classical.byContradiction
      intro hh
      have := a3 k (by omega) (by omega)
      simp only [stB_eq hk, decide_eq_false_iff_not] at this
      exact this h
    · intro h
      have := a4 k h.1 q
      simpa only [stB_eq hk, decide_eq_true_eq] using this
  · subst q
    exact ⟨fun _ => ⟨a2, by omega⟩, fun _ => by omega⟩
  · constructor
    · intro h
      refine ⟨by omega, ?_⟩
      apply Classical.byContradiction
      intro hh
      have := c4 k (by omega) hk
      simp only [stB_eq hk, Bool.not_eq_true', decide_eq_false_iff_not] at this
      exact this h
    · intro h
      have := c3 k (by omega) h.2
      simpa only [stB_eq hk, Bool.not_eq_false', decide_eq_true_eq] using this
theorem lon_at (ho : OrdOK b o) (hr : CloR b s o best n) (hn : 0 < n) {fr to : Nat} (hu : Run b s o best n fr to) {L : List Int} (hL : L = ((mapI o).drop fr).take (to - fr)) {x0 : Int} (hx0 : x0 ∈ L) :
    minL L x0 = ((lonF b s).1 : Int) ∧ n = (lonF b s).2 := by
  have hol := ho.len
  obtain ⟨l1, l2, l3⟩ := minL_spec L x0
  have hmem : ∀ x, x ∈ L ↔ ∃ (k : Nat) (hk : k < o.length), fr ≤ k ∧ k < to ∧ x = ((o[k] : Nat) : Int) := by
    intro x
    rw [hL, List.mem_iff_getElem]
    have := hu.le
    constructor
    · rintro ⟨i, hi, rfl⟩
      rw [List.length_take, List.length_drop, mapI_len] at hi
      refine ⟨fr + i, by omega, by omega, by omega, ?_⟩
      simp [mapI]
    · rintro ⟨k, hk, h1, h2, rfl⟩
      refine ⟨k - fr, by rw [List.length_take, List.length_drop, mapI_len]; omega, ?_⟩
      simp only [List.getElem_take, List.getElem_drop, mapI, List.getElem_map]
      congr 2
      omega
  have hin : minL L x0 ∈ L := by
    rcases l3 with h | h
    · rw [h]; exact hx0
    · exact h
  obtain ⟨k, hk, k1, k2, k3⟩ := (hmem _).1 hin
  have hlk : lc b s o k = n := Nat.le_antisymm (hr.max k hk) ((hu.iff k hk).2 ⟨k1, k2⟩)
  have hlc : ∀ k (hk : k < o.length), lc b s o k = lcp (b.drop o[k]) s := fun k hk => by unfold lc sf; rw [getD_at hk]
  have is : IsLon b s b.length (o[k], n) := by
    refine ⟨fun i hi => ?_, fun e => by simp only at e; omega, fun _ => ⟨ho.lt (List.getElem_mem hk), by rw [← hlc k hk]; exact hlk, fun i hi => ?_⟩⟩
    · have r := rank_lt ho hi
      have := hr.max _ r
      rw [hlc _ r, rank_at ho r] at this
      exact this
    · simp only at hi
      have hib : i < b.length := by have := ho.lt (List.getElem_mem hk); omega
      have r := rank_lt ho hib
      have h1 := hr.max _ r
      have e : lc b s o (o.idxOf i) = lcp (b.drop i) s := by rw [hlc _ r, rank_at ho r]
      rw [e] at h1
      simp only
      apply Classical.byContradiction
      intro hh
      have h2 := (hu.iff _ r).1 (by omega)
      have := l2 _ ((hmem _).2 ⟨_, r, h2.1, h2.2, rfl⟩)
      rw [k3, rank_at ho r] at this
      omega
  have := is.unique (lonF_ok b s)
  rw [← this]
  exact ⟨k3, rfl⟩
theorem lon_zero (ho : OrdOK b o) (hr : CloR b s o best 0) : lonF b s = (0, 0) := by
  refine (lonF_ok b s).unique ⟨fun i hi => ?_, fun _ => rfl, fun h => by simp at h⟩
  have r := rank_lt ho hi
  have h1 := hr.max _ r
  unfold lc sf at h1
  rw [getD_at r, rank_at ho r] at h1
  exact h1
end
def ctLon : Ctr := ⟨[slB, slI, slB], fun x => preClo x.1 x.2.1 x.2.2.1, fun x => [.agg [.int .i64 ((lonF x.1 x.2.2.1).1 : Nat), .int .i64 ((lonF x.1 x.2.2.1).2 : Nat)]], fun _ => []⟩
theorem lon_run (b o s : List Int) (hp : preClo b o s) (R : List Item → PS → Prop) : sy tt G0 C9 Try.f15.ntmps Try.f15.results.toList (QC ctLon (b, o, s, ())) R 1000 [.code (bodyOf Try.f15)] (entry [slB, slI, slB] (b, o, s, ())) := by
  have hp0 := hp
  obtain ⟨⟨hb, p, ho, rfl⟩, hs⟩ := hp
  have hol := ho.len
  have hcl : cloR b (mapI p) s = clo b s p p.length 0 p.length 0 0 := by unfold cloR; rw [nats_map]
  have hr := clo_spec (s := s) ho
  rw [vc_lon]
  refine ⟨hp0, ?_⟩
  rw [hcl]
  generalize clo b s p p.length 0 p.length 0 0 = r at hr
  obtain ⟨best, n⟩ := r
  simp only at hr ⊢
  refine bc_of (fun h => ?_) (fun h => ?_)
  · have h := of_decide_eq_true h
    obtain rfl : n = 0 := by omega
    refine QC.flat ?_ rfl rfl
    show [SV.agg [SV.int .i64 ((lonF b s).1 : Nat), SV.int .i64 ((lonF b s).2 : Nat)]] = _
    rw [lon_zero ho hr]; rfl
  · have h : ¬ ((n : Nat) : Int) = 0 := of_decide_eq_false h
    have hn : 0 < n := by omega
    obtain ⟨hbl, hlb⟩ := hr.at' hn
    have hu := run_ok ho hr hn
    have hns : n ≤ s.length := by rw [← hlb]; unfold lc; rw [lcp_comm]; exact lcp_le _ _
    have e1 : IntKind.i64.wrap ((best : Int) + 1) = ((best + 1 : Nat) : Int) := by rw [IntWalk.i64_in _ (by omega)]; omega
    have f1 : bsV (fun k => cap31 stB (((), (b, ()), (mapI p, ()), (s, ()), ((n : Int), ()), ()), ()) (k : Int)) 0 (best : Int) = ((bs (fun k => stB b (mapI p) s n k) best 0 best : Nat) : Int) := by
      unfold bsV
      rw [Int.sub_zero, Int.toNat_natCast]; rfl
    have f2 : bsV (fun k => !cap33 stB (((), (((), (b, ()), (mapI p, ()), (s, ()), ((n : Int), ()), ()), ()), ()), ()) (k : Int)) ((best + 1 : Nat) : Int) ((mapI p).length : Nat) = ((bs (fun k => !stB b (mapI p) s n k) (p.length - (best + 1)) (best + 1) p.length : Nat) : Int) := by
      unfold bsV
      rw [mapI_len, Int.toNat_natCast, Int.toNat_natCast]
      have : (((p.length : Nat) : Int) - ((best + 1 : Nat) : Int)).toNat = p.length - (best + 1) := by omega
      rw [this]
    rw [e1, f1, f2]
    have hul := hu.le
    generalize bs (fun k => stB b (mapI p) s n k) best 0 best = fr at hu hul
    generalize bs (fun k => !stB b (mapI p) s n k) (p.length - (best + 1)) (best + 1) p.length = to at hu hul
    have hpart : Px.part (mapI p) (some ((fr : Nat) : Int)) (some ((to : Nat) : Int)) = ((mapI p).drop fr).take (to - fr) := by
      simp only [Px.part, Int.toNat_natCast]
      first | done | rfl | (rw [List.drop_take])
    rw [hpart]
    have hlen : (((mapI p).drop fr).take (to - fr)).length = to - fr := by rw [List.length_take, List.length_drop, mapI_len]; omega
    have hx0 : gt (Sh.int .i64) (((mapI p).drop fr).take (to - fr)) 0 ∈ ((mapI p).drop fr).take (to - fr) := by
      have h0 : 0 < (((mapI p).drop fr).take (to - fr)).length := by omega
      rw [gt_eq h0]
      exact List.getElem_mem h0
    obtain ⟨k1, k2⟩ := lon_at ho hr hn hu rfl hx0
    have hfa : preFo 0 (best : Int) b (mapI p) s (n : Int) := ⟨⟨by omega, by omega, by rw [mapI_len]; omega, by rw [mapI_len]; omega⟩, by omega, by omega, hb, hs⟩
    have hfb : preFo ((best + 1 : Nat) : Int) ((mapI p).length : Nat) b (mapI p) s (n : Int) := ⟨⟨by omega, by rw [mapI_len]; omega, Int.le_refl _, by rw [mapI_len]; omega⟩, by omega, by omega, hb, hs⟩
    have hne : preNe (((mapI p).drop fr).take (to - fr)) := ⟨by rw [hlen]; omega, by rw [hlen]; omega⟩
    refine ⟨hfa, hfb, by omega, by omega, by rw [mapI_len]; omega, hne, ?_⟩
    · refine QC.flat ?_ rfl rfl
      show [SV.agg [SV.int .i64 ((lonF b s).1 : Nat), SV.int .i64 ((lonF b s).2 : Nat)]] = _
      rw [k1, k2]
theorem lon_held : Held Try.prog G0 15 ctLon := Held.run cx9 (fn := Try.f15) rfl rfl ⟨by decide, by decide⟩ fun x hp => lon_run x.1 x.2.1 x.2.2.1 hp _
def C10 : CV := (15, .inl ctLon) :: C9
theorem cx10 : CxOK Try.prog tt G0 C10 := cx9.cons lon_held (fn := Try.f15) rfl rfl rfl
end Go.Proofs.Ytjcknfkddbiobaa
namespace Go.Proofs.Ytjcknfkddbiobaa
open Go.Px Go.Ax
abbrev shP : Sh := .arr 2 (.int .i64)
set_option maxRecDepth 100000
theorem vc_isBefore (p q : List Int) (Q : List SV → List (Nat × LB) → Prop) (R : List Item → PS → Prop) : sy tt G0 [] Try.f25.ntmps Try.f25.results.toList Q R 1000 [.code (bodyOf Try.f25)] (entry [shP, shP] (p, q, ())) =
    ((0 : Int) ≤ (0 : Int) ∧
 (0 : Int) < (↑(2 : Nat) : Int) ∧
 Int.toNat (0 : Int) < (2 : Nat) ∧
 (0 : Int) ≤ (0 : Int) ∧
 (0 : Int) < (↑(2 : Nat) : Int) ∧
 Int.toNat (0 : Int) < (2 : Nat) ∧
 bc
 (decide
 (gt (Sh.int IntKind.i64) p (Int.toNat (0 : Int)) ≠ gt (Sh.int IntKind.i64) q (Int.toNat (0 : Int))))
 ((0 : Int) ≤ (0 : Int) ∧
 (0 : Int) < (↑(2 : Nat) : Int) ∧
 Int.toNat (0 : Int) < (2 : Nat) ∧
 (0 : Int) ≤ (0 : Int) ∧
 (0 : Int) < (↑(2 : Nat) : Int) ∧
 Int.toNat (0 : Int) < (2 : Nat) ∧
 Q
 [SV.bool
 (decide
 (gt (Sh.int IntKind.i64) p (Int.toNat (0 : Int)) <
 gt (Sh.int IntKind.i64) q (Int.toNat (0 : Int))))]
 [((2 : Nat), LB.var [SV.arr (2 : Nat) (Sh.int IntKind.i64) p]),
 ((3 : Nat), LB.var [SV.arr (2 : Nat) (Sh.int IntKind.i64) q])])
 ((0 : Int) ≤ (1 : Int) ∧
 (1 : Int) < (↑(2 : Nat) : Int) ∧
 Int.toNat (1 : Int) < (2 : Nat) ∧
 (0 : Int) ≤ (1 : Int) ∧
 (1 : Int) < (↑(2 : Nat) : Int) ∧
 Int.toNat (1 : Int) < (2 : Nat) ∧
 Q
 [SV.bool
 (decide
 (gt (Sh.int IntKind.i64) p (Int.toNat (1 : Int)) <
 gt (Sh.int IntKind.i64) q (Int.toNat (1 : Int))))]
 [((2 : Nat), LB.var [SV.arr (2 : Nat) (Sh.int IntKind.i64) p]),
 ((3 : Nat), LB.var [SV.arr (2 : Nat) (Sh.int IntKind.i64) q])])) := by kernel_rfl
theorem vc_pairs (r : List Int) (n : Int) (Q : List SV → List (Nat × LB) → Prop) (R : List Item → PS → Prop) : sy tt G0 [] Try.f22.ntmps Try.f22.results.toList Q R 1000 [.code (bodyOf Try.f22)] (entry [.sl (.int .i64), .int .i64] (r, n, ())) =
    ((0 : Int) ≤ (↑r.length : Int) ∧
 (↑r.length : Int) ≤ (↑r.length : Int) ∧
 (↑r.length : Int) < (2 : Int) ^ (24 : Nat) ∧
 (↑(16 : Nat) : Int) * (↑r.length : Int) ≤ (2 : Int) ^ (48 : Nat) ∧
 R (hd Try.f22 (0 : Nat))
 {
 env :=
 [((0 : Nat), SV.sl (Sh.int IntKind.i64) r), ((1 : Nat), SV.int IntKind.i64 n), ((4 : Nat), SV.nils),
 ((5 : Nat),
 SV.win true (Sh.arr (2 : Nat) (Sh.int IntKind.i64)) (10 : Nat) (0 : Nat) (↑r.length : Int).toNat),
 ((8 : Nat), SV.sl (Sh.int IntKind.i64) r), ((9 : Nat), SV.int IntKind.i64 (↑r.length : Int)),
 ((10 : Nat),
 SV.win true (Sh.arr (2 : Nat) (Sh.int IntKind.i64)) (10 : Nat) (0 : Nat) (↑r.length : Int).toNat),
 ((11 : Nat), SV.sl (Sh.int IntKind.i64) r), ((12 : Nat), SV.int IntKind.i64 (↑r.length : Int)),
 ((13 : Nat), SV.int IntKind.i64 (0 : Int))],
 blk :=
 [((10 : Nat),
 LB.row (45 : Nat) (Sh.arr (2 : Nat) (Sh.int IntKind.i64))
 (List.replicate (↑r.length : Int).toNat (Sh.arr (2 : Nat) (Sh.int IntKind.i64)).dflt))] }) := by kernel_rfl
theorem vc_ranks (o : List Int) (p : List (List Int)) (Q : List SV → List (Nat × LB) → Prop) (R : List Item → PS → Prop) : sy tt G0 [] Try.f26.ntmps Try.f26.results.toList Q R 1000 [.code (bodyOf Try.f26)] (entry [.sl (.int .i64), .sl shP] (o, p, ())) =
    ((0 : Int) ≤ (↑o.length : Int) ∧
 (↑o.length : Int) ≤ (↑o.length : Int) ∧
 (↑o.length : Int) < (2 : Int) ^ (24 : Nat) ∧
 (↑(8 : Nat) : Int) * (↑o.length : Int) ≤ (2 : Int) ^ (48 : Nat) ∧
 R (hd Try.f26 (0 : Nat))
 {
 env :=
 [((0 : Nat), SV.sl (Sh.int IntKind.i64) o), ((1 : Nat), SV.sl (Sh.arr (2 : Nat) (Sh.int IntKind.i64)) p),
 ((4 : Nat), SV.nils),
 ((5 : Nat), SV.win true (Sh.int IntKind.i64) (11 : Nat) (0 : Nat) (↑o.length : Int).toNat),
 ((6 : Nat), SV.int IntKind.i64 (0 : Int)), ((9 : Nat), SV.sl (Sh.int IntKind.i64) o),
 ((10 : Nat), SV.int IntKind.i64 (↑o.length : Int)),
 ((11 : Nat), SV.win true (Sh.int IntKind.i64) (11 : Nat) (0 : Nat) (↑o.length : Int).toNat),
 ((12 : Nat), SV.sl (Sh.int IntKind.i64) o), ((13 : Nat), SV.int IntKind.i64 (↑o.length : Int)),
 ((14 : Nat), SV.int IntKind.i64 (0 : Int))],
 blk :=
 [((11 : Nat),
 LB.row (3 : Nat) (Sh.int IntKind.i64)
 (List.replicate (↑o.length : Int).toNat (Sh.int IntKind.i64).dflt))] }) := by kernel_rfl
end Go.Proofs.Ytjcknfkddbiobaa
namespace Go.Proofs.Ytjcknfkddbiobaa
open Go.Px Go.Ax
abbrev G64 (l : List Int) (i : Nat) : Int := gt (Sh.int .i64) l i
/-- The order of pairs. -/
def pBef (p q : List Int) : Bool := bif decide (G64 p 0 = G64 q 0) then decide (G64 p 1 < G64 q 1) else decide (G64 p 0 < G64 q 0)
def ctBef : Ctr := ⟨[shP, shP], fun _ => True, fun x => [.bool (pBef x.1 x.2.1)], fun _ => []⟩
theorem bef_run (p q : List Int) (R : List Item → PS → Prop) : sy tt G0 [] Try.f25.ntmps Try.f25.results.toList (QC ctBef (p, q, ())) R 1000 [.code (bodyOf Try.f25)] (entry [shP, shP] (p, q, ())) := by
  refine (vc_isBefore p q _ _).mpr ⟨by decide, by decide, by decide, by decide, by decide, by decide, bc_of (fun h => ?_) (fun h => ?_)⟩
  · have h : G64 p 0 ≠ G64 q 0 := of_decide_eq_true h
    refine ⟨by decide, by decide, by decide, by decide, by decide, by decide, QC.flat ?_ rfl rfl⟩
    show [SV.bool (pBef p q)] = _
    unfold pBef
    rw [decide_eq_false h]
    rfl
  · have h : ¬ (G64 p 0 ≠ G64 q 0) := of_decide_eq_false h
    refine ⟨by decide, by decide, by decide, by decide, by decide, by decide, QC.flat ?_ rfl rfl⟩
    show [SV.bool (pBef p q)] = _
    unfold pBef
    rw [decide_eq_true (Classical.not_not.1 h)]
    rfl
theorem bef_held : Held Try.prog G0 25 ctBef := Held.run cx0 (fn := Try.f25) rfl rfl ⟨by decide, by decide⟩ fun x _ => bef_run x.1 x.2.1 _
def D1 : CV := [(25, .inl ctBef)]
theorem cxd1 : CxOK Try.prog tt G0 D1 := cx0.cons bef_held (fn := Try.f25) rfl rfl rfl
end Go.Proofs.Ytjcknfkddbiobaa
namespace Go.Proofs.Ytjcknfkddbiobaa
open Go.Px Go.Ax
abbrev slP : Sh := .sl shP
abbrev rP : AK := .row 45 shP
abbrev cap24 : List AK := [.ptr [rP]]
abbrev K24 : List AK := .dat (.int .i64) :: .dat (.int .i64) :: cap24
set_option maxRecDepth 100000
theorem vc_pairsL (r : List Int) (n : Int) (p : List (List Int)) (i : Int) (Q : List SV → List (Nat × LB) → Prop) (R : List Item → PS → Prop) : sy tt G0 [] Try.f22.ntmps Try.f22.results.toList Q R 1000 (hd Try.f22 0) ⟨[(0, .sl (.int .i64) r), (1, .int .i64 n), (5, .win true shP 10 0 p.length), (11, .sl (.int .i64) r), (12, .int .i64 r.length), (13, .int .i64 i)], [(10, .row 45 shP p)]⟩ =
    (bc (decide (i < (↑r.length : Int)))
 ((0 : Int) ≤ i ∧
 i < (↑r.length : Int) ∧
 (0 : Int) ≤ i ∧
 i < (↑p.length : Int) ∧
 (0 : Nat) + i.toNat < p.length ∧
 bc (decide (IntKind.i64.wrap (i + n) < (↑r.length : Int)))
 ((0 : Int) ≤ IntKind.i64.wrap (i + n) ∧
 IntKind.i64.wrap (i + n) < (↑r.length : Int) ∧
 (0 : Int) ≤ i ∧
 i < (↑p.length : Int) ∧
 (0 : Int) ≤ (1 : Int) ∧
 (1 : Int) < (↑(2 : Nat) : Int) ∧
 (0 : Nat) + i.toNat <
 (p.set ((0 : Nat) + i.toNat)
 ((List.set (Sh.arr (2 : Nat) (Sh.int IntKind.i64)).dflt (0 : Nat)
 (gt (Sh.int IntKind.i64) r i.toNat)).set
 (1 : Nat) (-1 : Int))).length ∧
 R (hd Try.f22 (0 : Nat))
 {
 env :=
 [((0 : Nat), SV.sl (Sh.int IntKind.i64) r), ((1 : Nat), SV.int IntKind.i64 n),
 ((5 : Nat),
 SV.win true (Sh.arr (2 : Nat) (Sh.int IntKind.i64)) (10 : Nat) (0 : Nat)
 p.length),
 ((6 : Nat), SV.int IntKind.i64 i),
 ((7 : Nat), SV.int IntKind.i64 (gt (Sh.int IntKind.i64) r i.toNat)),
 ((11 : Nat), SV.sl (Sh.int IntKind.i64) r),
 ((12 : Nat), SV.int IntKind.i64 (↑r.length : Int)),
 ((13 : Nat), SV.int IntKind.i64 (IntKind.i64.wrap (i + (1 : Int)))),
 ((14 : Nat), SV.bool (decide (i < (↑r.length : Int)))),
 ((15 : Nat), SV.int IntKind.i64 i),
 ((16 : Nat), SV.elv (Sh.int IntKind.i64) (gt (Sh.int IntKind.i64) r i.toNat)),
 ((17 : Nat), SV.int IntKind.i64 (gt (Sh.int IntKind.i64) r i.toNat)),
 ((18 : Nat),
 SV.win true (Sh.arr (2 : Nat) (Sh.int IntKind.i64)) (10 : Nat) (0 : Nat)
 p.length),
 ((19 : Nat), SV.int IntKind.i64 i),
 ((20 : Nat), SV.int IntKind.i64 (gt (Sh.int IntKind.i64) r i.toNat)),
 ((21 : Nat),
 SV.arr (2 : Nat) (Sh.int IntKind.i64)
 ((List.set (Sh.arr (2 : Nat) (Sh.int IntKind.i64)).dflt (0 : Nat)
 (gt (Sh.int IntKind.i64) r i.toNat)).set
 (1 : Nat) (-1 : Int))),
 ((22 : Nat),
 SV.elp (Sh.arr (2 : Nat) (Sh.int IntKind.i64)) (10 : Nat) ((0 : Nat) + i.toNat)
 (0 : Nat)),
 ((23 : Nat), SV.int IntKind.i64 i), ((24 : Nat), SV.int IntKind.i64 n),
 ((25 : Nat), SV.int IntKind.i64 (IntKind.i64.wrap (i + n))),
 ((26 : Nat), SV.sl (Sh.int IntKind.i64) r),
 ((27 : Nat), SV.int IntKind.i64 (↑r.length : Int)),
 ((28 : Nat), SV.bool (decide (IntKind.i64.wrap (i + n) < (↑r.length : Int)))),
 ((29 : Nat),
 SV.win true (Sh.arr (2 : Nat) (Sh.int IntKind.i64)) (10 : Nat) (0 : Nat)
 p.length),
 ((30 : Nat), SV.int IntKind.i64 i), ((31 : Nat), SV.sl (Sh.int IntKind.i64) r),
 ((32 : Nat), SV.int IntKind.i64 i), ((33 : Nat), SV.int IntKind.i64 n),
 ((34 : Nat), SV.int IntKind.i64 (IntKind.i64.wrap (i + n))),
 ((35 : Nat),
 SV.elv (Sh.int IntKind.i64)
 (gt (Sh.int IntKind.i64) r (IntKind.i64.wrap (i + n)).toNat)),
 ((36 : Nat),
 SV.int IntKind.i64 (gt (Sh.int IntKind.i64) r (IntKind.i64.wrap (i + n)).toNat)),
 ((37 : Nat),
 SV.elp (Sh.arr (2 : Nat) (Sh.int IntKind.i64)) (10 : Nat) ((0 : Nat) + i.toNat)
 (0 : Nat)),
 ((38 : Nat),
 SV.elp (Sh.arr (2 : Nat) (Sh.int IntKind.i64)) (10 : Nat) ((0 : Nat) + i.toNat)
 (1 : Nat)),
 ((39 : Nat), SV.int IntKind.i64 (IntKind.i64.wrap (i + (1 : Int))))],
 blk :=
 [((10 : Nat),
 LB.row (45 : Nat) (Sh.arr (2 : Nat) (Sh.int IntKind.i64))
 ((p.set ((0 : Nat) + i.toNat)
 ((List.set (Sh.arr (2 : Nat) (Sh.int IntKind.i64)).dflt (0 : Nat)
 (gt (Sh.int IntKind.i64) r i.toNat)).set
 (1 : Nat) (-1 : Int))).set
 ((0 : Nat) + i.toNat)
 (List.set
 (gt (Sh.arr (2 : Nat) (Sh.int IntKind.i64))
 (p.set ((0 : Nat) + i.toNat)
 ((List.set (Sh.arr (2 : Nat) (Sh.int IntKind.i64)).dflt (0 : Nat)
 (gt (Sh.int IntKind.i64) r i.toNat)).set
 (1 : Nat) (-1 : Int)))
 ((0 : Nat) + i.toNat))
 (Int.toNat (1 : Int) * (1 : Nat))
 (gt (Sh.int IntKind.i64) r (IntKind.i64.wrap (i + n)).toNat))))] })
 (R (hd Try.f22 (0 : Nat))
 {
 env :=
 [((0 : Nat), SV.sl (Sh.int IntKind.i64) r), ((1 : Nat), SV.int IntKind.i64 n),
 ((5 : Nat), SV.win true (Sh.arr (2 : Nat) (Sh.int IntKind.i64)) (10 : Nat) (0 : Nat) p.length),
 ((6 : Nat), SV.int IntKind.i64 i),
 ((7 : Nat), SV.int IntKind.i64 (gt (Sh.int IntKind.i64) r i.toNat)),
 ((11 : Nat), SV.sl (Sh.int IntKind.i64) r), ((12 : Nat), SV.int IntKind.i64 (↑r.length : Int)),
 ((13 : Nat), SV.int IntKind.i64 (IntKind.i64.wrap (i + (1 : Int)))),
 ((14 : Nat), SV.bool (decide (i < (↑r.length : Int)))), ((15 : Nat), SV.int IntKind.i64 i),
 ((16 : Nat), SV.elv (Sh.int IntKind.i64) (gt (Sh.int IntKind.i64) r i.toNat)),
 ((17 : Nat), SV.int IntKind.i64 (gt (Sh.int IntKind.i64) r i.toNat)),
 ((18 : Nat), SV.win true (Sh.arr (2 : Nat) (Sh.int IntKind.i64)) (10 : Nat) (0 : Nat) p.length),
 ((19 : Nat), SV.int IntKind.i64 i),
 ((20 : Nat), SV.int IntKind.i64 (gt (Sh.int IntKind.i64) r i.toNat)),
 ((21 : Nat),
 SV.arr (2 : Nat) (Sh.int IntKind.i64)
 ((List.set (Sh.arr (2 : Nat) (Sh.int IntKind.i64)).dflt (0 : Nat)
 (gt (Sh.int IntKind.i64) r i.toNat)).set
 (1 : Nat) (-1 : Int))),
 ((22 : Nat),
 SV.elp (Sh.arr (2 : Nat) (Sh.int IntKind.i64)) (10 : Nat) ((0 : Nat) + i.toNat) (0 : Nat)),
 ((23 : Nat), SV.int IntKind.i64 i), ((24 : Nat), SV.int IntKind.i64 n),
 ((25 : Nat), SV.int IntKind.i64 (IntKind.i64.wrap (i + n))),
 ((26 : Nat), SV.sl (Sh.int IntKind.i64) r), ((27 : Nat), SV.int IntKind.i64 (↑r.length : Int)),
 ((28 : Nat), SV.bool (decide (IntKind.i64.wrap (i + n) < (↑r.length : Int)))),
 ((39 : Nat), SV.int IntKind.i64 (IntKind.i64.wrap (i + (1 : Int))))],
 blk :=
 [((10 : Nat),
 LB.row (45 : Nat) (Sh.arr (2 : Nat) (Sh.int IntKind.i64))
 (p.set ((0 : Nat) + i.toNat)
 ((List.set (Sh.arr (2 : Nat) (Sh.int IntKind.i64)).dflt (0 : Nat)
 (gt (Sh.int IntKind.i64) r i.toNat)).set
 (1 : Nat) (-1 : Int))))] }))
 (Q [SV.win true (Sh.arr (2 : Nat) (Sh.int IntKind.i64)) (10 : Nat) (0 : Nat) p.length]
 [((10 : Nat), LB.row (45 : Nat) (Sh.arr (2 : Nat) (Sh.int IntKind.i64)) p)])) := by kernel_rfl
theorem vc_ranksL (o : List Int) (p : List (List Int)) (r : List Int) (c i : Int) (Q : List SV → List (Nat × LB) → Prop) (R : List Item → PS → Prop) : sy tt G0 [] Try.f26.ntmps Try.f26.results.toList Q R 1000 (hd Try.f26 0) ⟨[(0, .sl (.int .i64) o), (1, .sl shP p), (5, .win true (.int .i64) 11 0 r.length), (6, .int .i64 c), (12, .sl (.int .i64) o), (13, .int .i64 o.length), (14, .int .i64 i)], [(11, .row 3 (.int .i64) r)]⟩ =
    (bc (decide (i < (↑o.length : Int)))
 ((0 : Int) ≤ i ∧
 i < (↑o.length : Int) ∧
 bc (decide ((0 : Int) < i))
 ((0 : Int) ≤ gt (Sh.int IntKind.i64) o i.toNat ∧
 gt (Sh.int IntKind.i64) o i.toNat < (↑p.length : Int) ∧
 (0 : Int) ≤ IntKind.i64.wrap (i - (1 : Int)) ∧
 IntKind.i64.wrap (i - (1 : Int)) < (↑o.length : Int) ∧
 (0 : Int) ≤ gt (Sh.int IntKind.i64) o (IntKind.i64.wrap (i - (1 : Int))).toNat ∧
 gt (Sh.int IntKind.i64) o (IntKind.i64.wrap (i - (1 : Int))).toNat < (↑p.length : Int) ∧
 bc
 (bif true then
 !decide
 (gt (Sh.arr (2 : Nat) (Sh.int IntKind.i64)) p
 (Int.toNat (gt (Sh.int IntKind.i64) o i.toNat)) =
 gt (Sh.arr (2 : Nat) (Sh.int IntKind.i64)) p
 (Int.toNat (gt (Sh.int IntKind.i64) o (IntKind.i64.wrap (i - (1 : Int))).toNat)))
 else false)
 ((0 : Int) ≤ gt (Sh.int IntKind.i64) o i.toNat ∧
 gt (Sh.int IntKind.i64) o i.toNat < (↑r.length : Int) ∧
 (0 : Nat) + Int.toNat (gt (Sh.int IntKind.i64) o i.toNat) < r.length ∧
 R (hd Try.f26 (0 : Nat))
 {
 env :=
 [((0 : Nat), SV.sl (Sh.int IntKind.i64) o),
 ((1 : Nat), SV.sl (Sh.arr (2 : Nat) (Sh.int IntKind.i64)) p),
 ((5 : Nat), SV.win true (Sh.int IntKind.i64) (11 : Nat) (0 : Nat) r.length),
 ((6 : Nat), SV.int IntKind.i64 (IntKind.i64.wrap (c + (1 : Int)))),
 ((7 : Nat), SV.int IntKind.i64 i),
 ((8 : Nat), SV.int IntKind.i64 (gt (Sh.int IntKind.i64) o i.toNat)),
 ((12 : Nat), SV.sl (Sh.int IntKind.i64) o),
 ((13 : Nat), SV.int IntKind.i64 (↑o.length : Int)),
 ((14 : Nat), SV.int IntKind.i64 (IntKind.i64.wrap (i + (1 : Int)))),
 ((15 : Nat), SV.bool (decide (i < (↑o.length : Int)))),
 ((16 : Nat), SV.int IntKind.i64 i),
 ((17 : Nat), SV.elv (Sh.int IntKind.i64) (gt (Sh.int IntKind.i64) o i.toNat)),
 ((18 : Nat), SV.int IntKind.i64 (gt (Sh.int IntKind.i64) o i.toNat)),
 ((19 : Nat), SV.int IntKind.i64 i), ((20 : Nat), SV.bool (decide ((0 : Int) < i))),
 ((21 : Nat), SV.bool true),
 ((22 : Nat), SV.sl (Sh.arr (2 : Nat) (Sh.int IntKind.i64)) p),
 ((23 : Nat), SV.int IntKind.i64 (gt (Sh.int IntKind.i64) o i.toNat)),
 ((24 : Nat),
 SV.elv (Sh.arr (2 : Nat) (Sh.int IntKind.i64))
 (gt (Sh.arr (2 : Nat) (Sh.int IntKind.i64)) p
 (Int.toNat (gt (Sh.int IntKind.i64) o i.toNat)))),
 ((25 : Nat),
 SV.arr (2 : Nat) (Sh.int IntKind.i64)
 (gt (Sh.arr (2 : Nat) (Sh.int IntKind.i64)) p
 (Int.toNat (gt (Sh.int IntKind.i64) o i.toNat)))),
 ((26 : Nat), SV.sl (Sh.arr (2 : Nat) (Sh.int IntKind.i64)) p),
 ((27 : Nat), SV.sl (Sh.int IntKind.i64) o), ((28 : Nat), SV.int IntKind.i64 i),
 ((29 : Nat), SV.int IntKind.i64 (IntKind.i64.wrap (i - (1 : Int)))),
 ((30 : Nat),
 SV.elv (Sh.int IntKind.i64)
 (gt (Sh.int IntKind.i64) o (IntKind.i64.wrap (i - (1 : Int))).toNat)),
 ((31 : Nat),
 SV.int IntKind.i64
 (gt (Sh.int IntKind.i64) o (IntKind.i64.wrap (i - (1 : Int))).toNat)),
 ((32 : Nat),
 SV.elv (Sh.arr (2 : Nat) (Sh.int IntKind.i64))
 (gt (Sh.arr (2 : Nat) (Sh.int IntKind.i64)) p
 (Int.toNat
 (gt (Sh.int IntKind.i64) o (IntKind.i64.wrap (i - (1 : Int))).toNat)))),
 ((33 : Nat),
 SV.arr (2 : Nat) (Sh.int IntKind.i64)
 (gt (Sh.arr (2 : Nat) (Sh.int IntKind.i64)) p
 (Int.toNat
 (gt (Sh.int IntKind.i64) o (IntKind.i64.wrap (i - (1 : Int))).toNat)))),
 ((34 : Nat),
 SV.bool
 !decide
 (gt (Sh.arr (2 : Nat) (Sh.int IntKind.i64)) p
 (Int.toNat (gt (Sh.int IntKind.i64) o i.toNat)) =
 gt (Sh.arr (2 : Nat) (Sh.int IntKind.i64)) p
 (Int.toNat
 (gt (Sh.int IntKind.i64) o
 (IntKind.i64.wrap (i - (1 : Int))).toNat)))),
 ((35 : Nat),
 SV.bool
 (bif true then
 !decide
 (gt (Sh.arr (2 : Nat) (Sh.int IntKind.i64)) p
 (Int.toNat (gt (Sh.int IntKind.i64) o i.toNat)) =
 gt (Sh.arr (2 : Nat) (Sh.int IntKind.i64)) p
 (Int.toNat
 (gt (Sh.int IntKind.i64) o
 (IntKind.i64.wrap (i - (1 : Int))).toNat)))
 else false)),
 ((36 : Nat), SV.int IntKind.i64 c),
 ((37 : Nat), SV.int IntKind.i64 (IntKind.i64.wrap (c + (1 : Int)))),
 ((38 : Nat), SV.win true (Sh.int IntKind.i64) (11 : Nat) (0 : Nat) r.length),
 ((39 : Nat), SV.int IntKind.i64 (gt (Sh.int IntKind.i64) o i.toNat)),
 ((40 : Nat), SV.int IntKind.i64 (IntKind.i64.wrap (c + (1 : Int)))),
 ((41 : Nat),
 SV.elp (Sh.int IntKind.i64) (11 : Nat)
 ((0 : Nat) + Int.toNat (gt (Sh.int IntKind.i64) o i.toNat)) (0 : Nat)),
 ((42 : Nat), SV.int IntKind.i64 (IntKind.i64.wrap (i + (1 : Int))))],
 blk :=
 [((11 : Nat),
 LB.row (3 : Nat) (Sh.int IntKind.i64)
 (r.set ((0 : Nat) + Int.toNat (gt (Sh.int IntKind.i64) o i.toNat))
 (IntKind.i64.wrap (c + (1 : Int)))))] })
 ((0 : Int) ≤ gt (Sh.int IntKind.i64) o i.toNat ∧
 gt (Sh.int IntKind.i64) o i.toNat < (↑r.length : Int) ∧
 (0 : Nat) + Int.toNat (gt (Sh.int IntKind.i64) o i.toNat) < r.length ∧
 R (hd Try.f26 (0 : Nat))
 {
 env :=
 [((0 : Nat), SV.sl (Sh.int IntKind.i64) o),
 ((1 : Nat), SV.sl (Sh.arr (2 : Nat) (Sh.int IntKind.i64)) p),
 ((5 : Nat), SV.win true (Sh.int IntKind.i64) (11 : Nat) (0 : Nat) r.length),
 ((6 : Nat), SV.int IntKind.i64 c), ((7 : Nat), SV.int IntKind.i64 i),
 ((8 : Nat), SV.int IntKind.i64 (gt (Sh.int IntKind.i64) o i.toNat)),
 ((12 : Nat), SV.sl (Sh.int IntKind.i64) o),
 ((13 : Nat), SV.int IntKind.i64 (↑o.length : Int)),
 ((14 : Nat), SV.int IntKind.i64 (IntKind.i64.wrap (i + (1 : Int)))),
 ((15 : Nat), SV.bool (decide (i < (↑o.length : Int)))),
 ((16 : Nat), SV.int IntKind.i64 i),
 ((17 : Nat), SV.elv (Sh.int IntKind.i64) (gt (Sh.int IntKind.i64) o i.toNat)),
 ((18 : Nat), SV.int IntKind.i64 (gt (Sh.int IntKind.i64) o i.toNat)),
 ((19 : Nat), SV.int IntKind.i64 i), ((20 : Nat), SV.bool (decide ((0 : Int) < i))),
 ((21 : Nat), SV.bool true),
 ((22 : Nat), SV.sl (Sh.arr (2 : Nat) (Sh.int IntKind.i64)) p),
 ((23 : Nat), SV.int IntKind.i64 (gt (Sh.int IntKind.i64) o i.toNat)),
 ((24 : Nat),
 SV.elv (Sh.arr (2 : Nat) (Sh.int IntKind.i64))
 (gt (Sh.arr (2 : Nat) (Sh.int IntKind.i64)) p
 (Int.toNat (gt (Sh.int IntKind.i64) o i.toNat)))),
 ((25 : Nat),
 SV.arr (2 : Nat) (Sh.int IntKind.i64)
 (gt (Sh.arr (2 : Nat) (Sh.int IntKind.i64)) p
 (Int.toNat (gt (Sh.int IntKind.i64) o i.toNat)))),
 ((26 : Nat), SV.sl (Sh.arr (2 : Nat) (Sh.int IntKind.i64)) p),
 ((27 : Nat), SV.sl (Sh.int IntKind.i64) o), ((28 : Nat), SV.int IntKind.i64 i),
 ((29 : Nat), SV.int IntKind.i64 (IntKind.i64.wrap (i - (1 : Int)))),
 ((30 : Nat),
 SV.elv (Sh.int IntKind.i64)
 (gt (Sh.int IntKind.i64) o (IntKind.i64.wrap (i - (1 : Int))).toNat)),
 ((31 : Nat),
 SV.int IntKind.i64
 (gt (Sh.int IntKind.i64) o (IntKind.i64.wrap (i - (1 : Int))).toNat)),
 ((32 : Nat),
 SV.elv (Sh.arr (2 : Nat) (Sh.int IntKind.i64))
 (gt (Sh.arr (2 : Nat) (Sh.int IntKind.i64)) p
 (Int.toNat
 (gt (Sh.int IntKind.i64) o (IntKind.i64.wrap (i - (1 : Int))).toNat)))),
 ((33 : Nat),
 SV.arr (2 : Nat) (Sh.int IntKind.i64)
 (gt (Sh.arr (2 : Nat) (Sh.int IntKind.i64)) p
 (Int.toNat
 (gt (Sh.int IntKind.i64) o (IntKind.i64.wrap (i - (1 : Int))).toNat)))),
 ((34 : Nat),
 SV.bool
 !decide
 (gt (Sh.arr (2 : Nat) (Sh.int IntKind.i64)) p
 (Int.toNat (gt (Sh.int IntKind.i64) o i.toNat)) =
 gt (Sh.arr (2 : Nat) (Sh.int IntKind.i64)) p
 (Int.toNat
 (gt (Sh.int IntKind.i64) o
 (IntKind.i64.wrap (i - (1 : Int))).toNat)))),
 ((35 : Nat),
 SV.bool
 (bif true then
 !decide
 (gt (Sh.arr (2 : Nat) (Sh.int IntKind.i64)) p
 (Int.toNat (gt (Sh.int IntKind.i64) o i.toNat)) =
 gt (Sh.arr (2 : Nat) (Sh.int IntKind.i64)) p
 (Int.toNat
 (gt (Sh.int IntKind.i64) o
 (IntKind.i64.wrap (i - (1 : Int))).toNat)))
 else false)),
 ((38 : Nat), SV.win true (Sh.int IntKind.i64) (11 : Nat) (0 : Nat) r.length),
 ((39 : Nat), SV.int IntKind.i64 (gt (Sh.int IntKind.i64) o i.toNat)),
 ((40 : Nat), SV.int IntKind.i64 c),
 ((41 : Nat),
 SV.elp (Sh.int IntKind.i64) (11 : Nat)
 ((0 : Nat) + Int.toNat (gt (Sh.int IntKind.i64) o i.toNat)) (0 : Nat)),
 ((42 : Nat), SV.int IntKind.i64 (IntKind.i64.wrap (i + (1 : Int))))],
 blk :=
 [((11 : Nat),
 LB.row (3 : Nat) (Sh.int IntKind.i64)
 (r.set ((0 : Nat) + Int.toNat (gt (Sh.int IntKind.i64) o i.toNat)) c))] }))
 (false = false ∧
 (0 : Int) ≤ gt (Sh.int IntKind.i64) o i.toNat ∧
 gt (Sh.int IntKind.i64) o i.toNat < (↑r.length : Int) ∧
 (0 : Nat) + Int.toNat (gt (Sh.int IntKind.i64) o i.toNat) < r.length ∧
 R (hd Try.f26 (0 : Nat))
 {
 env :=
 [((0 : Nat), SV.sl (Sh.int IntKind.i64) o),
 ((1 : Nat), SV.sl (Sh.arr (2 : Nat) (Sh.int IntKind.i64)) p),
 ((5 : Nat), SV.win true (Sh.int IntKind.i64) (11 : Nat) (0 : Nat) r.length),
 ((6 : Nat), SV.int IntKind.i64 c), ((7 : Nat), SV.int IntKind.i64 i),
 ((8 : Nat), SV.int IntKind.i64 (gt (Sh.int IntKind.i64) o i.toNat)),
 ((12 : Nat), SV.sl (Sh.int IntKind.i64) o), ((13 : Nat), SV.int IntKind.i64 (↑o.length : Int)),
 ((14 : Nat), SV.int IntKind.i64 (IntKind.i64.wrap (i + (1 : Int)))),
 ((15 : Nat), SV.bool (decide (i < (↑o.length : Int)))), ((16 : Nat), SV.int IntKind.i64 i),
 ((17 : Nat), SV.elv (Sh.int IntKind.i64) (gt (Sh.int IntKind.i64) o i.toNat)),
 ((18 : Nat), SV.int IntKind.i64 (gt (Sh.int IntKind.i64) o i.toNat)),
 ((19 : Nat), SV.int IntKind.i64 i), ((20 : Nat), SV.bool (decide ((0 : Int) < i))),
 ((21 : Nat), SV.bool false), ((35 : Nat), SV.bool false),
 ((38 : Nat), SV.win true (Sh.int IntKind.i64) (11 : Nat) (0 : Nat) r.length),
 ((39 : Nat), SV.int IntKind.i64 (gt (Sh.int IntKind.i64) o i.toNat)),
 ((40 : Nat), SV.int IntKind.i64 c),
 ((41 : Nat),
 SV.elp (Sh.int IntKind.i64) (11 : Nat)
 ((0 : Nat) + Int.toNat (gt (Sh.int IntKind.i64) o i.toNat)) (0 : Nat)),
 ((42 : Nat), SV.int IntKind.i64 (IntKind.i64.wrap (i + (1 : Int))))],
 blk :=
 [((11 : Nat),
 LB.row (3 : Nat) (Sh.int IntKind.i64)
 (r.set ((0 : Nat) + Int.toNat (gt (Sh.int IntKind.i64) o i.toNat)) c))] }))
 (Q [SV.win true (Sh.int IntKind.i64) (11 : Nat) (0 : Nat) r.length]
 [((11 : Nat), LB.row (3 : Nat) (Sh.int IntKind.i64) r)])) := by kernel_rfl
theorem vc_pb (i j : Int) (p : List (List Int)) (Q : List SV → List (Nat × LB) → Prop) (R : List Item → PS → Prop) : sy tt G0 D1 Try.f24.ntmps Try.f24.results.toList Q R 1000 [.code (bodyOf Try.f24)] (entryI K24 (i, j, (p, ()), ())) =
    ((0 : Int) ≤ i ∧
 i < (↑p.length : Int) ∧
 (0 : Nat) + i.toNat < p.length ∧
 (0 : Int) ≤ j ∧
 j < (↑p.length : Int) ∧
 (0 : Nat) + j.toNat < p.length ∧
 ctBef.pre
 (gt (Sh.arr (2 : Nat) (Sh.int IntKind.i64)) p ((0 : Nat) + i.toNat),
 gt (Sh.arr (2 : Nat) (Sh.int IntKind.i64)) p ((0 : Nat) + j.toNat), ()) ∧
 Q
 [SV.bool
 (pBef (gt (Sh.arr (2 : Nat) (Sh.int IntKind.i64)) p ((0 : Nat) + i.toNat))
 (gt (Sh.arr (2 : Nat) (Sh.int IntKind.i64)) p ((0 : Nat) + j.toNat)))]
 [((1099511627776 : Nat),
 LB.var
 [SV.win true (Sh.arr (2 : Nat) (Sh.int IntKind.i64)) (1099511627777 : Nat) (0 : Nat) p.length]),
 ((1099511627777 : Nat), LB.row (45 : Nat) (Sh.arr (2 : Nat) (Sh.int IntKind.i64)) p)]) := by kernel_rfl
end Go.Proofs.Ytjcknfkddbiobaa
namespace Go.Proofs.Ytjcknfkddbiobaa
open Go.Px Go.Ax
/-- Whether the pair at i is before the one at j. -/
def pbB (p : List (List Int)) (i j : Int) : Bool := pBef (gt shP p i.toNat) (gt shP p j.toNat)
def prePb (p : List (List Int)) (i j : Int) : Prop := 0 ≤ i ∧ i < p.length ∧ 0 ≤ j ∧ j < p.length
def ctPb : CtrI := ⟨K24, fun x => prePb x.2.2.1.1 x.1 x.2.1, fun x => [.bool (pbB x.2.2.1.1 x.1 x.2.1)], fun x => bkKL 0 K24 x⟩
theorem pb_run (i j : Int) (p : List (List Int)) (hp : prePb p i j) (R : List Item → PS → Prop) : sy tt G0 D1 Try.f24.ntmps Try.f24.results.toList (QI ctPb (i, j, (p, ()), ())) R 1000 [.code (bodyOf Try.f24)] (entryI K24 (i, j, (p, ()), ())) := by
  obtain ⟨h0, h1, h2, h3⟩ := hp
  refine (vc_pb _ _ _ _ _).mpr ⟨h0, h1, by omega, h2, h3, by omega, trivial, ?_⟩
  rw [Nat.zero_add, Nat.zero_add]
  refine QI.self rfl rfl rfl ?_
  intro p hp
  simp only [ctPb, bkKL, bkK, cnt, cntL, List.append_nil, List.nil_append, List.mem_append, List.mem_cons, List.mem_singleton, List.not_mem_nil, or_false] at hp
  rcases hp with rfl | rfl <;> rfl
theorem pb_held : HeldI Try.prog G0 24 ctPb := HeldI.run cxd1 (fn := Try.f24) rfl rfl ⟨by decide, by decide⟩ fun x hp => pb_run x.1 x.2.1 x.2.2.1.1 hp _
def D2 : CV := (24, .inr ctPb) :: D1
theorem cxd2 : CxOK Try.prog tt G0 D2 := cxd1.consI pb_held (fn := Try.f24) rfl rfl rfl
end Go.Proofs.Ytjcknfkddbiobaa
namespace Go.Proofs.Ytjcknfkddbiobaa
open Go.Px Go.Ax
abbrev fn24 : AK := .fn 24 [] cap24
abbrev wI : AK := .win 3 (.int .i64)
abbrev rI : AK := .row 3 (.int .i64)
abbrev K36 : List AK := [rI, wI, .dat (.int .i64), fn24]
abbrev K35 : List AK := [rI, wI, fn24]
set_option maxRecDepth 100000
theorem vc_merge (s : List Int) (lo n : Nat) (l : List Int) (h : Int) (p : List (List Int)) (Q : List SV → List (Nat × LB) → Prop) (R : List Item → PS → Prop) : sy tt G0 D2 Try.f36.ntmps Try.f36.results.toList Q R 1000 [.code (bodyOf Try.f36)] (entryI K36 (s, (lo, n, l), h, ((), ((p, ()), ())), ())) =
    ((0 : Int) ≤ h ∧
 h ≤ (↑n : Int) ∧
 lo + n ≤ l.length ∧
 lo + (0 : Nat) + (h.toNat - (0 : Nat)) ≤ l.length ∧
 (0 : Nat) + s.length ≤ s.length ∧
 (0 : Int) ≤
 (↑(min (winL (Sh.int IntKind.i64) (lo + (0 : Nat)) (h.toNat - (0 : Nat)) l).length s.length) : Int) ∧
 (↑(min (winL (Sh.int IntKind.i64) (lo + (0 : Nat)) (h.toNat - (0 : Nat)) l).length s.length) : Int) ≤
 (↑s.length : Int) ∧
 (0 : Nat) + s.length ≤
 (setRow s (0 : Nat)
 (List.take s.length
 (winL (Sh.int IntKind.i64) (lo + (0 : Nat)) (h.toNat - (0 : Nat)) l))).length ∧
 (0 : Int) ≤ h ∧
 h ≤ (↑n : Int) ∧
 lo + n ≤ l.length ∧
 R (hd Try.f36 (0 : Nat))
 {
 env :=
 [((0 : Nat), SV.win true (Sh.int IntKind.i64) (1099511627776 : Nat) (0 : Nat) s.length),
 ((1 : Nat), SV.win false (Sh.int IntKind.i64) (1099511627777 : Nat) lo n),
 ((2 : Nat), SV.int IntKind.i64 h),
 ((3 : Nat), SV.fn (24 : Nat) [] [SV.ptr (1099511627778 : Nat) (0 : Nat)]),
 ((8 : Nat),
 SV.win false (Sh.int IntKind.i64) (1099511627776 : Nat) (0 : Nat)
 ((↑(min (winL (Sh.int IntKind.i64) (lo + (0 : Nat)) (h.toNat - (0 : Nat)) l).length
 s.length) :
 Int).toNat -
 (0 : Nat))),
 ((9 : Nat),
 SV.win false (Sh.int IntKind.i64) (1099511627777 : Nat) (lo + h.toNat) (n - h.toNat)),
 ((10 : Nat), SV.int IntKind.i64 (0 : Int)),
 ((11 : Nat), SV.win true (Sh.int IntKind.i64) (1099511627776 : Nat) (0 : Nat) s.length),
 ((12 : Nat), SV.win true (Sh.int IntKind.i64) (1099511627776 : Nat) (0 : Nat) s.length),
 ((13 : Nat), SV.win false (Sh.int IntKind.i64) (1099511627777 : Nat) lo n),
 ((14 : Nat), SV.int IntKind.i64 h),
 ((15 : Nat),
 SV.win false (Sh.int IntKind.i64) (1099511627777 : Nat) (lo + (0 : Nat))
 (h.toNat - (0 : Nat))),
 ((16 : Nat),
 SV.int IntKind.i64
 (↑(min (winL (Sh.int IntKind.i64) (lo + (0 : Nat)) (h.toNat - (0 : Nat)) l).length
 s.length) :
 Int)),
 ((17 : Nat),
 SV.win false (Sh.int IntKind.i64) (1099511627776 : Nat) (0 : Nat)
 ((↑(min (winL (Sh.int IntKind.i64) (lo + (0 : Nat)) (h.toNat - (0 : Nat)) l).length
 s.length) :
 Int).toNat -
 (0 : Nat))),
 ((18 : Nat), SV.win false (Sh.int IntKind.i64) (1099511627777 : Nat) lo n),
 ((19 : Nat), SV.int IntKind.i64 h),
 ((20 : Nat),
 SV.win false (Sh.int IntKind.i64) (1099511627777 : Nat) (lo + h.toNat) (n - h.toNat))],
 blk :=
 [((1099511627776 : Nat),
 LB.row (3 : Nat) (Sh.int IntKind.i64)
 (setRow s (0 : Nat)
 (List.take s.length
 (winL (Sh.int IntKind.i64) (lo + (0 : Nat)) (h.toNat - (0 : Nat)) l)))),
 ((1099511627777 : Nat), LB.row (3 : Nat) (Sh.int IntKind.i64) l),
 ((1099511627778 : Nat),
 LB.var
 [SV.win true (Sh.arr (2 : Nat) (Sh.int IntKind.i64)) (1099511627779 : Nat) (0 : Nat)
 p.length]),
 ((1099511627779 : Nat), LB.row (45 : Nat) (Sh.arr (2 : Nat) (Sh.int IntKind.i64)) p)] }) := by kernel_rfl
theorem vc_mergeL (s : List Int) (lo n : Nat) (l : List Int) (a na b nb : Nat) (k : Int) (p : List (List Int)) (Q : List SV → List (Nat × LB) → Prop) (R : List Item → PS → Prop) : sy tt G0 D2 Try.f36.ntmps Try.f36.results.toList Q R 1000 (hd Try.f36 0) ⟨[(1, .win false (.int .i64) 1099511627777 lo n), (3, .fn 24 [] [.ptr 1099511627778 0]), (8, .win false (.int .i64) 1099511627776 a na), (9, .win false (.int .i64) 1099511627777 b nb), (10, .int .i64 k)], [(1099511627776, .row 3 (.int .i64) s), (1099511627777, .row 3 (.int .i64) l), (1099511627778, .var [.win true shP 1099511627779 0 p.length]), (1099511627779, .row 45 shP p)]⟩ =
    (bc (decide ((0 : Int) < (↑na : Int)))
 (bc (decide ((0 : Int) < (↑nb : Int)))
 ((0 : Int) ≤ (0 : Int) ∧
 (0 : Int) < (↑nb : Int) ∧
 b + Int.toNat (0 : Int) < l.length ∧
 (0 : Int) ≤ (0 : Int) ∧
 (0 : Int) < (↑na : Int) ∧
 a + Int.toNat (0 : Int) < s.length ∧
 p.length = p.length ∧
 ctPb.pre
 (gt (Sh.int IntKind.i64) l (b + Int.toNat (0 : Int)),
 gt (Sh.int IntKind.i64) s (a + Int.toNat (0 : Int)), (p, ()), ()) ∧
 bc
 (bif true then
 pbB p (gt (Sh.int IntKind.i64) l (b + Int.toNat (0 : Int)))
 (gt (Sh.int IntKind.i64) s (a + Int.toNat (0 : Int)))
 else false)
 ((0 : Int) ≤ (0 : Int) ∧
 (0 : Int) < (↑nb : Int) ∧
 b + Int.toNat (0 : Int) < l.length ∧
 (0 : Int) ≤ (1 : Int) ∧
 (1 : Int) ≤ (↑nb : Int) ∧
 b + nb ≤ l.length ∧
 (0 : Int) ≤ k ∧
 k < (↑n : Int) ∧
 lo + k.toNat < l.length ∧
 R (hd Try.f36 (0 : Nat))
 {
 env :=
 [((1 : Nat),
 SV.win false (Sh.int IntKind.i64) (1099511627777 : Nat) lo n),
 ((3 : Nat),
 SV.fn (24 : Nat) [] [SV.ptr (1099511627778 : Nat) (0 : Nat)]),
 ((8 : Nat),
 SV.win false (Sh.int IntKind.i64) (1099511627776 : Nat) a na),
 ((9 : Nat),
 SV.win false (Sh.int IntKind.i64) (1099511627777 : Nat)
 (b + Int.toNat (1 : Int)) (nb - Int.toNat (1 : Int))),
 ((10 : Nat), SV.int IntKind.i64 (IntKind.i64.wrap (k + (1 : Int)))),
 ((21 : Nat),
 SV.win false (Sh.int IntKind.i64) (1099511627776 : Nat) a na),
 ((22 : Nat), SV.int IntKind.i64 (↑na : Int)),
 ((23 : Nat), SV.bool (decide ((0 : Int) < (↑na : Int)))),
 ((24 : Nat), SV.int IntKind.i64 k),
 ((25 : Nat), SV.int IntKind.i64 (IntKind.i64.wrap (k + (1 : Int)))),
 ((26 : Nat),
 SV.win false (Sh.int IntKind.i64) (1099511627777 : Nat) b nb),
 ((27 : Nat), SV.int IntKind.i64 (↑nb : Int)),
 ((28 : Nat), SV.bool (decide ((0 : Int) < (↑nb : Int)))),
 ((29 : Nat), SV.bool true),
 ((30 : Nat),
 SV.fn (24 : Nat) [] [SV.ptr (1099511627778 : Nat) (0 : Nat)]),
 ((31 : Nat),
 SV.win false (Sh.int IntKind.i64) (1099511627777 : Nat) b nb),
 ((32 : Nat),
 SV.elp (Sh.int IntKind.i64) (1099511627777 : Nat)
 (b + Int.toNat (0 : Int)) (0 : Nat)),
 ((33 : Nat),
 SV.int IntKind.i64
 (gt (Sh.int IntKind.i64) l (b + Int.toNat (0 : Int)))),
 ((34 : Nat),
 SV.win false (Sh.int IntKind.i64) (1099511627776 : Nat) a na),
 ((35 : Nat),
 SV.elp (Sh.int IntKind.i64) (1099511627776 : Nat)
 (a + Int.toNat (0 : Int)) (0 : Nat)),
 ((36 : Nat),
 SV.int IntKind.i64
 (gt (Sh.int IntKind.i64) s (a + Int.toNat (0 : Int)))),
 ((37 : Nat),
 SV.bool
 (pbB p (gt (Sh.int IntKind.i64) l (b + Int.toNat (0 : Int)))
 (gt (Sh.int IntKind.i64) s (a + Int.toNat (0 : Int))))),
 ((38 : Nat),
 SV.bool
 (bif true then
 pbB p (gt (Sh.int IntKind.i64) l (b + Int.toNat (0 : Int)))
 (gt (Sh.int IntKind.i64) s (a + Int.toNat (0 : Int)))
 else false)),
 ((39 : Nat),
 SV.win false (Sh.int IntKind.i64) (1099511627777 : Nat) lo n),
 ((40 : Nat), SV.int IntKind.i64 k),
 ((41 : Nat),
 SV.win false (Sh.int IntKind.i64) (1099511627777 : Nat) b nb),
 ((42 : Nat),
 SV.elp (Sh.int IntKind.i64) (1099511627777 : Nat)
 (b + Int.toNat (0 : Int)) (0 : Nat)),
 ((43 : Nat),
 SV.int IntKind.i64
 (gt (Sh.int IntKind.i64) l (b + Int.toNat (0 : Int)))),
 ((44 : Nat),
 SV.win false (Sh.int IntKind.i64) (1099511627777 : Nat) b nb),
 ((45 : Nat),
 SV.win false (Sh.int IntKind.i64) (1099511627777 : Nat)
 (b + Int.toNat (1 : Int)) (nb - Int.toNat (1 : Int))),
 ((46 : Nat),
 SV.elp (Sh.int IntKind.i64) (1099511627777 : Nat) (lo + k.toNat)
 (0 : Nat))],
 blk :=
 [((1099511627776 : Nat), LB.row (3 : Nat) (Sh.int IntKind.i64) s),
 ((1099511627777 : Nat),
 LB.row (3 : Nat) (Sh.int IntKind.i64)
 (l.set (lo + k.toNat)
 (gt (Sh.int IntKind.i64) l (b + Int.toNat (0 : Int))))),
 ((1099511627778 : Nat),
 LB.var
 [SV.win true (Sh.arr (2 : Nat) (Sh.int IntKind.i64))
 (1099511627779 : Nat) (0 : Nat) p.length]),
 ((1099511627779 : Nat),
 LB.row (45 : Nat) (Sh.arr (2 : Nat) (Sh.int IntKind.i64)) p)] })
 ((0 : Int) ≤ (0 : Int) ∧
 (0 : Int) < (↑na : Int) ∧
 a + Int.toNat (0 : Int) < s.length ∧
 (0 : Int) ≤ (1 : Int) ∧
 (1 : Int) ≤ (↑na : Int) ∧
 a + na ≤ s.length ∧
 (0 : Int) ≤ k ∧
 k < (↑n : Int) ∧
 lo + k.toNat < l.length ∧
 R (hd Try.f36 (0 : Nat))
 {
 env :=
 [((1 : Nat),
 SV.win false (Sh.int IntKind.i64) (1099511627777 : Nat) lo n),
 ((3 : Nat),
 SV.fn (24 : Nat) [] [SV.ptr (1099511627778 : Nat) (0 : Nat)]),
 ((8 : Nat),
 SV.win false (Sh.int IntKind.i64) (1099511627776 : Nat)
 (a + Int.toNat (1 : Int)) (na - Int.toNat (1 : Int))),
 ((9 : Nat),
 SV.win false (Sh.int IntKind.i64) (1099511627777 : Nat) b nb),
 ((10 : Nat), SV.int IntKind.i64 (IntKind.i64.wrap (k + (1 : Int)))),
 ((21 : Nat),
 SV.win false (Sh.int IntKind.i64) (1099511627776 : Nat) a na),
 ((22 : Nat), SV.int IntKind.i64 (↑na : Int)),
 ((23 : Nat), SV.bool (decide ((0 : Int) < (↑na : Int)))),
 ((24 : Nat), SV.int IntKind.i64 k),
 ((25 : Nat), SV.int IntKind.i64 (IntKind.i64.wrap (k + (1 : Int)))),
 ((26 : Nat),
 SV.win false (Sh.int IntKind.i64) (1099511627777 : Nat) b nb),
 ((27 : Nat), SV.int IntKind.i64 (↑nb : Int)),
 ((28 : Nat), SV.bool (decide ((0 : Int) < (↑nb : Int)))),
 ((29 : Nat), SV.bool true),
 ((30 : Nat),
 SV.fn (24 : Nat) [] [SV.ptr (1099511627778 : Nat) (0 : Nat)]),
 ((31 : Nat),
 SV.win false (Sh.int IntKind.i64) (1099511627777 : Nat) b nb),
 ((32 : Nat),
 SV.elp (Sh.int IntKind.i64) (1099511627777 : Nat)
 (b + Int.toNat (0 : Int)) (0 : Nat)),
 ((33 : Nat),
 SV.int IntKind.i64
 (gt (Sh.int IntKind.i64) l (b + Int.toNat (0 : Int)))),
 ((34 : Nat),
 SV.win false (Sh.int IntKind.i64) (1099511627776 : Nat) a na),
 ((35 : Nat),
 SV.elp (Sh.int IntKind.i64) (1099511627776 : Nat)
 (a + Int.toNat (0 : Int)) (0 : Nat)),
 ((36 : Nat),
 SV.int IntKind.i64
 (gt (Sh.int IntKind.i64) s (a + Int.toNat (0 : Int)))),
 ((37 : Nat),
 SV.bool
 (pbB p (gt (Sh.int IntKind.i64) l (b + Int.toNat (0 : Int)))
 (gt (Sh.int IntKind.i64) s (a + Int.toNat (0 : Int))))),
 ((38 : Nat),
 SV.bool
 (bif true then
 pbB p (gt (Sh.int IntKind.i64) l (b + Int.toNat (0 : Int)))
 (gt (Sh.int IntKind.i64) s (a + Int.toNat (0 : Int)))
 else false)),
 ((47 : Nat),
 SV.win false (Sh.int IntKind.i64) (1099511627777 : Nat) lo n),
 ((48 : Nat), SV.int IntKind.i64 k),
 ((49 : Nat),
 SV.win false (Sh.int IntKind.i64) (1099511627776 : Nat) a na),
 ((50 : Nat),
 SV.elp (Sh.int IntKind.i64) (1099511627776 : Nat)
 (a + Int.toNat (0 : Int)) (0 : Nat)),
 ((51 : Nat),
 SV.int IntKind.i64
 (gt (Sh.int IntKind.i64) s (a + Int.toNat (0 : Int)))),
 ((52 : Nat),
 SV.win false (Sh.int IntKind.i64) (1099511627776 : Nat) a na),
 ((53 : Nat),
 SV.win false (Sh.int IntKind.i64) (1099511627776 : Nat)
 (a + Int.toNat (1 : Int)) (na - Int.toNat (1 : Int))),
 ((54 : Nat),
 SV.elp (Sh.int IntKind.i64) (1099511627777 : Nat) (lo + k.toNat)
 (0 : Nat))],
 blk :=
 [((1099511627776 : Nat), LB.row (3 : Nat) (Sh.int IntKind.i64) s),
 ((1099511627777 : Nat),
 LB.row (3 : Nat) (Sh.int IntKind.i64)
 (l.set (lo + k.toNat)
 (gt (Sh.int IntKind.i64) s (a + Int.toNat (0 : Int))))),
 ((1099511627778 : Nat),
 LB.var
 [SV.win true (Sh.arr (2 : Nat) (Sh.int IntKind.i64))
 (1099511627779 : Nat) (0 : Nat) p.length]),
 ((1099511627779 : Nat),
 LB.row (45 : Nat) (Sh.arr (2 : Nat) (Sh.int IntKind.i64)) p)] }))
 (false = false ∧
 (0 : Int) ≤ (0 : Int) ∧
 (0 : Int) < (↑na : Int) ∧
 a + Int.toNat (0 : Int) < s.length ∧
 (0 : Int) ≤ (1 : Int) ∧
 (1 : Int) ≤ (↑na : Int) ∧
 a + na ≤ s.length ∧
 (0 : Int) ≤ k ∧
 k < (↑n : Int) ∧
 lo + k.toNat < l.length ∧
 R (hd Try.f36 (0 : Nat))
 {
 env :=
 [((1 : Nat), SV.win false (Sh.int IntKind.i64) (1099511627777 : Nat) lo n),
 ((3 : Nat), SV.fn (24 : Nat) [] [SV.ptr (1099511627778 : Nat) (0 : Nat)]),
 ((8 : Nat),
 SV.win false (Sh.int IntKind.i64) (1099511627776 : Nat) (a + Int.toNat (1 : Int))
 (na - Int.toNat (1 : Int))),
 ((9 : Nat), SV.win false (Sh.int IntKind.i64) (1099511627777 : Nat) b nb),
 ((10 : Nat), SV.int IntKind.i64 (IntKind.i64.wrap (k + (1 : Int)))),
 ((21 : Nat), SV.win false (Sh.int IntKind.i64) (1099511627776 : Nat) a na),
 ((22 : Nat), SV.int IntKind.i64 (↑na : Int)),
 ((23 : Nat), SV.bool (decide ((0 : Int) < (↑na : Int)))),
 ((24 : Nat), SV.int IntKind.i64 k),
 ((25 : Nat), SV.int IntKind.i64 (IntKind.i64.wrap (k + (1 : Int)))),
 ((26 : Nat), SV.win false (Sh.int IntKind.i64) (1099511627777 : Nat) b nb),
 ((27 : Nat), SV.int IntKind.i64 (↑nb : Int)),
 ((28 : Nat), SV.bool (decide ((0 : Int) < (↑nb : Int)))), ((29 : Nat), SV.bool false),
 ((38 : Nat), SV.bool false),
 ((47 : Nat), SV.win false (Sh.int IntKind.i64) (1099511627777 : Nat) lo n),
 ((48 : Nat), SV.int IntKind.i64 k),
 ((49 : Nat), SV.win false (Sh.int IntKind.i64) (1099511627776 : Nat) a na),
 ((50 : Nat),
 SV.elp (Sh.int IntKind.i64) (1099511627776 : Nat) (a + Int.toNat (0 : Int))
 (0 : Nat)),
 ((51 : Nat), SV.int IntKind.i64 (gt (Sh.int IntKind.i64) s (a + Int.toNat (0 : Int)))),
 ((52 : Nat), SV.win false (Sh.int IntKind.i64) (1099511627776 : Nat) a na),
 ((53 : Nat),
 SV.win false (Sh.int IntKind.i64) (1099511627776 : Nat) (a + Int.toNat (1 : Int))
 (na - Int.toNat (1 : Int))),
 ((54 : Nat),
 SV.elp (Sh.int IntKind.i64) (1099511627777 : Nat) (lo + k.toNat) (0 : Nat))],
 blk :=
 [((1099511627776 : Nat), LB.row (3 : Nat) (Sh.int IntKind.i64) s),
 ((1099511627777 : Nat),
 LB.row (3 : Nat) (Sh.int IntKind.i64)
 (l.set (lo + k.toNat) (gt (Sh.int IntKind.i64) s (a + Int.toNat (0 : Int))))),
 ((1099511627778 : Nat),
 LB.var
 [SV.win true (Sh.arr (2 : Nat) (Sh.int IntKind.i64)) (1099511627779 : Nat) (0 : Nat)
 p.length]),
 ((1099511627779 : Nat),
 LB.row (45 : Nat) (Sh.arr (2 : Nat) (Sh.int IntKind.i64)) p)] }))
 (Q []
 [((1099511627776 : Nat), LB.row (3 : Nat) (Sh.int IntKind.i64) s),
 ((1099511627777 : Nat), LB.row (3 : Nat) (Sh.int IntKind.i64) l),
 ((1099511627778 : Nat),
 LB.var [SV.win true (Sh.arr (2 : Nat) (Sh.int IntKind.i64)) (1099511627779 : Nat) (0 : Nat) p.length]),
 ((1099511627779 : Nat), LB.row (45 : Nat) (Sh.arr (2 : Nat) (Sh.int IntKind.i64)) p)])) := by kernel_rfl
end Go.Proofs.Ytjcknfkddbiobaa
namespace Go.Proofs.Ytjcknfkddbiobaa
open Go.Px
/-- Two sorted lists, put together; the first one goes first where neither is before. -/
def mrg (lt : Int → Int → Bool) : List Int → List Int → List Int
  | [], m => m
  | l, [] => l
  | x :: l, y :: m => if lt y x then y :: mrg lt (x :: l) m else x :: mrg lt l (y :: m)
  termination_by l m => l.length + m.length
theorem mrg_nil (lt : Int → Int → Bool) (m : List Int) : mrg lt [] m = m := by unfold mrg; rfl
theorem mrg_nil2 (lt : Int → Int → Bool) (l : List Int) : mrg lt l [] = l := by
  cases l with
  | nil => exact mrg_nil lt []
  | cons x l => unfold mrg; rfl
theorem mrg_cons (lt : Int → Int → Bool) (x y : Int) (l m : List Int) : mrg lt (x :: l) (y :: m) = if lt y x then y :: mrg lt (x :: l) m else x :: mrg lt l (y :: m) := by
  rw [mrg]
theorem mrg_perm (lt : Int → Int → Bool) : ∀ (n : Nat) (l m : List Int), l.length + m.length ≤ n → (mrg lt l m).Perm (l ++ m) := by
  intro n
  induction n with
  | zero =>
    intro l m h
    rw [List.eq_nil_of_length_eq_zero (show l.length = 0 by omega), List.eq_nil_of_length_eq_zero (show m.length = 0 by omega), mrg_nil]
    exact .refl _
  | succ n ih =>
    intro l m h
    cases l with
    | nil => rw [mrg_nil]; exact .refl _
    | cons x l =>
      cases m with
      | nil => rw [mrg_nil2, List.append_nil]
      | cons y m =>
        simp only [List.length_cons] at h
        rw [mrg_cons]
        split
        · refine ((ih (x :: l) m (by simp only [List.length_cons]; omega)).cons y).trans ?_
          exact List.perm_middle.symm
        · exact (ih l (y :: m) (by simp only [List.length_cons]; omega)).cons x
theorem mrg_len (lt : Int → Int → Bool) (l m : List Int) : (mrg lt l m).length = l.length + m.length := by
  rw [(mrg_perm lt _ l m (Nat.le_refl _)).length_eq, List.length_append]
/-- In order: none is before one that stands before it. -/
def Srt (lt : Int → Int → Bool) (l : List Int) : Prop := l.Pairwise fun x y => lt y x = false
/-- An order by ranks. -/
structure WO (lt : Int → Int → Bool) : Prop where
  asym : ∀ x y, lt x y = true → lt y x = false
  tr : ∀ x y z, lt x y = false → lt y z = false → lt x z = false
theorem mrg_srt {lt : Int → Int → Bool} (h : WO lt) : ∀ (n : Nat) (l m : List Int), l.length + m.length ≤ n → Srt lt l → Srt lt m → Srt lt (mrg lt l m) := by
  intro n
  induction n with
  | zero =>
    intro l m hn hl hm
    rw [List.eq_nil_of_length_eq_zero (show l.length = 0 by omega), mrg_nil]
    exact hm
  | succ n ih =>
    intro l m hn hl hm
    cases l with
    | nil => rw [mrg_nil]; exact hm
    | cons x l =>
      cases m with
      | nil => rw [mrg_nil2]; exact hl
      | cons y m =>
        simp only [List.length_cons] at hn
        have hl' := List.pairwise_cons.1 hl
        have hm' := List.pairwise_cons.1 hm
        rw [mrg_cons]
        split
        · rename_i hyx
          refine List.pairwise_cons.2 ⟨?_, ih _ _ (by simp only [List.length_cons]; omega) hl hm'.2⟩
          intro z hz
          have hz := (mrg_perm lt _ (x :: l) m (Nat.le_refl _)).mem_iff.1 hz
          rw [List.cons_append, List.mem_cons, List.mem_append] at hz
          rcases hz with rfl | hz | hz
          · exact h.asym _ _ hyx
          · exact h.tr _ _ _ (hl'.1 z hz) (h.asym _ _ hyx)
          · exact hm'.1 z hz
        · rename_i hyx
          have hyx : lt y x = false := by simpa using hyx
          refine List.pairwise_cons.2 ⟨?_, ih _ _ (by simp only [List.length_cons]; omega) hl'.2 hm⟩
          intro z hz
          have hz := (mrg_perm lt _ l (y :: m) (Nat.le_refl _)).mem_iff.1 hz
          rw [List.mem_append, List.mem_cons] at hz
          rcases hz with hz | rfl | hz
          · exact hl'.1 z hz
          · exact hyx
          · exact h.tr _ _ _ (hm'.1 z hz) hyx
/-- What sortWith leaves in the spare list and in the list. -/
def sortF (lt : Int → Int → Bool) : Nat → List Int → List Int → List Int × List Int
  | 0, s, l => (s, l)
  | f + 1, s, l => if l.length < 2 then (s, l) else
    let r1 := sortF lt f s (l.take (l.length / 2))
    let r2 := sortF lt f r1.1 (l.drop (l.length / 2))
    if lt (gt (Sh.int .i64) r2.2 0) (gt (Sh.int .i64) r1.2 (l.length / 2 - 1)) then (setRow r2.1 0 r1.2, mrg lt r1.2 r2.2) else (r2.1, r1.2 ++ r2.2)
theorem sortF_perm (lt : Int → Int → Bool) : ∀ (f : Nat) (s l : List Int), (sortF lt f s l).2.Perm l := by
  intro f
  induction f with
  | zero => intro s l; exact .refl _
  | succ f ih =>
    intro s l
    rw [sortF]
    split
    · exact .refl _
    · have h1 := ih s (l.take (l.length / 2))
      have h2 := ih (sortF lt f s (l.take (l.length / 2))).1 (l.drop (l.length / 2))
      have h3 := h1.append h2
      rw [List.take_append_drop] at h3
      simp only
      split
      · exact (mrg_perm lt _ _ _ (Nat.le_refl _)).trans h3
      · exact h3
theorem sortF_len (lt : Int → Int → Bool) (f : Nat) (s l : List Int) : (sortF lt f s l).2.length = l.length := (sortF_perm lt f s l).length_eq
theorem setRow0_len {s a : List Int} (h : a.length ≤ s.length) : (setRow s 0 a).length = s.length := by
  unfold setRow
  simp only [List.take_zero, List.nil_append, Nat.zero_add, List.length_append, List.length_drop]
  omega
theorem sortF_spare (lt : Int → Int → Bool) : ∀ (f : Nat) (s l : List Int), l.length / 2 ≤ s.length → (sortF lt f s l).1.length = s.length := by
  intro f
  induction f with
  | zero => intro s l _; rfl
  | succ f ih =>
    intro s l hs
    rw [sortF]
    split
    · rfl
    · have h1 := ih s (l.take (l.length / 2)) (by rw [List.length_take]; omega)
      have h2 := ih (sortF lt f s (l.take (l.length / 2))).1 (l.drop (l.length / 2)) (by rw [h1, List.length_drop]; omega)
      simp only
      split
      · rw [setRow0_len (by rw [h2, h1, sortF_len, List.length_take]; omega), h2, h1]
      · rw [h2, h1]
theorem srt_app {lt : Int → Int → Bool} (h : WO lt) {a b : List Int} (ha : Srt lt a) (hb : Srt lt b) (ha0 : 0 < a.length) (hb0 : 0 < b.length) (hx : lt (gt (Sh.int .i64) b 0) (gt (Sh.int .i64) a (a.length - 1)) = false) : Srt lt (a ++ b) := by
  rw [gt_eq hb0, gt_eq (show a.length - 1 < a.length by omega)] at hx
  have ha' := List.pairwise_iff_getElem.1 ha
  have hb' := List.pairwise_iff_getElem.1 hb
  refine List.pairwise_append.2 ⟨ha, hb, ?_⟩
  intro x hxa y hyb
  obtain ⟨i, hi, rfl⟩ := List.getElem_of_mem hxa
  obtain ⟨j, hj, rfl⟩ := List.getElem_of_mem hyb
  have irr : ∀ z, lt z z = false := fun z => by
    cases e : lt z z with
    | false => rfl
    | true => have := h.asym _ _ e; rw [e] at this; cases this
  have e1 : lt a[a.length - 1] a[i] = false := by
    by_cases hh : i = a.length - 1
    · subst hh; exact irr _
    · exact ha' i (a.length - 1) hi (by omega) (by omega)
  have e2 : lt b[j] b[0] = false := by
    by_cases hh : j = 0
    · subst hh; exact irr _
    · exact hb' 0 j hb0 hj (by omega)
  exact h.tr _ _ _ e2 (h.tr _ _ _ hx e1)
theorem sortF_srt {lt : Int → Int → Bool} (h : WO lt) : ∀ (f : Nat) (s l : List Int), l.length ≤ f → Srt lt (sortF lt f s l).2 := by
  intro f
  induction f with
  | zero =>
    intro s l hl
    rw [List.eq_nil_of_length_eq_zero (show l.length = 0 by omega)]
    exact List.Pairwise.nil
  | succ f ih =>
    intro s l hl
    rw [sortF]
    split
    · rename_i h2
      match l, h2 with
      | [], _ => exact List.Pairwise.nil
      | [x], _ => exact List.pairwise_singleton _ _
      | _ :: _ :: _, h2 => simp at h2; omega
    · rename_i h2
      have h1 := ih s (l.take (l.length / 2)) (by rw [List.length_take]; omega)
      have h3 := ih (sortF lt f s (l.take (l.length / 2))).1 (l.drop (l.length / 2)) (by rw [List.length_drop]; omega)
      simp only
      split
      · exact mrg_srt h _ _ _ (Nat.le_refl _) h1 h3
      · rename_i hc
        refine srt_app h h1 h3 (by rw [sortF_len, List.length_take]; omega) (by rw [sortF_len, List.length_drop]; omega) ?_
        have e : (sortF lt f s (List.take (l.length / 2) l)).2.length - 1 = l.length / 2 - 1 := by rw [sortF_len, List.length_take]; omega
        rw [e]
        simpa using hc
end Go.Proofs.Ytjcknfkddbiobaa
namespace Go.Proofs.Ytjcknfkddbiobaa
open Go.Px Go.Ax
def inP (p : List (List Int)) (l : List Int) : Prop := ∀ i ∈ l, 0 ≤ i ∧ i < p.length
/-- A part of a list. -/
def seg (l : List Int) (a n : Nat) : List Int := (l.drop a).take n
theorem seg_zero (l : List Int) (a : Nat) : seg l a 0 = [] := rfl
theorem seg_succ {l : List Int} {a n : Nat} (h : a < l.length) : seg l a (n + 1) = l[a] :: seg l (a + 1) n := by
  unfold seg
  rw [List.drop_eq_getElem_cons h, List.take_succ_cons]
theorem seg_len {l : List Int} {a n : Nat} (h : a + n ≤ l.length) : (seg l a n).length = n := by
  unfold seg
  rw [List.length_take, List.length_drop]; omega
theorem seg_set {l : List Int} {k a n : Nat} {v : Int} (h : k < a) : seg (l.set k v) a n = seg l a n := by
  unfold seg
  rw [List.drop_set_of_lt h]
/-- A list with a part in the place of another. -/
def putP (l : List Int) (a b : Nat) (m : List Int) : List Int := l.take a ++ m ++ l.drop b
theorem putP_step {l m : List Int} {a b : Nat} {v : Int} (h : a < l.length) (hb : a < b) : putP (l.set a v) (a + 1) b m = putP l a b (v :: m) := by
  unfold putP
  rw [List.drop_set_of_lt hb, List.take_add_one, List.take_set_of_le (Nat.le_refl _)]
  simp [h]
theorem putP_self {l : List Int} {a n : Nat} (h : a + n ≤ l.length) : putP l a (a + n) (seg l a n) = l := by
  unfold putP seg
  rw [List.append_assoc, ← List.drop_drop, List.take_append_drop, List.take_append_drop]
abbrev mS (lo n : Nat) (s l : List Int) (a na b nb : Nat) (k : Nat) (p : List (List Int)) : PS := ⟨[(1, .win false (.int .i64) 1099511627777 lo n), (3, .fn 24 [] [.ptr 1099511627778 0]), (8, .win false (.int .i64) 1099511627776 a na), (9, .win false (.int .i64) 1099511627777 b nb), (10, .int .i64 (k : Int))], [(1099511627776, .row 3 (.int .i64) s), (1099511627777, .row 3 (.int .i64) l), (1099511627778, .var [.win true shP 1099511627779 0 p.length]), (1099511627779, .row 45 shP p)]⟩
abbrev QB (s l : List Int) (p : List (List Int)) : List SV → List (Nat × LB) → Prop := fun rs blk => rs = [] ∧ blk = [(1099511627776, .row 3 (.int .i64) s), (1099511627777, .row 3 (.int .i64) l), (1099511627778, .var [.win true shP 1099511627779 0 p.length]), (1099511627779, .row 45 shP p)]
theorem merge_loop {s : List Int} {p : List (List Int)} {lo n : Nat} : ∀ (m : Nat) (l : List Int) (a na b nb k : Nat), na + nb ≤ m → a + na ≤ s.length → k + na + nb = n → b = lo + k + na → lo + n ≤ l.length → l.length < 1048576 → inP p (seg s a na) → inP p (seg l b nb) →
    GD 36 Try.f36 (QB s (putP l (lo + k) (lo + n) (mrg (pbB p) (seg s a na) (seg l b nb))) p) (hd Try.f36 0) (mS lo n s l a na b nb k p) := by
  intro m
  induction m with
  | zero =>
    intro l a na b nb k hm ha hk hb hl h20 h1 h2
    obtain rfl : na = 0 := by omega
    refine sy_go cxd2 (vc_mergeL _ _ _ _ _ _ _ _ _ _ _ _) ?_
    rw [decide_eq_false (show ¬ ((0 : Int) < ((0 : Nat) : Int)) by decide), bc_f, seg_zero, mrg_nil]
    obtain rfl : nb = 0 := by omega
    refine ⟨rfl, ?_⟩
    have e := putP_self (l := l) (a := lo + k) (n := 0) (by omega)
    rw [seg_zero] at e ⊢
    rw [show lo + n = lo + k + 0 by omega, e]
  | succ m ih =>
    intro l a na b nb k hm ha hk hb hl h20 h1 h2
    refine sy_go cxd2 (vc_mergeL _ _ _ _ _ _ _ _ _ _ _ _) ?_
    cases na with
    | zero =>
      rw [decide_eq_false (show ¬ ((0 : Int) < ((0 : Nat) : Int)) by decide), bc_f, seg_zero, mrg_nil]
      refine ⟨rfl, ?_⟩
      have e := putP_self (l := l) (a := lo + k) (n := nb) (by omega)
      rw [show lo + n = lo + k + nb by omega, show b = lo + k by omega, e]
    | succ na =>
      rw [decide_eq_true (show (0 : Int) < ((na + 1 : Nat) : Int) by omega), bc_t]
      have z0 : Int.toNat 0 = 0 := rfl
      have z1 : Int.toNat 1 = 1 := rfl
      have hw : IntKind.i64.wrap ((k : Int) + 1) = ((k + 1 : Nat) : Int) := by rw [IntWalk.i64_in _ (by omega)]; omega
      have gs : gt (Sh.int .i64) s (a + 0) = s[a]'(by omega) := gt_eq (by omega)
      have es := seg_succ (l := s) (a := a) (n := na) (by omega)
      have p1 := h1 s[a] (by rw [es]; exact List.mem_cons_self ..)
      -- what is taken from the first ones
      have first : ∀ (hh : seg l b nb = [] ∨ ∃ y ys, seg l b nb = y :: ys ∧ pbB p y s[a] = false), GD 36 Try.f36 (QB s (putP l (lo + k) (lo + n) (mrg (pbB p) (seg s a (na + 1)) (seg l b nb))) p) (hd Try.f36 0) (mS lo n s (l.set (lo + k) s[a]) (a + 1) na b nb (k + 1) p) := by
        intro hh
        have hlk : lo + k < l.length := by omega
        have q := ih (l.set (lo + k) s[a]) (a + 1) na b nb (k + 1) (by omega) (by omega) (by omega) (by omega) (by rw [List.length_set]; omega) (by rw [List.length_set]; omega)
          (fun i hi => h1 i (by rw [es]; exact List.mem_cons_of_mem _ hi)) (by rw [seg_set (by omega)]; exact h2)
        rw [seg_set (by omega), show lo + (k + 1) = lo + k + 1 by omega, putP_step hlk (by omega)] at q
        have e : mrg (pbB p) (seg s a (na + 1)) (seg l b nb) = s[a] :: mrg (pbB p) (seg s (a + 1) na) (seg l b nb) := by
          rw [es]
          rcases hh with h | ⟨y, ys, h, h'⟩
          · rw [h, mrg_nil2, mrg_nil2]
          · rw [h, mrg_cons, if_neg (by rw [h']; decide)]
        rw [e]
        exact q
      refine bc_of (fun h => ?_) (fun h => ?_)
      · have h := of_decide_eq_true h
        obtain ⟨nb, rfl⟩ : ∃ c, nb = c + 1 := ⟨nb - 1, by omega⟩
        have gl : gt (Sh.int .i64) l (b + 0) = l[b]'(by omega) := gt_eq (by omega)
        have el := seg_succ (l := l) (a := b) (n := nb) (by omega)
        have p2 := h2 l[b] (by rw [el]; exact List.mem_cons_self ..)
        rw [z0, z1, gs, gl, hw, Int.toNat_natCast]
        refine ⟨by omega, by omega, by omega, by omega, by omega, by omega, rfl, ⟨p2.1, p2.2, p1.1, p1.2⟩, ?_⟩
        rw [cond_true]
        refine bc_of (fun hb2 => ?_) (fun hb2 => ?_)
        · refine ⟨by omega, by omega, by omega, by omega, by omega, by omega, by omega, by omega, by omega, ?_⟩
          have hlk : lo + k < l.length := by omega
          have q := ih (l.set (lo + k) l[b]) a (na + 1) (b + 1) nb (k + 1) (by omega) (by omega) (by omega) (by omega) (by rw [List.length_set]; omega) (by rw [List.length_set]; omega)
            h1 (by rw [seg_set (by omega)]; exact fun i hi => h2 i (by rw [el]; exact List.mem_cons_of_mem _ hi))
          rw [seg_set (by omega), show lo + (k + 1) = lo + k + 1 by omega, putP_step hlk (by omega)] at q
          have e : mrg (pbB p) (seg s a (na + 1)) (seg l b (nb + 1)) = l[b] :: mrg (pbB p) (seg s a (na + 1)) (seg l (b + 1) nb) := by
            rw [el, es, mrg_cons, if_pos hb2]
          rw [e]
          exact q.only ⟨rfl, rfl, rfl, rfl, rfl, trivial⟩ ⟨rfl, rfl, rfl, rfl, trivial⟩
        · refine ⟨by omega, by omega, by omega, by omega, by omega, by omega, by omega, by omega, by omega, ?_⟩
          exact (first (.inr ⟨_, _, el, hb2⟩)).only ⟨rfl, rfl, rfl, rfl, rfl, trivial⟩ ⟨rfl, rfl, rfl, rfl, trivial⟩
      · have h := of_decide_eq_false h
        obtain rfl : nb = 0 := by omega
        rw [z0, z1, gs, hw, Int.toNat_natCast]
        refine ⟨rfl, by omega, by omega, by omega, by omega, by omega, by omega, by omega, by omega, by omega, ?_⟩
        exact (first (.inl rfl)).only ⟨rfl, rfl, rfl, rfl, rfl, trivial⟩ ⟨rfl, rfl, rfl, rfl, trivial⟩
def preMrg (s : List Int) (lo n : Nat) (l : List Int) (h : Int) (p : List (List Int)) : Prop := 0 ≤ h ∧ h ≤ n ∧ lo + n ≤ l.length ∧ h ≤ s.length ∧ l.length < 1048576 ∧ inP p (seg l lo n)
abbrev mrgL (lo n : Nat) (l : List Int) (h : Int) (p : List (List Int)) : List Int := putP l lo (lo + n) (mrg (pbB p) (seg l lo h.toNat) (seg l (lo + h.toNat) (n - h.toNat)))
def ctMrg : CtrI := ⟨K36, fun x => preMrg x.1 x.2.1.1 x.2.1.2.1 x.2.1.2.2 x.2.2.1 x.2.2.2.1.2.1.1, fun _ => [],
  fun x => bkKL 0 K36 (setRow x.1 0 (seg x.2.1.2.2 x.2.1.1 x.2.2.1.toNat), (x.2.1.1, x.2.1.2.1, mrgL x.2.1.1 x.2.1.2.1 x.2.1.2.2 x.2.2.1 x.2.2.2.1.2.1.1), x.2.2)⟩
theorem seg_setRow {s f : List Int} (h : f.length ≤ s.length) : seg (setRow s 0 f) 0 f.length = f := by
  unfold seg setRow
  rw [List.take_zero, List.nil_append, List.drop_zero, List.take_append_of_le_length (Nat.le_refl _), List.take_length]
theorem mem_seg {l : List Int} {a n b m : Nat} (h1 : b ≤ a) (h2 : a + n ≤ b + m) {i : Int} (h : i ∈ seg l a n) : i ∈ seg l b m := by
  unfold seg at h ⊢
  obtain ⟨k, rfl⟩ : ∃ k, a = b + k := ⟨a - b, by omega⟩
  rw [← List.drop_drop] at h
  rw [List.mem_take_iff_getElem] at h ⊢
  obtain ⟨j, hj, e⟩ := h
  simp only [List.length_drop] at hj
  refine ⟨k + j, by simp only [List.length_drop]; omega, ?_⟩
  rw [← e]
  simp [Nat.add_assoc]
theorem merge_run (s : List Int) (lo n : Nat) (l : List Int) (h : Int) (p : List (List Int)) (hp : preMrg s lo n l h p) : sy tt G0 D2 Try.f36.ntmps Try.f36.results.toList (QI ctMrg (s, (lo, n, l), h, ((), ((p, ()), ())), ())) (Px.Good Try.prog tt G0 36 Try.f36.ntmps Try.f36.results.toList (QI ctMrg (s, (lo, n, l), h, ((), ((p, ()), ())), ()))) 1000 [.code (bodyOf Try.f36)] (entryI K36 (s, (lo, n, l), h, ((), ((p, ()), ())), ())) := by
  obtain ⟨h0, h1, h2, h3, h4, h5⟩ := hp
  rw [vc_merge]
  have hF : (seg l lo h.toNat).length = h.toNat := seg_len (by omega)
  have e0 : winL (Sh.int .i64) (lo + 0) (h.toNat - 0) l = seg l lo h.toNat := rfl
  have e1 : List.take s.length (seg l lo h.toNat) = seg l lo h.toNat := List.take_of_length_le (by omega)
  have e2 : min (seg l lo h.toNat).length s.length = h.toNat := by omega
  have e3 : (setRow s 0 (seg l lo h.toNat)).length = s.length := setRow0_len (by omega)
  rw [e0, e1, e2, e3]
  refine ⟨h0, h1, h2, by omega, by omega, by omega, by omega, by omega, h0, h1, h2, ?_⟩
  have q := merge_loop (s := setRow s 0 (seg l lo h.toNat)) (p := p) (lo := lo) (n := n) _ l 0 h.toNat (lo + h.toNat) (n - h.toNat) 0 (Nat.le_refl _) (by rw [e3]; omega) (by omega) (by omega) h2 h4
    (by have := seg_setRow (s := s) (f := seg l lo h.toNat) (by omega)
        rw [hF] at this
        rw [this]
        exact fun i hi => h5 i (mem_seg (by omega) (by omega) hi))
    (fun i hi => h5 i (mem_seg (by omega) (by omega) hi))
  have e4 := seg_setRow (s := s) (f := seg l lo h.toNat) (by omega)
  rw [hF] at e4
  rw [e4] at q
  refine (q.post fun rs blk hq => ?_).only ⟨rfl, rfl, ?_, rfl, rfl, trivial⟩ ⟨rfl, rfl, rfl, rfl, trivial⟩
  · obtain ⟨rfl, rfl⟩ := hq
    refine QI.self rfl rfl rfl ?_
    intro b hb
    simp only [ctMrg, bkKL, bkK, cnt, cntL, List.append_nil, List.nil_append, List.mem_append, List.mem_cons, List.mem_singleton, List.not_mem_nil, or_false] at hb
    rcases hb with rfl | rfl | rfl | rfl <;> rfl
  · exact congrArg (fun z => some (SV.win false (Sh.int .i64) 1099511627776 0 z)) (by rw [Int.toNat_natCast]; rfl)
theorem merge_held : HeldI Try.prog G0 36 ctMrg := HeldI.run cxd2 (fn := Try.f36) rfl rfl ⟨by decide, by decide⟩ fun x hp => merge_run x.1 x.2.1.1 x.2.1.2.1 x.2.1.2.2 x.2.2.1 x.2.2.2.1.2.1.1 hp
def D3 : CV := (36, .inr ctMrg) :: D2
theorem cxd3 : CxOK Try.prog tt G0 D3 := cxd2.consI merge_held (fn := Try.f36) rfl rfl rfl
/-- sortWith, on parts shorter than m. -/
def preSort (m : Nat) (s : List Int) (lo n : Nat) (l : List Int) (p : List (List Int)) : Prop := n < m ∧ lo + n ≤ l.length ∧ n / 2 ≤ s.length ∧ l.length < 1048576 ∧ inP p (seg l lo n)
abbrev srtF (p : List (List Int)) (s : List Int) (l : List Int) : List Int × List Int := sortF (pbB p) l.length s l
def ctSort (m : Nat) : CtrI := ⟨K35, fun x => preSort m x.1 x.2.1.1 x.2.1.2.1 x.2.1.2.2 x.2.2.1.2.1.1, fun _ => [],
  fun x => bkKL 0 K35 ((srtF x.2.2.1.2.1.1 x.1 (seg x.2.1.2.2 x.2.1.1 x.2.1.2.1)).1, (x.2.1.1, x.2.1.2.1, putP x.2.1.2.2 x.2.1.1 (x.2.1.1 + x.2.1.2.1) (srtF x.2.2.1.2.1.1 x.1 (seg x.2.1.2.2 x.2.1.1 x.2.1.2.1)).2), x.2.2)⟩
def D4 (m : Nat) : CV := (35, .inr (ctSort m)) :: D3
end Go.Proofs.Ytjcknfkddbiobaa
namespace Go.Proofs.Ytjcknfkddbiobaa
open Go.Px Go.Ax
set_option maxRecDepth 100000
theorem vc_sortW (m : Nat) (s : List Int) (lo n : Nat) (l : List Int) (p : List (List Int)) (Q : List SV → List (Nat × LB) → Prop) (R : List Item → PS → Prop) : sy tt G0 (D4 m) Try.f35.ntmps Try.f35.results.toList Q R 1000 [.code (bodyOf Try.f35)] (entryI K35 (s, (lo, n, l), ((), ((p, ()), ())), ())) =
    (bc (decide ((↑n : Int) < (2 : Int)))
 (Q []
 [((1099511627776 : Nat), LB.row (3 : Nat) (Sh.int IntKind.i64) s),
 ((1099511627777 : Nat), LB.row (3 : Nat) (Sh.int IntKind.i64) l),
 ((1099511627778 : Nat),
 LB.var [SV.win true (Sh.arr (2 : Nat) (Sh.int IntKind.i64)) (1099511627779 : Nat) (0 : Nat) p.length]),
 ((1099511627779 : Nat), LB.row (45 : Nat) (Sh.arr (2 : Nat) (Sh.int IntKind.i64)) p)])
 ((2 : Int) ≠ (0 : Int) ∧
 (0 : Int) ≤ IntKind.i64.wrap ((↑n : Int).tdiv (2 : Int)) ∧
 IntKind.i64.wrap ((↑n : Int).tdiv (2 : Int)) ≤ (↑n : Int) ∧
 lo + n ≤ l.length ∧
 s.length = s.length ∧
 p.length = p.length ∧
 (ctSort m).pre
 (s, (lo + (0 : Nat), (IntKind.i64.wrap ((↑n : Int).tdiv (2 : Int))).toNat - (0 : Nat), l),
 ((), (p, ()), ()), ()) ∧
 (0 : Int) ≤ IntKind.i64.wrap ((↑n : Int).tdiv (2 : Int)) ∧
 IntKind.i64.wrap ((↑n : Int).tdiv (2 : Int)) ≤ (↑n : Int) ∧
 lo + n ≤
 (putP l (lo + (0 : Nat))
 (lo + (0 : Nat) + ((IntKind.i64.wrap ((↑n : Int).tdiv (2 : Int))).toNat - (0 : Nat)))
 (srtF p s
 (seg l (lo + (0 : Nat))
 ((IntKind.i64.wrap ((↑n : Int).tdiv (2 : Int))).toNat - (0 : Nat)))).snd).length ∧
 s.length =
 (srtF p s
 (seg l (lo + (0 : Nat))
 ((IntKind.i64.wrap ((↑n : Int).tdiv (2 : Int))).toNat - (0 : Nat)))).fst.length ∧
 p.length = p.length ∧
 (ctSort m).pre
 ((srtF p s
 (seg l (lo + (0 : Nat))
 ((IntKind.i64.wrap ((↑n : Int).tdiv (2 : Int))).toNat - (0 : Nat)))).fst,
 (lo + (IntKind.i64.wrap ((↑n : Int).tdiv (2 : Int))).toNat,
 n - (IntKind.i64.wrap ((↑n : Int).tdiv (2 : Int))).toNat,
 putP l (lo + (0 : Nat))
 (lo + (0 : Nat) +
 ((IntKind.i64.wrap ((↑n : Int).tdiv (2 : Int))).toNat - (0 : Nat)))
 (srtF p s
 (seg l (lo + (0 : Nat))
 ((IntKind.i64.wrap ((↑n : Int).tdiv (2 : Int))).toNat - (0 : Nat)))).snd),
 ((), (p, ()), ()), ()) ∧
 (0 : Int) ≤ IntKind.i64.wrap ((↑n : Int).tdiv (2 : Int)) ∧
 IntKind.i64.wrap ((↑n : Int).tdiv (2 : Int)) < (↑n : Int) ∧
 lo + (IntKind.i64.wrap ((↑n : Int).tdiv (2 : Int))).toNat <
 (putP
 (putP l (lo + (0 : Nat))
 (lo + (0 : Nat) +
 ((IntKind.i64.wrap ((↑n : Int).tdiv (2 : Int))).toNat - (0 : Nat)))
 (srtF p s
 (seg l (lo + (0 : Nat))
 ((IntKind.i64.wrap ((↑n : Int).tdiv (2 : Int))).toNat -
 (0 : Nat)))).snd)
 (lo + (IntKind.i64.wrap ((↑n : Int).tdiv (2 : Int))).toNat)
 (lo + (IntKind.i64.wrap ((↑n : Int).tdiv (2 : Int))).toNat +
 (n - (IntKind.i64.wrap ((↑n : Int).tdiv (2 : Int))).toNat))
 (srtF p
 (srtF p s
 (seg l (lo + (0 : Nat))
 ((IntKind.i64.wrap ((↑n : Int).tdiv (2 : Int))).toNat -
 (0 : Nat)))).fst
 (seg
 (putP l (lo + (0 : Nat))
 (lo + (0 : Nat) +
 ((IntKind.i64.wrap ((↑n : Int).tdiv (2 : Int))).toNat - (0 : Nat)))
 (srtF p s
 (seg l (lo + (0 : Nat))
 ((IntKind.i64.wrap ((↑n : Int).tdiv (2 : Int))).toNat -
 (0 : Nat)))).snd)
 (lo + (IntKind.i64.wrap ((↑n : Int).tdiv (2 : Int))).toNat)
 (n - (IntKind.i64.wrap ((↑n : Int).tdiv (2 : Int))).toNat))).snd).length ∧
 (0 : Int) ≤
 IntKind.i64.wrap (IntKind.i64.wrap ((↑n : Int).tdiv (2 : Int)) - (1 : Int)) ∧
 IntKind.i64.wrap (IntKind.i64.wrap ((↑n : Int).tdiv (2 : Int)) - (1 : Int)) <
 (↑n : Int) ∧
 lo +
 (IntKind.i64.wrap
 (IntKind.i64.wrap ((↑n : Int).tdiv (2 : Int)) - (1 : Int))).toNat <
 (putP
 (putP l (lo + (0 : Nat))
 (lo + (0 : Nat) +
 ((IntKind.i64.wrap ((↑n : Int).tdiv (2 : Int))).toNat - (0 : Nat)))
 (srtF p s
 (seg l (lo + (0 : Nat))
 ((IntKind.i64.wrap ((↑n : Int).tdiv (2 : Int))).toNat -
 (0 : Nat)))).snd)
 (lo + (IntKind.i64.wrap ((↑n : Int).tdiv (2 : Int))).toNat)
 (lo + (IntKind.i64.wrap ((↑n : Int).tdiv (2 : Int))).toNat +
 (n - (IntKind.i64.wrap ((↑n : Int).tdiv (2 : Int))).toNat))
 (srtF p
 (srtF p s
 (seg l (lo + (0 : Nat))
 ((IntKind.i64.wrap ((↑n : Int).tdiv (2 : Int))).toNat -
 (0 : Nat)))).fst
 (seg
 (putP l (lo + (0 : Nat))
 (lo + (0 : Nat) +
 ((IntKind.i64.wrap ((↑n : Int).tdiv (2 : Int))).toNat -
 (0 : Nat)))
 (srtF p s
 (seg l (lo + (0 : Nat))
 ((IntKind.i64.wrap ((↑n : Int).tdiv (2 : Int))).toNat -
 (0 : Nat)))).snd)
 (lo + (IntKind.i64.wrap ((↑n : Int).tdiv (2 : Int))).toNat)
 (n -
 (IntKind.i64.wrap
 ((↑n : Int).tdiv (2 : Int))).toNat))).snd).length ∧
 p.length = p.length ∧
 ctPb.pre
 (gt (Sh.int IntKind.i64)
 (putP
 (putP l (lo + (0 : Nat))
 (lo + (0 : Nat) +
 ((IntKind.i64.wrap ((↑n : Int).tdiv (2 : Int))).toNat -
 (0 : Nat)))
 (srtF p s
 (seg l (lo + (0 : Nat))
 ((IntKind.i64.wrap ((↑n : Int).tdiv (2 : Int))).toNat -
 (0 : Nat)))).snd)
 (lo + (IntKind.i64.wrap ((↑n : Int).tdiv (2 : Int))).toNat)
 (lo + (IntKind.i64.wrap ((↑n : Int).tdiv (2 : Int))).toNat +
 (n - (IntKind.i64.wrap ((↑n : Int).tdiv (2 : Int))).toNat))
 (srtF p
 (srtF p s
 (seg l (lo + (0 : Nat))
 ((IntKind.i64.wrap ((↑n : Int).tdiv (2 : Int))).toNat -
 (0 : Nat)))).fst
 (seg
 (putP l (lo + (0 : Nat))
 (lo + (0 : Nat) +
 ((IntKind.i64.wrap ((↑n : Int).tdiv (2 : Int))).toNat -
 (0 : Nat)))
 (srtF p s
 (seg l (lo + (0 : Nat))
 ((IntKind.i64.wrap
 ((↑n : Int).tdiv (2 : Int))).toNat -
 (0 : Nat)))).snd)
 (lo + (IntKind.i64.wrap ((↑n : Int).tdiv (2 : Int))).toNat)
 (n -
 (IntKind.i64.wrap ((↑n : Int).tdiv (2 : Int))).toNat))).snd)
 (lo + (IntKind.i64.wrap ((↑n : Int).tdiv (2 : Int))).toNat),
 gt (Sh.int IntKind.i64)
 (putP
 (putP l (lo + (0 : Nat))
 (lo + (0 : Nat) +
 ((IntKind.i64.wrap ((↑n : Int).tdiv (2 : Int))).toNat -
 (0 : Nat)))
 (srtF p s
 (seg l (lo + (0 : Nat))
 ((IntKind.i64.wrap ((↑n : Int).tdiv (2 : Int))).toNat -
 (0 : Nat)))).snd)
 (lo + (IntKind.i64.wrap ((↑n : Int).tdiv (2 : Int))).toNat)
 (lo + (IntKind.i64.wrap ((↑n : Int).tdiv (2 : Int))).toNat +
 (n - (IntKind.i64.wrap ((↑n : Int).tdiv (2 : Int))).toNat))
 (srtF p
 (srtF p s
 (seg l (lo + (0 : Nat))
 ((IntKind.i64.wrap ((↑n : Int).tdiv (2 : Int))).toNat -
 (0 : Nat)))).fst
 (seg
 (putP l (lo + (0 : Nat))
 (lo + (0 : Nat) +
 ((IntKind.i64.wrap ((↑n : Int).tdiv (2 : Int))).toNat -
 (0 : Nat)))
 (srtF p s
 (seg l (lo + (0 : Nat))
 ((IntKind.i64.wrap
 ((↑n : Int).tdiv (2 : Int))).toNat -
 (0 : Nat)))).snd)
 (lo + (IntKind.i64.wrap ((↑n : Int).tdiv (2 : Int))).toNat)
 (n -
 (IntKind.i64.wrap ((↑n : Int).tdiv (2 : Int))).toNat))).snd)
 (lo +
 (IntKind.i64.wrap
 (IntKind.i64.wrap ((↑n : Int).tdiv (2 : Int)) -
 (1 : Int))).toNat),
 (p, ()), ()) ∧
 bc
 (pbB p
 (gt (Sh.int IntKind.i64)
 (putP
 (putP l (lo + (0 : Nat))
 (lo + (0 : Nat) +
 ((IntKind.i64.wrap ((↑n : Int).tdiv (2 : Int))).toNat -
 (0 : Nat)))
 (srtF p s
 (seg l (lo + (0 : Nat))
 ((IntKind.i64.wrap ((↑n : Int).tdiv (2 : Int))).toNat -
 (0 : Nat)))).snd)
 (lo + (IntKind.i64.wrap ((↑n : Int).tdiv (2 : Int))).toNat)
 (lo + (IntKind.i64.wrap ((↑n : Int).tdiv (2 : Int))).toNat +
 (n - (IntKind.i64.wrap ((↑n : Int).tdiv (2 : Int))).toNat))
 (srtF p
 (srtF p s
 (seg l (lo + (0 : Nat))
 ((IntKind.i64.wrap ((↑n : Int).tdiv (2 : Int))).toNat -
 (0 : Nat)))).fst
 (seg
 (putP l (lo + (0 : Nat))
 (lo + (0 : Nat) +
 ((IntKind.i64.wrap ((↑n : Int).tdiv (2 : Int))).toNat -
 (0 : Nat)))
 (srtF p s
 (seg l (lo + (0 : Nat))
 ((IntKind.i64.wrap
 ((↑n : Int).tdiv (2 : Int))).toNat -
 (0 : Nat)))).snd)
 (lo + (IntKind.i64.wrap ((↑n : Int).tdiv (2 : Int))).toNat)
 (n -
 (IntKind.i64.wrap ((↑n : Int).tdiv (2 : Int))).toNat))).snd)
 (lo + (IntKind.i64.wrap ((↑n : Int).tdiv (2 : Int))).toNat))
 (gt (Sh.int IntKind.i64)
 (putP
 (putP l (lo + (0 : Nat))
 (lo + (0 : Nat) +
 ((IntKind.i64.wrap ((↑n : Int).tdiv (2 : Int))).toNat -
 (0 : Nat)))
 (srtF p s
 (seg l (lo + (0 : Nat))
 ((IntKind.i64.wrap ((↑n : Int).tdiv (2 : Int))).toNat -
 (0 : Nat)))).snd)
 (lo + (IntKind.i64.wrap ((↑n : Int).tdiv (2 : Int))).toNat)
 (lo + (IntKind.i64.wrap ((↑n : Int).tdiv (2 : Int))).toNat +
 (n - (IntKind.i64.wrap ((↑n : Int).tdiv (2 : Int))).toNat))
 (srtF p
 (srtF p s
 (seg l (lo + (0 : Nat))
 ((IntKind.i64.wrap ((↑n : Int).tdiv (2 : Int))).toNat -
 (0 : Nat)))).fst
 (seg
 (putP l (lo + (0 : Nat))
 (lo + (0 : Nat) +
 ((IntKind.i64.wrap ((↑n : Int).tdiv (2 : Int))).toNat -
 (0 : Nat)))
 (srtF p s
 (seg l (lo + (0 : Nat))
 ((IntKind.i64.wrap
 ((↑n : Int).tdiv (2 : Int))).toNat -
 (0 : Nat)))).snd)
 (lo + (IntKind.i64.wrap ((↑n : Int).tdiv (2 : Int))).toNat)
 (n -
 (IntKind.i64.wrap ((↑n : Int).tdiv (2 : Int))).toNat))).snd)
 (lo +
 (IntKind.i64.wrap
 (IntKind.i64.wrap ((↑n : Int).tdiv (2 : Int)) -
 (1 : Int))).toNat)))
 (s.length =
 (srtF p
 (srtF p s
 (seg l (lo + (0 : Nat))
 ((IntKind.i64.wrap ((↑n : Int).tdiv (2 : Int))).toNat -
 (0 : Nat)))).fst
 (seg
 (putP l (lo + (0 : Nat))
 (lo + (0 : Nat) +
 ((IntKind.i64.wrap ((↑n : Int).tdiv (2 : Int))).toNat -
 (0 : Nat)))
 (srtF p s
 (seg l (lo + (0 : Nat))
 ((IntKind.i64.wrap
 ((↑n : Int).tdiv (2 : Int))).toNat -
 (0 : Nat)))).snd)
 (lo + (IntKind.i64.wrap ((↑n : Int).tdiv (2 : Int))).toNat)
 (n -
 (IntKind.i64.wrap
 ((↑n : Int).tdiv (2 : Int))).toNat))).fst.length ∧
 p.length = p.length ∧
 ctMrg.pre
 ((srtF p
 (srtF p s
 (seg l (lo + (0 : Nat))
 ((IntKind.i64.wrap
 ((↑n : Int).tdiv (2 : Int))).toNat -
 (0 : Nat)))).fst
 (seg
 (putP l (lo + (0 : Nat))
 (lo + (0 : Nat) +
 ((IntKind.i64.wrap
 ((↑n : Int).tdiv (2 : Int))).toNat -
 (0 : Nat)))
 (srtF p s
 (seg l (lo + (0 : Nat))
 ((IntKind.i64.wrap
 ((↑n : Int).tdiv (2 : Int))).toNat -
 (0 : Nat)))).snd)
 (lo +
 (IntKind.i64.wrap ((↑n : Int).tdiv (2 : Int))).toNat)
 (n -
 (IntKind.i64.wrap
 ((↑n : Int).tdiv (2 : Int))).toNat))).fst,
 (lo, n,
 putP
 (putP l (lo + (0 : Nat))
 (lo + (0 : Nat) +
 ((IntKind.i64.wrap ((↑n : Int).tdiv (2 : Int))).toNat -
 (0 : Nat)))
 (srtF p s
 (seg l (lo + (0 : Nat))
 ((IntKind.i64.wrap
 ((↑n : Int).tdiv (2 : Int))).toNat -
 (0 : Nat)))).snd)
 (lo + (IntKind.i64.wrap ((↑n : Int).tdiv (2 : Int))).toNat)
 (lo + (IntKind.i64.wrap ((↑n : Int).tdiv (2 : Int))).toNat +
 (n -
 (IntKind.i64.wrap ((↑n : Int).tdiv (2 : Int))).toNat))
 (srtF p
 (srtF p s
 (seg l (lo + (0 : Nat))
 ((IntKind.i64.wrap
 ((↑n : Int).tdiv (2 : Int))).toNat -
 (0 : Nat)))).fst
 (seg
 (putP l (lo + (0 : Nat))
 (lo + (0 : Nat) +
 ((IntKind.i64.wrap
 ((↑n : Int).tdiv (2 : Int))).toNat -
 (0 : Nat)))
 (srtF p s
 (seg l (lo + (0 : Nat))
 ((IntKind.i64.wrap
 ((↑n : Int).tdiv (2 : Int))).toNat -
 (0 : Nat)))).snd)
 (lo +
 (IntKind.i64.wrap
 ((↑n : Int).tdiv (2 : Int))).toNat)
 (n -
 (IntKind.i64.wrap
 ((↑n : Int).tdiv (2 : Int))).toNat))).snd),
 IntKind.i64.wrap ((↑n : Int).tdiv (2 : Int)), ((), (p, ()), ()),
 ()) ∧
 Q []
 [((1099511627776 : Nat),
 LB.row (3 : Nat) (Sh.int IntKind.i64)
 (setRow
 (srtF p
 (srtF p s
 (seg l (lo + (0 : Nat))
 ((IntKind.i64.wrap
 ((↑n : Int).tdiv (2 : Int))).toNat -
 (0 : Nat)))).fst
 (seg
 (putP l (lo + (0 : Nat))
 (lo + (0 : Nat) +
 ((IntKind.i64.wrap
 ((↑n : Int).tdiv (2 : Int))).toNat -
 (0 : Nat)))
 (srtF p s
 (seg l (lo + (0 : Nat))
 ((IntKind.i64.wrap
 ((↑n : Int).tdiv (2 : Int))).toNat -
 (0 : Nat)))).snd)
 (lo +
 (IntKind.i64.wrap
 ((↑n : Int).tdiv (2 : Int))).toNat)
 (n -
 (IntKind.i64.wrap
 ((↑n : Int).tdiv (2 : Int))).toNat))).fst
 (0 : Nat)
 (seg
 (putP
 (putP l (lo + (0 : Nat))
 (lo + (0 : Nat) +
 ((IntKind.i64.wrap
 ((↑n : Int).tdiv (2 : Int))).toNat -
 (0 : Nat)))
 (srtF p s
 (seg l (lo + (0 : Nat))
 ((IntKind.i64.wrap
 ((↑n : Int).tdiv (2 : Int))).toNat -
 (0 : Nat)))).snd)
 (lo +
 (IntKind.i64.wrap
 ((↑n : Int).tdiv (2 : Int))).toNat)
 (lo +
 (IntKind.i64.wrap
 ((↑n : Int).tdiv (2 : Int))).toNat +
 (n -
 (IntKind.i64.wrap
 ((↑n : Int).tdiv (2 : Int))).toNat))
 (srtF p
 (srtF p s
 (seg l (lo + (0 : Nat))
 ((IntKind.i64.wrap
 ((↑n : Int).tdiv (2 : Int))).toNat -
 (0 : Nat)))).fst
 (seg
 (putP l (lo + (0 : Nat))
 (lo + (0 : Nat) +
 ((IntKind.i64.wrap
 ((↑n : Int).tdiv (2 : Int))).toNat -
 (0 : Nat)))
 (srtF p s
 (seg l (lo + (0 : Nat))
 ((IntKind.i64.wrap
 ((↑n : Int).tdiv
 (2 : Int))).toNat -
 (0 : Nat)))).snd)
 (lo +
 (IntKind.i64.wrap
 ((↑n : Int).tdiv (2 : Int))).toNat)
 (n -
 (IntKind.i64.wrap
 ((↑n : Int).tdiv (2 : Int))).toNat))).snd)
 lo
 (IntKind.i64.wrap ((↑n : Int).tdiv (2 : Int))).toNat))),
 ((1099511627777 : Nat),
 LB.row (3 : Nat) (Sh.int IntKind.i64)
 (mrgL lo n
 (putP
 (putP l (lo + (0 : Nat))
 (lo + (0 : Nat) +
 ((IntKind.i64.wrap
 ((↑n : Int).tdiv (2 : Int))).toNat -
 (0 : Nat)))
 (srtF p s
 (seg l (lo + (0 : Nat))
 ((IntKind.i64.wrap
 ((↑n : Int).tdiv (2 : Int))).toNat -
 (0 : Nat)))).snd)
 (lo +
 (IntKind.i64.wrap ((↑n : Int).tdiv (2 : Int))).toNat)
 (lo +
 (IntKind.i64.wrap
 ((↑n : Int).tdiv (2 : Int))).toNat +
 (n -
 (IntKind.i64.wrap
 ((↑n : Int).tdiv (2 : Int))).toNat))
 (srtF p
 (srtF p s
 (seg l (lo + (0 : Nat))
 ((IntKind.i64.wrap
 ((↑n : Int).tdiv (2 : Int))).toNat -
 (0 : Nat)))).fst
 (seg
 (putP l (lo + (0 : Nat))
 (lo + (0 : Nat) +
 ((IntKind.i64.wrap
 ((↑n : Int).tdiv (2 : Int))).toNat -
 (0 : Nat)))
 (srtF p s
 (seg l (lo + (0 : Nat))
 ((IntKind.i64.wrap
 ((↑n : Int).tdiv (2 : Int))).toNat -
 (0 : Nat)))).snd)
 (lo +
 (IntKind.i64.wrap
 ((↑n : Int).tdiv (2 : Int))).toNat)
 (n -
 (IntKind.i64.wrap
 ((↑n : Int).tdiv (2 : Int))).toNat))).snd)
 (IntKind.i64.wrap ((↑n : Int).tdiv (2 : Int))) p)),
 ((1099511627778 : Nat),
 LB.var
 [SV.win true (Sh.arr (2 : Nat) (Sh.int IntKind.i64))
 (1099511627779 : Nat) (0 : Nat) p.length]),
 ((1099511627779 : Nat),
 LB.row (45 : Nat) (Sh.arr (2 : Nat) (Sh.int IntKind.i64)) p)])
 (Q []
 [((1099511627776 : Nat),
 LB.row (3 : Nat) (Sh.int IntKind.i64)
 (srtF p
 (srtF p s
 (seg l (lo + (0 : Nat))
 ((IntKind.i64.wrap ((↑n : Int).tdiv (2 : Int))).toNat -
 (0 : Nat)))).fst
 (seg
 (putP l (lo + (0 : Nat))
 (lo + (0 : Nat) +
 ((IntKind.i64.wrap ((↑n : Int).tdiv (2 : Int))).toNat -
 (0 : Nat)))
 (srtF p s
 (seg l (lo + (0 : Nat))
 ((IntKind.i64.wrap
 ((↑n : Int).tdiv (2 : Int))).toNat -
 (0 : Nat)))).snd)
 (lo + (IntKind.i64.wrap ((↑n : Int).tdiv (2 : Int))).toNat)
 (n -
 (IntKind.i64.wrap
 ((↑n : Int).tdiv (2 : Int))).toNat))).fst),
 ((1099511627777 : Nat),
 LB.row (3 : Nat) (Sh.int IntKind.i64)
 (putP
 (putP l (lo + (0 : Nat))
 (lo + (0 : Nat) +
 ((IntKind.i64.wrap ((↑n : Int).tdiv (2 : Int))).toNat -
 (0 : Nat)))
 (srtF p s
 (seg l (lo + (0 : Nat))
 ((IntKind.i64.wrap ((↑n : Int).tdiv (2 : Int))).toNat -
 (0 : Nat)))).snd)
 (lo + (IntKind.i64.wrap ((↑n : Int).tdiv (2 : Int))).toNat)
 (lo + (IntKind.i64.wrap ((↑n : Int).tdiv (2 : Int))).toNat +
 (n - (IntKind.i64.wrap ((↑n : Int).tdiv (2 : Int))).toNat))
 (srtF p
 (srtF p s
 (seg l (lo + (0 : Nat))
 ((IntKind.i64.wrap
 ((↑n : Int).tdiv (2 : Int))).toNat -
 (0 : Nat)))).fst
 (seg
 (putP l (lo + (0 : Nat))
 (lo + (0 : Nat) +
 ((IntKind.i64.wrap
 ((↑n : Int).tdiv (2 : Int))).toNat -
 (0 : Nat)))
 (srtF p s
 (seg l (lo + (0 : Nat))
 ((IntKind.i64.wrap
 ((↑n : Int).tdiv (2 : Int))).toNat -
 (0 : Nat)))).snd)
 (lo +
 (IntKind.i64.wrap ((↑n : Int).tdiv (2 : Int))).toNat)
 (n -
 (IntKind.i64.wrap
 ((↑n : Int).tdiv (2 : Int))).toNat))).snd)),
 ((1099511627778 : Nat),
 LB.var
 [SV.win true (Sh.arr (2 : Nat) (Sh.int IntKind.i64))
 (1099511627779 : Nat) (0 : Nat) p.length]),
 ((1099511627779 : Nat),
 LB.row (45 : Nat) (Sh.arr (2 : Nat) (Sh.int IntKind.i64)) p)]))) := by kernel_rfl
end Go.Proofs.Ytjcknfkddbiobaa
namespace Go.Proofs.Ytjcknfkddbiobaa
open Go.Px
variable {l m m' : List Int} {a b c k : Nat}
theorem take_len (h : a ≤ l.length) : (l.take a).length = a := by rw [List.length_take]; omega
theorem putP_len (h1 : a ≤ b) (h2 : b ≤ l.length) (h3 : m.length = b - a) : (putP l a b m).length = l.length := by
  unfold putP
  simp only [List.length_append, List.length_take, List.length_drop]; omega
theorem take_putP (h1 : a ≤ b) (h2 : b ≤ l.length) (h3 : m.length = b - a) : (putP l a b m).take b = l.take a ++ m := by
  unfold putP
  rw [List.take_append_of_le_length (by rw [List.length_append, take_len (by omega)]; omega)]
  exact List.take_of_length_le (by rw [List.length_append, take_len (by omega)]; omega)
theorem drop_putP (h1 : a ≤ b) (h2 : b ≤ l.length) (h3 : m.length = b - a) (h4 : b ≤ c) : (putP l a b m).drop c = l.drop c := by
  unfold putP
  obtain ⟨d, rfl⟩ : ∃ d, c = b + d := ⟨c - b, by omega⟩
  have hT : (l.take a ++ m).length = b := by rw [List.length_append, take_len (by omega)]; omega
  have e : (l.take a ++ m ++ l.drop b).drop b = l.drop b := by
    rw [List.drop_append_of_le_length (by omega), List.drop_of_length_le (l := l.take a ++ m) (by omega), List.nil_append]
  rw [← List.drop_drop, e, List.drop_drop]
theorem seg_putP_out (h1 : a ≤ b) (h2 : b ≤ l.length) (h3 : m.length = b - a) (h4 : b ≤ c) : seg (putP l a b m) c k = seg l c k := by
  unfold seg
  rw [drop_putP h1 h2 h3 h4]
theorem putP_putP (h1 : a ≤ b) (h2 : b ≤ l.length) (h3 : m.length = b - a) : putP (putP l a b m) a b m' = putP l a b m' := by
  have e : (putP l a b m).take a = l.take a := by
    unfold putP
    rw [List.append_assoc, List.take_append_of_le_length (by rw [take_len (by omega)]; omega), List.take_take, Nat.min_self]
  have e2 := drop_putP (c := b) h1 h2 h3 (Nat.le_refl _)
  unfold putP at e e2 ⊢
  rw [e, e2]
theorem putP_next (h1 : a ≤ b) (h2 : b ≤ c) (h4 : c ≤ l.length) (h3 : m.length = b - a) : putP (putP l a b m) b c m' = putP l a c (m ++ m') := by
  have e := take_putP (l := l) h1 (by omega) h3
  have e2 := drop_putP (l := l) (c := c) h1 (by omega) h3 h2
  rw [putP, e, e2, putP, List.append_assoc (l.take a)]
theorem getP (h1 : a ≤ l.length) {j : Nat} (hj : j < m.length) : gt (Sh.int .i64) (putP l a b m) (a + j) = gt (Sh.int .i64) m j := by
  show ((putP l a b m)[a + j]?).getD _ = (m[j]?).getD _
  unfold putP
  rw [List.append_assoc, List.getElem?_append_right (by rw [take_len h1]; omega), take_len h1, Nat.add_sub_cancel_left, List.getElem?_append_left hj]
theorem getA1 {j : Nat} (hj : j < m.length) : gt (Sh.int .i64) (m ++ m') j = gt (Sh.int .i64) m j := by
  show ((m ++ m')[j]?).getD _ = (m[j]?).getD _
  rw [List.getElem?_append_left hj]
theorem getA2 {j : Nat} : gt (Sh.int .i64) (m ++ m') (m.length + j) = gt (Sh.int .i64) m' j := by
  show ((m ++ m')[m.length + j]?).getD _ = (m'[j]?).getD _
  rw [List.getElem?_append_right (by omega), Nat.add_sub_cancel_left]
theorem seg_putP (h1 : a ≤ l.length) (hk : c + k ≤ m.length) : seg (putP l a b m) (a + c) k = seg m c k := by
  have e : (l.take a ++ (m ++ l.drop b)).drop a = m ++ l.drop b := by
    rw [List.drop_append_of_le_length (by rw [take_len h1]; omega), List.drop_of_length_le (l := l.take a) (by rw [take_len h1]; omega), List.nil_append]
  unfold seg putP
  rw [← List.drop_drop, List.append_assoc, e, List.drop_append_of_le_length (by omega), List.take_append_of_le_length (by rw [List.length_drop]; omega)]
theorem seg_all : seg (m ++ m') 0 m.length = m := by
  unfold seg
  rw [List.drop_zero, List.take_append_of_le_length (Nat.le_refl _), List.take_length]
theorem seg_all2 : seg (m ++ m') m.length m'.length = m' := by
  unfold seg
  rw [List.drop_append_of_le_length (Nat.le_refl _), List.drop_length, List.nil_append, List.take_length]
theorem sortF_short {lt : Int → Int → Bool} (f : Nat) (s : List Int) (h : l.length < 2) : sortF lt f s l = (s, l) := by
  cases f with
  | zero => rfl
  | succ f => rw [sortF, if_pos h]
theorem sortF_fuel {lt : Int → Int → Bool} : ∀ (N : Nat) (l s : List Int) (f f' : Nat), l.length ≤ N → l.length ≤ f → l.length ≤ f' → sortF lt f s l = sortF lt f' s l := by
  intro N
  induction N with
  | zero => intro l s f f' h _ _; rw [sortF_short f s (by omega), sortF_short f' s (by omega)]
  | succ N ih =>
    intro l s f f' h h1 h2
    by_cases hl : l.length < 2
    · rw [sortF_short f s hl, sortF_short f' s hl]
    · obtain ⟨f, rfl⟩ : ∃ g, f = g + 1 := ⟨f - 1, by omega⟩
      obtain ⟨f', rfl⟩ : ∃ g, f' = g + 1 := ⟨f' - 1, by omega⟩
      rw [sortF, sortF, if_neg hl, if_neg hl]
      have e1 : sortF lt f s (l.take (l.length / 2)) = sortF lt f' s (l.take (l.length / 2)) := ih _ _ _ _ (by rw [List.length_take]; omega) (by rw [List.length_take]; omega) (by rw [List.length_take]; omega)
      have e2 : ∀ t, sortF lt f t (l.drop (l.length / 2)) = sortF lt f' t (l.drop (l.length / 2)) := fun t => ih _ _ _ _ (by rw [List.length_drop]; omega) (by rw [List.length_drop]; omega) (by rw [List.length_drop]; omega)
      simp only [e1, e2]
theorem take_seg {h : Nat} (hh : h ≤ k) : (seg l a k).take h = seg l a h := by
  unfold seg
  rw [List.take_take, Nat.min_eq_left hh]
theorem drop_seg {h : Nat} : (seg l a k).drop h = seg l (a + h) (k - h) := by
  unfold seg
  rw [List.drop_take, List.drop_drop]
theorem srt_eq {p : List (List Int)} {s : List Int} {lo n : Nat} {A B : List Int × List Int} (h2 : 2 ≤ n) (hl : lo + n ≤ l.length) (hA : srtF p s (seg l lo (n / 2)) = A) (hB : srtF p A.1 (seg l (lo + n / 2) (n - n / 2)) = B) :
    srtF p s (seg l lo n) = if pbB p (gt (Sh.int .i64) B.2 0) (gt (Sh.int .i64) A.2 (n / 2 - 1)) then (setRow B.1 0 A.2, mrg (pbB p) A.2 B.2) else (B.1, A.2 ++ B.2) := by
  have hn : (seg l lo n).length = n := seg_len hl
  have e1 : sortF (pbB p) (n - 1) s (seg l lo (n / 2)) = A := by
    rw [← hA]
    refine sortF_fuel n _ _ _ _ ?_ ?_ ?_ <;> rw [seg_len (by omega)] <;> omega
  have e2 : sortF (pbB p) (n - 1) A.1 (seg l (lo + n / 2) (n - n / 2)) = B := by
    rw [← hB]
    refine sortF_fuel n _ _ _ _ ?_ ?_ ?_ <;> rw [seg_len (by omega)] <;> omega
  unfold srtF
  rw [hn]
  obtain ⟨n', rfl⟩ : ∃ g, n = g + 1 := ⟨n - 1, by omega⟩
  rw [Nat.add_sub_cancel] at e1 e2
  rw [sortF, if_neg (by rw [hn]; omega), hn, take_seg (by omega), drop_seg]
  simp only [e1, e2]
end Go.Proofs.Ytjcknfkddbiobaa
namespace Go.Proofs.Ytjcknfkddbiobaa
open Go.Px Go.Ax
theorem inP_perm {p : List (List Int)} {l m : List Int} (h : l.Perm m) (k : inP p m) : inP p l := fun i hi => k i (h.mem_iff.1 hi)
theorem inP_gt {p : List (List Int)} {l : List Int} (k : inP p l) {j : Nat} (h : j < l.length) : 0 ≤ gt (Sh.int .i64) l j ∧ gt (Sh.int .i64) l j < p.length := by
  rw [gt_eq h]
  exact k _ (List.getElem_mem h)
theorem sort_end {m : Nat} {s : List Int} {lo n : Nat} {l : List Int} {p : List (List Int)} {s' l' : List Int} (h : srtF p s (seg l lo n) = (s', l')) {l2 : List Int} (h2 : l2 = putP l lo (lo + n) l') : QI (ctSort m) (s, (lo, n, l), ((), ((p, ()), ())), ()) []
    [(1099511627776, LB.row 3 (.int .i64) s'), (1099511627777, .row 3 (.int .i64) l2), (1099511627778, .var [.win true shP 1099511627779 0 p.length]), (1099511627779, .row 45 shP p)] := by
  subst h2
  refine QI.self rfl rfl rfl ?_
  intro b hb
  simp only [ctSort, h, bkKL, bkK, cnt, cntL, List.append_nil, List.nil_append, List.mem_append, List.mem_cons, List.not_mem_nil, or_false] at hb
  rcases hb with rfl | rfl | rfl | rfl <;> rfl
theorem sort_run (m : Nat) (s : List Int) (lo n : Nat) (l : List Int) (p : List (List Int)) (hp : preSort (m + 1) s lo n l p) (R : List Item → PS → Prop) : sy tt G0 (D4 m) Try.f35.ntmps Try.f35.results.toList (QI (ctSort (m + 1)) (s, (lo, n, l), ((), ((p, ()), ())), ())) R 1000 [.code (bodyOf Try.f35)] (entryI K35 (s, (lo, n, l), ((), ((p, ()), ())), ())) := by
  obtain ⟨h0, h1, h2, h3, h4⟩ := hp
  rw [vc_sortW]
  refine bc_of (fun hn => ?_) (fun hn => ?_)
  · have hn := of_decide_eq_true hn
    exact sort_end (sortF_short _ s (by rw [seg_len h1]; omega)) (putP_self h1).symm
  · have hn := of_decide_eq_false hn
    have i1 : IntKind.i64.wrap ((n : Int).tdiv 2) = ((n / 2 : Nat) : Int) := by rw [show (n : Int).tdiv 2 = ((n / 2 : Nat) : Int) from rfl, IntWalk.i64_in _ (by omega)]
    rw [i1]
    have i2 : IntKind.i64.wrap (((n / 2 : Nat) : Int) - 1) = ((n / 2 - 1 : Nat) : Int) := by rw [IntWalk.i64_in _ (by omega)]; omega
    rw [i2]
    simp only [Nat.add_zero, Nat.sub_zero, Int.toNat_natCast]
    generalize hH : n / 2 = H at *
    have c1 : lo + H + (n - H) = lo + n := by omega
    rw [c1]
    generalize hA : srtF p s (seg l lo H) = A
    have a2 : A.2.length = H := by rw [← hA, sortF_len, seg_len (by omega)]
    have a1 : A.1.length = s.length := by rw [← hA]; exact sortF_spare _ _ _ _ (by rw [seg_len (by omega)]; omega)
    have aP : inP p A.2 := inP_perm (by rw [← hA]; exact sortF_perm _ _ _ _) fun i hi => h4 i (mem_seg (by omega) (by omega) hi)
    generalize hl1 : putP l lo (lo + H) A.2 = l1
    have b1 : l1.length = l.length := by rw [← hl1]; exact putP_len (by omega) (by omega) (by omega)
    have b2 : seg l1 (lo + H) (n - H) = seg l (lo + H) (n - H) := by rw [← hl1]; exact seg_putP_out (by omega) (by omega) (by omega) (by omega)
    rw [b2]
    generalize hB : srtF p A.1 (seg l (lo + H) (n - H)) = B
    have d2 : B.2.length = n - H := by rw [← hB, sortF_len, seg_len (by omega)]
    have d1 : B.1.length = s.length := by rw [← hB, ← a1]; exact sortF_spare _ _ _ _ (by rw [seg_len (by omega)]; omega)
    have dP : inP p B.2 := inP_perm (by rw [← hB]; exact sortF_perm _ _ _ _) fun i hi => h4 i (mem_seg (by omega) (by omega) hi)
    have hl2 : putP l1 (lo + H) (lo + n) B.2 = putP l lo (lo + n) (A.2 ++ B.2) := by rw [← hl1]; exact putP_next (by omega) (by omega) (by omega) (by omega)
    rw [hl2]
    have e1 : (putP l lo (lo + n) (A.2 ++ B.2)).length = l.length := putP_len (by omega) (by omega) (by rw [List.length_append]; omega)
    have g1 : gt (Sh.int .i64) (putP l lo (lo + n) (A.2 ++ B.2)) (lo + H) = gt (Sh.int .i64) B.2 0 := by
      rw [getP (by omega) (by rw [List.length_append]; omega)]
      have := getA2 (m := A.2) (m' := B.2) (j := 0)
      rw [a2] at this
      exact this
    have g2 : gt (Sh.int .i64) (putP l lo (lo + n) (A.2 ++ B.2)) (lo + (H - 1)) = gt (Sh.int .i64) A.2 (H - 1) := by
      rw [getP (by omega) (by rw [List.length_append]; omega), getA1 (by omega)]
    have s1 : seg (putP l lo (lo + n) (A.2 ++ B.2)) lo H = A.2 := by
      have := seg_putP (l := l) (a := lo) (b := lo + n) (m := A.2 ++ B.2) (c := 0) (k := H) (by omega) (by rw [List.length_append]; omega)
      rw [Nat.add_zero] at this
      rw [this, ← a2]; exact seg_all
    have s2 : seg (putP l lo (lo + n) (A.2 ++ B.2)) (lo + H) (n - H) = B.2 := by
      rw [seg_putP (by omega) (by rw [List.length_append]; omega), ← d2, ← a2]
      exact seg_all2
    have s3 : seg (putP l lo (lo + n) (A.2 ++ B.2)) lo n = A.2 ++ B.2 := by
      have := seg_putP (l := l) (a := lo) (b := lo + n) (m := A.2 ++ B.2) (c := 0) (k := n) (by omega) (by rw [List.length_append]; omega)
      rw [Nat.add_zero] at this
      rw [this]
      unfold seg
      rw [List.drop_zero]
      exact List.take_of_length_le (by rw [List.length_append]; omega)
    have sP : inP p (A.2 ++ B.2) := fun i hi => (List.mem_append.1 hi).elim (fun h => aP i h) fun h => dP i h
    have key := srt_eq (p := p) (s := s) (l := l) (lo := lo) (n := n) (A := A) (B := B) (by omega) h1 (by rw [hH]; exact hA) (by rw [hH]; exact hB)
    rw [hH] at key
    rw [g1, g2, e1]
    refine ⟨by omega, by omega, by omega, by omega, trivial, trivial, (show preSort m s lo H l p from ⟨by omega, by omega, by omega, h3, fun i hi => h4 i (mem_seg (by omega) (by omega) hi)⟩), by omega, by omega, by omega, by omega, trivial,
      (show preSort m A.1 (lo + H) (n - H) l1 p from ⟨by omega, by omega, by omega, by omega, by rw [b2]; exact fun i hi => h4 i (mem_seg (by omega) (by omega) hi)⟩), by omega, by omega, by omega, by omega, by omega, by omega, trivial, ?_, ?_⟩
    · have q1 := inP_gt dP (j := 0) (by omega)
      have q2 := inP_gt aP (j := H - 1) (by omega)
      exact ⟨q1.1, q1.2, q2.1, q2.2⟩
    · refine bc_of (fun hb => ?_) (fun hb => ?_)
      · rw [if_pos hb] at key
        refine ⟨by omega, trivial, (show preMrg B.1 lo n (putP l lo (lo + n) (A.2 ++ B.2)) (H : Int) p from ⟨by omega, by omega, by omega, by omega, by omega, by rw [s3]; exact sP⟩), ?_⟩
        rw [s1]
        refine sort_end key ?_
        unfold mrgL
        simp only [Int.toNat_natCast]
        rw [s1, s2]
        exact putP_putP (by omega) (by omega) (by rw [List.length_append]; omega)
      · rw [if_neg (by rw [hb]; decide)] at key
        exact sort_end key rfl
theorem sort_held : ∀ m, HeldI Try.prog G0 35 (ctSort m) := by
  intro m
  induction m with
  | zero => intro x hp; exact absurd hp.1 (Nat.not_lt_zero _)
  | succ m ih =>
    have cx : CxOK Try.prog tt G0 (D4 m) := cxd3.consI ih (fn := Try.f35) rfl rfl rfl
    exact HeldI.run cx (fn := Try.f35) rfl rfl ⟨(by decide : 3 ≤ Try.f35.ntmps), (by decide : 3 < 1000)⟩ fun x hp => sort_run m x.1 x.2.1.1 x.2.1.2.1 x.2.1.2.2 x.2.2.1.2.1.1 hp _
abbrev ctSort' : CtrI := ctSort 1048577
def D5 : CV := (35, .inr ctSort') :: D3
theorem cxd5 : CxOK Try.prog tt G0 D5 := cxd3.consI (sort_held _) (fn := Try.f35) rfl rfl rfl
abbrev K23 : List AK := [rI, fn24]
end Go.Proofs.Ytjcknfkddbiobaa
namespace Go.Proofs.Ytjcknfkddbiobaa
open Go.Px Go.Ax
set_option maxRecDepth 100000
theorem vc_places (l : List Int) (p : List (List Int)) (Q : List SV → List (Nat × LB) → Prop) (R : List Item → PS → Prop) : sy tt G0 D5 Try.f23.ntmps Try.f23.results.toList Q R 1000 [.code (bodyOf Try.f23)] (entryI K23 (l, ((), ((p, ()), ())), ())) =
    ((2 : Int) ≠ (0 : Int) ∧
 (0 : Int) ≤ IntKind.i64.wrap ((↑l.length : Int).tdiv (2 : Int)) ∧
 IntKind.i64.wrap ((↑l.length : Int).tdiv (2 : Int)) ≤ IntKind.i64.wrap ((↑l.length : Int).tdiv (2 : Int)) ∧
 IntKind.i64.wrap ((↑l.length : Int).tdiv (2 : Int)) < (2 : Int) ^ (24 : Nat) ∧
 (↑(8 : Nat) : Int) * IntKind.i64.wrap ((↑l.length : Int).tdiv (2 : Int)) ≤ (2 : Int) ^ (48 : Nat) ∧
 (IntKind.i64.wrap ((↑l.length : Int).tdiv (2 : Int))).toNat =
 (List.replicate (IntKind.i64.wrap ((↑l.length : Int).tdiv (2 : Int))).toNat
 (Sh.int IntKind.i64).dflt).length ∧
 p.length = p.length ∧
 ctSort'.pre
 (List.replicate (IntKind.i64.wrap ((↑l.length : Int).tdiv (2 : Int))).toNat (Sh.int IntKind.i64).dflt,
 ((0 : Nat), l.length, l), ((), (p, ()), ()), ()) ∧
 Q []
 [((7 : Nat),
 LB.row (3 : Nat) (Sh.int IntKind.i64)
 (srtF p
 (List.replicate (IntKind.i64.wrap ((↑l.length : Int).tdiv (2 : Int))).toNat
 (Sh.int IntKind.i64).dflt)
 (seg l (0 : Nat) l.length)).fst),
 ((1099511627776 : Nat),
 LB.row (3 : Nat) (Sh.int IntKind.i64)
 (putP l (0 : Nat) ((0 : Nat) + l.length)
 (srtF p
 (List.replicate (IntKind.i64.wrap ((↑l.length : Int).tdiv (2 : Int))).toNat
 (Sh.int IntKind.i64).dflt)
 (seg l (0 : Nat) l.length)).snd)),
 ((1099511627777 : Nat),
 LB.var
 [SV.win true (Sh.arr (2 : Nat) (Sh.int IntKind.i64)) (1099511627778 : Nat) (0 : Nat) p.length]),
 ((1099511627778 : Nat), LB.row (45 : Nat) (Sh.arr (2 : Nat) (Sh.int IntKind.i64)) p)]) := by kernel_rfl
end Go.Proofs.Ytjcknfkddbiobaa
namespace Go.Proofs.Ytjcknfkddbiobaa
open Go.Px Go.Ax
/-- The list, sorted by pairs. -/
abbrev srtP (p : List (List Int)) (l : List Int) : List Int := (srtF p (List.replicate (l.length / 2) 0) l).2
def prePl (l : List Int) (p : List (List Int)) : Prop := l.length < 1048576 ∧ inP p l
def ctPl : CtrI := ⟨K23, fun x => prePl x.1 x.2.1.2.1.1, fun _ => [], fun x => bkKL 0 K23 (srtP x.2.1.2.1.1 x.1, x.2)⟩
theorem places_run (l : List Int) (p : List (List Int)) (hp : prePl l p) (R : List Item → PS → Prop) : sy tt G0 D5 Try.f23.ntmps Try.f23.results.toList (QI ctPl (l, ((), ((p, ()), ())), ())) R 1000 [.code (bodyOf Try.f23)] (entryI K23 (l, ((), ((p, ()), ())), ())) := by
  obtain ⟨h1, h2⟩ := hp
  rw [vc_places]
  have i1 : IntKind.i64.wrap ((l.length : Int).tdiv 2) = ((l.length / 2 : Nat) : Int) := by rw [show (l.length : Int).tdiv 2 = ((l.length / 2 : Nat) : Int) from rfl, IntWalk.i64_in _ (by omega)]
  have sg : seg l 0 l.length = l := by
    unfold seg
    rw [List.drop_zero, List.take_length]
  rw [i1, Int.toNat_natCast, sg]
  refine ⟨by decide, by omega, by omega, by omega, by omega, by rw [List.length_replicate], rfl, (show preSort 1048577 _ 0 l.length l p from ⟨by omega, by omega, by rw [List.length_replicate]; omega, h1, by rw [sg]; exact h2⟩), ?_⟩
  have e : putP l 0 (0 + l.length) (srtF p (List.replicate (l.length / 2) (Sh.int .i64).dflt) l).2 = srtP p l := by
    unfold putP
    rw [List.take_zero, List.nil_append, Nat.zero_add, List.drop_length, List.append_nil]
    rfl
  rw [e]
  refine QI.self rfl rfl rfl ?_
  intro b hb
  simp only [ctPl, bkKL, bkK, cnt, cntL, List.append_nil, List.nil_append, List.mem_append, List.mem_cons, List.not_mem_nil, or_false] at hb
  rcases hb with rfl | rfl | rfl <;> rfl
theorem places_held : HeldI Try.prog G0 23 ctPl := HeldI.run cxd5 (fn := Try.f23) rfl rfl ⟨by decide, by decide⟩ fun x hp => places_run x.1 x.2.1.2.1.1 hp _
/-- A list that is made from the front. -/
def bld {α : Type} (f : Nat → α) (n i : Nat) (d : α) : List α := (List.range i).map f ++ List.replicate (n - i) d
theorem bld_len {α : Type} {f : Nat → α} {n i : Nat} {d : α} (h : i ≤ n) : (bld f n i d).length = n := by
  unfold bld
  simp only [List.length_append, List.length_map, List.length_range, List.length_replicate]; omega
theorem bld_set {α : Type} {f : Nat → α} {n i : Nat} {d : α} (h : i < n) : (bld f n i d).set i (f i) = bld f n (i + 1) d := by
  unfold bld
  rw [List.set_append_right _ _ (by simp)]
  simp only [List.length_map, List.length_range, Nat.sub_self]
  obtain ⟨m, hm⟩ : ∃ m, n - i = m + 1 := ⟨n - i - 1, by omega⟩
  rw [hm, show n - (i + 1) = m by omega, List.replicate_succ, List.set_cons_zero, List.range_succ, List.map_append, List.append_assoc]
  rfl
theorem bld_zero {α : Type} {f : Nat → α} {n : Nat} {d : α} : bld f n 0 d = List.replicate n d := rfl
theorem bld_all {α : Type} {f : Nat → α} {n : Nat} {d : α} : bld f n n d = (List.range n).map f := by
  unfold bld
  rw [Nat.sub_self, List.replicate_zero, List.append_nil]
/-- The pairs of ranks. -/
def pairF (r : List Int) (d : Nat) (i : Nat) : List Int := [gt (Sh.int .i64) r i, if i + d < r.length then gt (Sh.int .i64) r (i + d) else -1]
def prePa (r : List Int) (n : Int) : Prop := r.length < 1048576 ∧ 0 ≤ n ∧ n < 2097152
def ctPa : Ctr := ⟨[slI, .int .i64], fun x => prePa x.1 x.2.1, fun x => [.win true shP 0 0 x.1.length], fun x => [.row 45 shP ((List.range x.1.length).map (pairF x.1 x.2.1.toNat))]⟩
theorem gt_set {e : Sh} {l : List e.D} {i : Nat} {v : e.D} (h : i < l.length) : gt e (l.set i v) i = v := by
  have := gt_at (σ := e) (l := l.set i v) (i := i) (by rw [List.length_set]; exact h)
  rw [List.getElem?_set_self h] at this
  exact (Option.some.inj this).symm
theorem pairs_loop (r : List Int) (n : Int) (hp : prePa r n) : ∀ (m i : Nat), r.length - i ≤ m → i ≤ r.length →
    GD 22 Try.f22 (QC ctPa (r, n, ())) (hd Try.f22 0) ⟨[(0, .sl (.int .i64) r), (1, .int .i64 n), (5, .win true shP 10 0 (bld (pairF r n.toNat) r.length i shP.dflt).length), (11, .sl (.int .i64) r), (12, .int .i64 r.length), (13, .int .i64 (i : Int))], [(10, .row 45 shP (bld (pairF r n.toNat) r.length i shP.dflt))]⟩ := by
  obtain ⟨h20, hn0, hn1⟩ := hp
  have fin : GD 22 Try.f22 (QC ctPa (r, n, ())) (hd Try.f22 0) ⟨[(0, .sl (.int .i64) r), (1, .int .i64 n), (5, .win true shP 10 0 (bld (pairF r n.toNat) r.length r.length shP.dflt).length), (11, .sl (.int .i64) r), (12, .int .i64 r.length), (13, .int .i64 (r.length : Int))], [(10, .row 45 shP (bld (pairF r n.toNat) r.length r.length shP.dflt))]⟩ := by
    refine sy_go cx0 (vc_pairsL _ _ _ _ _ _) (bc_of (fun h => ?_) (fun h => ?_))
    · have h := of_decide_eq_true h; omega
    · rw [bld_len (Nat.le_refl _), bld_all]
      refine QC.row (e := shP) (et := 45) (a := 10) (k := r.length) (xs := (List.range r.length).map (pairF r n.toNat)) ?_ rfl rfl (by simp) rfl
      show [SV.win true shP 0 0 r.length] = _
      rw [List.length_map, List.length_range]
  intro m
  induction m with
  | zero =>
    intro i hm h1
    obtain rfl : i = r.length := by omega
    exact fin
  | succ m ih =>
    intro i hm h1
    by_cases hi : i < r.length
    · refine sy_go cx0 (vc_pairsL _ _ _ _ _ _) ?_
      have hl : (bld (pairF r n.toNat) r.length i shP.dflt).length = r.length := bld_len h1
      have w1 : IntKind.i64.wrap ((i : Int) + n) = ((i + n.toNat : Nat) : Int) := by rw [IntWalk.i64_in _ (by omega)]; omega
      have w2 : IntKind.i64.wrap ((i : Int) + 1) = ((i + 1 : Nat) : Int) := by rw [IntWalk.i64_in _ (by omega)]; omega
      rw [decide_eq_true (show (i : Int) < (r.length : Int) by omega), bc_t, w1, w2]
      simp only [Int.toNat_natCast, Nat.zero_add]
      have q := ih (i + 1) (by omega) (by omega)
      rw [← bld_set hi] at q
      refine ⟨by omega, by omega, by omega, by omega, by omega, bc_of (fun h => ?_) (fun h => ?_)⟩
      · have h := of_decide_eq_true h
        refine ⟨by omega, by omega, by omega, by omega, by decide, by decide, by rw [List.length_set]; omega, ?_⟩
        rw [gt_set (by omega), List.set_set]
        have e : List.set ((List.set (Sh.arr 2 (Sh.int .i64)).dflt 0 (gt (Sh.int .i64) r i)).set 1 (-1 : Int)) (Int.toNat 1 * 1) (gt (Sh.int .i64) r (i + n.toNat)) = pairF r n.toNat i := by
          unfold pairF
          rw [if_pos (by omega)]
          rfl
        rw [e]
        refine q.only ⟨rfl, rfl, ?_, rfl, rfl, rfl, trivial⟩ ⟨rfl, trivial⟩
        rw [List.length_set]; rfl
      · have h := of_decide_eq_false h
        have e : ((List.set (Sh.arr 2 (Sh.int .i64)).dflt 0 (gt (Sh.int .i64) r i)).set 1 (-1 : Int)) = pairF r n.toNat i := by
          unfold pairF
          rw [if_neg (by omega)]
          rfl
        rw [e]
        refine q.only ⟨rfl, rfl, ?_, rfl, rfl, rfl, trivial⟩ ⟨rfl, trivial⟩
        rw [List.length_set]; rfl
    · obtain rfl : i = r.length := by omega
      exact fin
theorem pairs_run (r : List Int) (n : Int) (hp : prePa r n) : sy tt G0 [] Try.f22.ntmps Try.f22.results.toList (QC ctPa (r, n, ())) (Px.Good Try.prog tt G0 22 Try.f22.ntmps Try.f22.results.toList (QC ctPa (r, n, ()))) 1000 [.code (bodyOf Try.f22)] (entry [slI, .int .i64] (r, n, ())) := by
  rw [vc_pairs]
  have h20 := hp.1
  refine ⟨by omega, Int.le_refl _, by omega, by omega, ?_⟩
  rw [Int.toNat_natCast]
  have q := pairs_loop r n hp _ 0 (Nat.le_refl _) (Nat.zero_le _)
  rw [bld_zero] at q
  refine q.only ⟨rfl, rfl, ?_, rfl, rfl, rfl, trivial⟩ ⟨rfl, trivial⟩
  rw [List.length_replicate]; rfl
theorem pairs_held : Held Try.prog G0 22 ctPa := Held.run cx0 (fn := Try.f22) rfl rfl ⟨by decide, by decide⟩ fun x hp => pairs_run x.1 x.2.1 hp
/-- The rank of the k-th place. -/
def rk (p : List (List Int)) (o : List Nat) : Nat → Nat
  | 0 => 0
  | k + 1 => rk p o k + if gt shP p ((o[k + 1]?).getD 0) ≠ gt shP p ((o[k]?).getD 0) then 1 else 0
theorem ixlt {o : List Nat} {n j : Nat} (ho : o.Perm (List.range n)) (hj : j < n) : o.idxOf j < o.length := List.idxOf_lt_length_of_mem (ho.mem_iff.2 (by simpa using hj))
theorem ixat {o : List Nat} {n j : Nat} (ho : o.Perm (List.range n)) (hj : j < n) : o[o.idxOf j]'(ixlt ho hj) = j := List.getElem_idxOf (ixlt ho hj)
def rankV (p : List (List Int)) (o : List Nat) : List Int := rowF o.length fun j => ((rk p o (o.idxOf j) : Nat) : Int)
def preRk (l : List Int) (p : List (List Int)) : Prop := p.length < 1048576 ∧ ∃ o : List Nat, o.Perm (List.range p.length) ∧ l = mapI o
def ctRk : Ctr := ⟨[slI, slP], fun x => preRk x.1 x.2.1, fun x => [.win true (.int .i64) 0 0 (List.length (rankV x.2.1 (natsOf x.1)))], fun x => [.row 3 (.int .i64) (rankV x.2.1 (natsOf x.1))]⟩
/-- The rank before the i-th round. -/
def rkc (p : List (List Int)) (o : List Nat) : Nat → Nat
  | 0 => 0
  | k + 1 => rk p o k
theorem rk_le (p : List (List Int)) (o : List Nat) : ∀ k, rk p o k ≤ k
  | 0 => Nat.le_refl _
  | k + 1 => by
    have := rk_le p o k
    rw [rk]
    split <;> omega
abbrev rkRow (p : List (List Int)) (o : List Nat) (i : Nat) : List Int := rowF o.length fun j => if o.idxOf j < i then ((rk p o (o.idxOf j) : Nat) : Int) else 0
theorem ranks_loop {p : List (List Int)} {o : List Nat} (hp : p.length < 1048576) (ho : o.Perm (List.range p.length)) : ∀ (m i : Nat), o.length - i ≤ m → i ≤ o.length →
    GD 26 Try.f26 (fun rs blk => rs = [.win true (.int .i64) 11 0 o.length] ∧ lk blk 11 = some (.row 3 (.int .i64) (rankV p o))) (hd Try.f26 0)
      ⟨[(0, .sl (.int .i64) (mapI o)), (1, .sl shP p), (5, .win true (.int .i64) 11 0 (rkRow p o i).length), (6, .int .i64 ((rkc p o i : Nat) : Int)), (12, .sl (.int .i64) (mapI o)), (13, .int .i64 (mapI o).length), (14, .int .i64 (i : Int))], [(11, .row 3 (.int .i64) (rkRow p o i))]⟩ := by
  have hlen : o.length = p.length := by simpa using ho.length_eq
  have hnd : o.Nodup := ho.nodup_iff.2 List.nodup_range
  have hlt : ∀ {j : Nat} (h : j < o.length), o[j] < p.length := fun h => by simpa using ho.mem_iff.1 (List.getElem_mem h)
  intro m
  induction m with
  | zero =>
    intro i hm h1
    refine sy_go cx0 (vc_ranksL _ _ _ _ _ _ _) (bc_of (fun h => ?_) (fun h => ?_))
    · have h := of_decide_eq_true h; rw [mapI_len] at h; omega
    · have e : rkRow p o i = rankV p o := rowF_congr fun j hj => by
        rw [if_pos (by have := ixlt ho (j := j) (by omega); omega)]
      rw [e]
      exact ⟨by rw [rankV, rowF_len], rfl⟩
  | succ m ih =>
    intro i hm h1
    by_cases hi : i < o.length
    · refine sy_go cx0 (vc_ranksL _ _ _ _ _ _ _) ?_
      have hx := hlt hi
      have g : gt (Sh.int .i64) (mapI o) (i : Int).toNat = ((o[i] : Nat) : Int) := gt_mapI hi
      have hidx : o.idxOf o[i] = i := nodup_at hnd (ixlt ho hx) hi (ixat ho hx)
      have e : (rkRow p o i).set (0 + ((o[i] : Nat) : Int).toNat) ((rk p o i : Nat) : Int) = rkRow p o (i + 1) := by
        refine rowF_set ?_ fun j hj hne => ?_
        · rw [Nat.zero_add, Int.toNat_natCast, hidx, if_pos (by omega)]
        · have r := ixlt ho (j := j) (by omega)
          have : o.idxOf j ≠ i := by
            intro q
            have := ixat ho (j := j) (by omega)
            simp only [q] at this
            rw [Nat.zero_add, Int.toNat_natCast] at hne
            exact hne this.symm
          by_cases q : o.idxOf j < i
          · rw [if_pos q, if_pos (by omega)]
          · rw [if_neg q, if_neg (by omega)]
      have hrl : (rkRow p o i).length = o.length := rowF_len _ _
      have q := ih (i + 1) (by omega) (by omega)
      rw [show rkc p o (i + 1) = rk p o i from rfl, ← e] at q
      have hw : IntKind.i64.wrap ((i : Int) + 1) = ((i + 1 : Nat) : Int) := by rw [IntWalk.i64_in _ (by omega)]; omega
      rw [g, mapI_len, decide_eq_true (show (i : Int) < (o.length : Int) by omega), bc_t, hrl, hw]
      have fin : ∀ (S : PS), GD 26 Try.f26 (fun rs blk => rs = [.win true (.int .i64) 11 0 o.length] ∧ lk blk 11 = some (.row 3 (.int .i64) (rankV p o))) (hd Try.f26 0) S → True := fun _ _ => trivial
      cases i with
      | zero =>
        refine ⟨by omega, by omega, ?_⟩
        rw [decide_eq_false (show ¬ ((0 : Int) < ((0 : Nat) : Int)) by decide), bc_f]
        refine ⟨rfl, (show (0 : Int) ≤ ((o[0] : Nat) : Int) by omega), (show ((o[0] : Nat) : Int) < (o.length : Int) by omega), (show 0 + ((o[0] : Nat) : Int).toNat < o.length by rw [Nat.zero_add, Int.toNat_natCast]; omega), ?_⟩
        refine q.only ⟨rfl, rfl, ?_, rfl, rfl, ?_, rfl, trivial⟩ ⟨rfl, trivial⟩
        · rw [List.length_set, hrl]; rfl
        · rw [mapI_len]; rfl
      | succ k =>
        refine ⟨by omega, by omega, ?_⟩
        have hw1 : IntKind.i64.wrap (((k + 1 : Nat) : Int) - 1) = (k : Int) := by rw [IntWalk.i64_in _ (by omega)]; omega
        have g2 : gt (Sh.int .i64) (mapI o) (k : Int).toNat = ((o[k]'(by omega) : Nat) : Int) := gt_mapI (by omega)
        have hy := hlt (j := k) (by omega)
        rw [decide_eq_true (show (0 : Int) < ((k + 1 : Nat) : Int) by omega), bc_t, hw1, g2]
        simp only [Int.toNat_natCast]
        have hrk : rk p o (k + 1) = rk p o k + if gt shP p o[k + 1] ≠ gt shP p (o[k]'(by omega)) then 1 else 0 := by
          rw [rk, List.getElem?_eq_getElem hi, List.getElem?_eq_getElem (show k < o.length by omega)]; rfl
        have hle := rk_le p o k
        have st : 0 + o[k + 1] < o.length := by omega
        have st1 : ((o[k + 1] : Nat) : Int) < (o.length : Int) := by omega
        have st2 : (0 : Int) ≤ ((o[k + 1] : Nat) : Int) := by omega
        rw [cond_true]
        refine ⟨st2, (show ((o[k + 1] : Nat) : Int) < (p.length : Int) by omega), by omega, by omega, (show (0 : Int) ≤ ((o[k]'(by omega) : Nat) : Int) by omega), (show ((o[k]'(by omega) : Nat) : Int) < (p.length : Int) by omega), bc_of (fun h => ?_) (fun h => ?_)⟩
        · have hne : gt shP p o[k + 1] ≠ gt shP p (o[k]'(by omega)) := by
            intro hh
            rw [decide_eq_true hh] at h
            cases h
          rw [if_pos hne] at hrk
          have hw3 : IntKind.i64.wrap (((rkc p o (k + 1) : Nat) : Int) + 1) = ((rk p o (k + 1) : Nat) : Int) := by
            rw [show rkc p o (k + 1) = rk p o k from rfl, IntWalk.i64_in _ (by omega)]; omega
          rw [hw3]
          refine ⟨st2, st1, st, ?_⟩
          refine q.only ⟨rfl, rfl, ?_, rfl, rfl, ?_, rfl, trivial⟩ ⟨rfl, trivial⟩
          · rw [List.length_set, hrl]; rfl
          · rw [mapI_len]; rfl
        · have heq : gt shP p o[k + 1] = gt shP p (o[k]'(by omega)) := by
            apply Classical.byContradiction
            intro hh
            rw [decide_eq_false hh] at h
            cases h
          rw [if_neg (fun hh => hh heq)] at hrk
          have hr : rkc p o (k + 1) = rk p o (k + 1) := hrk.symm
          rw [hr]
          refine ⟨st2, st1, st, ?_⟩
          refine q.only ⟨rfl, rfl, ?_, rfl, rfl, ?_, rfl, trivial⟩ ⟨rfl, trivial⟩
          · rw [List.length_set, hrl]; rfl
          · rw [mapI_len]; rfl
    · exact ih i (by omega) h1
theorem ranks_run (l : List Int) (p : List (List Int)) (hp : preRk l p) : sy tt G0 [] Try.f26.ntmps Try.f26.results.toList (QC ctRk (l, p, ())) (Px.Good Try.prog tt G0 26 Try.f26.ntmps Try.f26.results.toList (QC ctRk (l, p, ()))) 1000 [.code (bodyOf Try.f26)] (entry [slI, slP] (l, p, ())) := by
  obtain ⟨h20, o, ho, rfl⟩ := hp
  have hlen : o.length = p.length := by simpa using ho.length_eq
  refine (vc_ranks _ _ _ _).mpr ?_
  rw [mapI_len]
  refine ⟨by omega, Int.le_refl _, by omega, by omega, ?_⟩
  have e0 : List.replicate ((o.length : Nat) : Int).toNat (Sh.int .i64).dflt = rkRow p o 0 := by
    rw [Int.toNat_natCast]
    apply List.ext_getElem
    · simp [rowF]
    · intro j h1 h2
      simp [rowF]; rfl
  rw [e0]
  refine ((ranks_loop h20 ho _ 0 (Nat.le_refl _) (Nat.zero_le _)).post fun rs blk hq => ?_).only ⟨rfl, rfl, ?_, rfl, rfl, ?_, rfl, trivial⟩ ⟨rfl, trivial⟩
  · refine QC.row (e := .int .i64) (et := 3) (a := 11) (k := o.length) (xs := rankV p o) ?_ ?_ hq.1 (by rw [rankV, rowF_len]) hq.2
    · simp only [ctRk, nats_map]
    · simp only [ctRk, nats_map]
  · rw [rowF_len, Int.toNat_natCast]; rfl
  · rw [mapI_len]; rfl
theorem ranks_held : Held Try.prog G0 26 ctRk := Held.run cx0 (fn := Try.f26) rfl rfl ⟨by decide, by decide⟩ fun x hp => ranks_run x.1 x.2.1 hp
def D6 : CV := (22, .inl ctPa) :: (26, .inl ctRk) :: (23, .inr ctPl) :: []
theorem cxd6 : CxOK Try.prog tt G0 D6 := ((cx0.consI places_held (fn := Try.f23) rfl rfl rfl).cons ranks_held (fn := Try.f26) rfl rfl rfl).cons pairs_held (fn := Try.f22) rfl rfl rfl
end Go.Proofs.Ytjcknfkddbiobaa
