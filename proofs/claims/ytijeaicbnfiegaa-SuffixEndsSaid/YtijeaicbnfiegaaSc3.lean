/-
  A part of the proof: what a piece of the program gives; conditions: those of each theorem.
-/
import Derived.Test.YtijeaicbnfiegaaSv3
set_option linter.unusedVariables false
namespace Go.Proofs.Ytijeaicbnfiegaa
open Go.Px Go.Ax
theorem lcp_add : ∀ (n : Nat) (a c : List Int), n ≤ lcp a c → n + lcp (a.drop n) (c.drop n) = lcp a c
  | 0, a, c, _ => by simp
  | n + 1, [], c, h => by simp [lcp] at h
  | n + 1, _ :: _, [], h => by simp [lcp] at h
  | n + 1, x :: a, y :: c, h => by
    simp only [lcp] at h ⊢
    split at h
    · rename_i e
      rw [if_pos e]
      have := lcp_add n a c (by omega)
      simp only [List.drop_succ_cons]
      omega
    · omega
/-- What each suffix has in common with the one before. -/
def comV (b : List Int) (o : List Nat) : List Int := rowF o.length fun k => ((adjN b o k : Nat) : Int)
def ctCom : Ctr := ⟨[slB, slI], fun x => preOrd x.1 x.2.1, fun x => [.win true (.int .i64) 0 0 (List.length (comV x.1 (natsOf x.2.1)))], fun x => [.row 3 (.int .i64) (comV x.1 (natsOf x.2.1))]⟩
def comP (b : List Int) (o : List Nat) (i : Nat) : List Int := rowF o.length fun k => if o.getD k 0 < i then ((adjN b o k : Nat) : Int) else 0
theorem com_loop {b : List Int} {o : List Nat} (ho : OrdOK b o) (hb : b.length < 1048576) : ∀ (m i n : Nat), o.length - i ≤ m → i ≤ o.length → (i < o.length → n ≤ adjN b o (o.idxOf i)) →
    GD 17 Try.f17 (fun rs blk => rs = [.win true (.int .i64) 11 0 o.length] ∧ lk blk 11 = some (.row 3 (.int .i64) (comV b o))) (hd Try.f17 0)
      ⟨[(0, .sl (.int .u8) b), (1, .sl (.int .i64) (mapI o)), (5, .win true (.int .i64) 11 0 (comP b o i).length), (6, .int .i64 (n : Int)), (15, .win true (.int .i64) 1061440 0 (idxV o).length), (16, .int .i64 (idxV o).length), (17, .int .i64 (i : Int))], [(11, .row 3 (.int .i64) (comP b o i)), (1061440, .row 3 (.int .i64) (idxV o))]⟩ := by
  have hlen := ho.len
  have hq : (idxV o).length = o.length := by rw [idxV, rowF_len]
  have hr : ∀ i, (comP b o i).length = o.length := fun i => by rw [comP, rowF_len]
  intro m
  induction m with
  | zero =>
    intro i n hm h1 h2
    refine sy_go cx2 (vc_comL _ _ _ _ _ _ _ _) (bc_of (fun h => ?_) (fun h => ?_))
    · have h := of_decide_eq_true h; rw [hq] at h; omega
    · have e : comP b o i = comV b o := rowF_congr fun j hj => by
        rw [if_pos]
        have := ho.lt (List.getElem_mem hj)
        rw [getD_at hj]; omega
      rw [hr, e]
      exact ⟨rfl, rfl⟩
  | succ m ih =>
    intro i n hm h1 h2
    by_cases hi : i < o.length
    · have h2 := h2 hi
      have r := rank_lt ho (i := i) (by omega)
      have ra := rank_at ho r
      have g : gt (Sh.int .i64) (idxV o) (0 + (i : Int).toNat) = ((o.idxOf i : Nat) : Int) := by rw [Nat.zero_add]; exact gt_rowF hi
      have hal := adjN_le b o (o.idxOf i)
      have hnext : ∀ n', n' ≤ adjN b o (o.idxOf i) - 1 → (i + 1 < o.length → n' ≤ adjN b o (o.idxOf (i + 1))) := fun n' hn' hi1 => Nat.le_trans hn' (kasai ho (by omega))
      refine sy_go cx2 (vc_comL _ _ _ _ _ _ _ _) ?_
      rw [g, hq, hr, mapI_len, decide_eq_true (show (i : Int) < (o.length : Int) by omega), bc_t]
      refine ⟨by omega, by omega, by omega, bc_of (fun h => ?_) (fun h => ?_)⟩
      · have hk : 0 < o.idxOf i := by have := of_decide_eq_true h; omega
        have hkl : o.idxOf i - 1 < o.length := by omega
        have e1 : IntKind.i64.wrap (((o.idxOf i : Nat) : Int) - 1) = ((o.idxOf i - 1 : Nat) : Int) := by rw [IntWalk.i64_in _ (by omega)]; omega
        have g2 : gt (Sh.int .i64) (mapI o) (((o.idxOf i - 1 : Nat) : Int)).toNat = ((o[o.idxOf i - 1] : Nat) : Int) := gt_mapI hkl
        have hj : o[o.idxOf i - 1] < b.length := ho.lt (List.getElem_mem hkl)
        have ha : adjN b o (o.idxOf i) = lcp (b.drop i) (b.drop o[o.idxOf i - 1]) := by
          unfold adjN
          rw [if_neg (by omega), getD_at r, getD_at hkl, ra]
        rw [e1, g2]
        have e2 : IntKind.i64.wrap ((i : Int) + n) = ((i + n : Nat) : Int) := by rw [IntWalk.i64_in _ (by omega)]; omega
        have e3 : IntKind.i64.wrap (((o[o.idxOf i - 1] : Nat) : Int) + n) = ((o[o.idxOf i - 1] + n : Nat) : Int) := by rw [IntWalk.i64_in _ (by omega)]; omega
        rw [e2, e3]
        have s1 : sfx b ((i + n : Nat) : Int) = (b.drop i).drop n := by
          rw [sfx, if_neg (by omega), Int.toNat_natCast, List.drop_drop]
        have s2 : sfx b ((o[o.idxOf i - 1] + n : Nat) : Int) = (b.drop o[o.idxOf i - 1]).drop n := by
          rw [sfx, if_neg (by omega), Int.toNat_natCast, List.drop_drop]
        rw [s1, s2]
        have e4 : n + lcp ((b.drop i).drop n) ((b.drop o[o.idxOf i - 1]).drop n) = adjN b o (o.idxOf i) := by rw [ha]; exact lcp_add n _ _ (by rw [← ha]; exact h2)
        have e5 : IntKind.i64.wrap ((n : Int) + (lcp ((b.drop i).drop n) ((b.drop o[o.idxOf i - 1]).drop n) : Nat)) = ((adjN b o (o.idxOf i) : Nat) : Int) := by rw [IntWalk.i64_in _ (by omega)]; omega
        rw [e5]
        have e6 : max (IntKind.i64.wrap (((adjN b o (o.idxOf i) : Nat) : Int) - 1)) 0 = ((adjN b o (o.idxOf i) - 1 : Nat) : Int) := by rw [IntWalk.i64_in _ (by omega)]; omega
        rw [e6]
        refine ⟨trivial, by omega, Int.ofNat_lt.2 hkl, trivial, ⟨?_, ?_⟩, by omega, Int.ofNat_lt.2 r, by rw [Int.toNat_natCast, Nat.zero_add]; exact r, ?_⟩
        · show List.length ((b.drop i).drop n) < 2 ^ 62
          rw [List.length_drop, List.length_drop]; omega
        · show List.length ((b.drop o[o.idxOf i - 1]).drop n) < 2 ^ 62
          rw [List.length_drop, List.length_drop]; omega
        · have e7 : (comP b o i).set (0 + ((o.idxOf i : Nat) : Int).toNat) ((adjN b o (o.idxOf i) : Nat) : Int) = comP b o (i + 1) := by
            refine rowF_set ?_ fun j hj hne => ?_
            · rw [Nat.zero_add, Int.toNat_natCast, getD_at r, ra, if_pos (by omega)]
            · rw [Nat.zero_add, Int.toNat_natCast] at hne
              rw [getD_at hj]
              have : o[j] ≠ i := fun q => hne (nodup_at ho.nodup hj r (by rw [ra]; exact q))
              by_cases q : o[j] < i
              · rw [if_pos q, if_pos (by omega)]
              · rw [if_neg q, if_neg (by omega)]
          rw [e7, IntWalk.i64_in ((i : Int) + 1) (by omega)]
          refine (ih (i + 1) (adjN b o (o.idxOf i) - 1) (by omega) (by omega) (hnext _ (Nat.le_refl _))).only ⟨rfl, rfl, ?_, rfl, ?_, ?_, rfl, trivial⟩ ⟨rfl, rfl, trivial⟩
          · rw [hr]; rfl
          · rw [hq]; rfl
          · rw [hq]; rfl
      · have hk : o.idxOf i = 0 := by have := of_decide_eq_false h; omega
        have hn : n = 0 := by rw [hk] at h2; simpa [adjN] using h2
        subst hn
        have e7 : comP b o i = comP b o (i + 1) := rowF_congr fun j hj => by
          rw [getD_at hj]
          by_cases hj0 : o[j] = i
          · have : j = o.idxOf i := nodup_at ho.nodup hj r (by rw [ra]; exact hj0)
            have h0 : adjN b o j = 0 := by rw [this, hk]; simp [adjN]
            rw [h0]
            simp
          · by_cases q : o[j] < i
            · rw [if_pos q, if_pos (by omega)]
            · rw [if_neg q, if_neg (by omega)]
        have e6 : max (IntKind.i64.wrap (((0 : Nat) : Int) - 1)) 0 = ((0 : Nat) : Int) := by decide
        rw [e6, e7, IntWalk.i64_in ((i : Int) + 1) (by omega)]
        refine (ih (i + 1) 0 (by omega) (by omega) (fun _ => Nat.zero_le _)).only ⟨rfl, rfl, ?_, rfl, ?_, ?_, rfl, trivial⟩ ⟨rfl, rfl, trivial⟩
        · rw [hr]; rfl
        · rw [hq]; rfl
        · rw [hq]; rfl
    · exact ih i n (by omega) h1 h2
theorem com_run (b o : List Int) (hp : preOrd b o) : sy tt G0 C2 Try.f17.ntmps Try.f17.results.toList (QC ctCom (b, o, ())) (Px.Good Try.prog tt G0 17 Try.f17.ntmps Try.f17.results.toList (QC ctCom (b, o, ()))) 1000 [.code (bodyOf Try.f17)] (entry [slB, slI] (b, o, ())) := by
  have hp0 := hp
  obtain ⟨hb, p, ho, rfl⟩ := hp
  have hlen := ho.len
  refine (vc_com _ _ _ _).mpr ?_
  have hq : (idxV p).length = p.length := by rw [idxV, rowF_len]
  rw [mapI_len, nats_map]
  refine ⟨by omega, Int.le_refl _, by omega, by omega, ⟨⟨b, hp0⟩, by show (b.length : Int) = ((mapI p).length : Nat); rw [mapI_len, hlen]⟩, ?_⟩
  have e0 : List.replicate ((p.length : Nat) : Int).toNat (Sh.int .i64).dflt = comP b p 0 := by
    rw [Int.toNat_natCast]
    apply List.ext_getElem
    · simp [comP, rowF]
    · intro j h1 h2
      simp [comP, rowF]; rfl
  rw [e0]
  refine ((com_loop ho hb _ 0 0 (Nat.le_refl _) (by omega) (fun _ => Nat.zero_le _)).post fun rs blk h => ?_).only ⟨rfl, rfl, ?_, rfl, ?_, ?_, rfl, trivial⟩ ⟨rfl, rfl, trivial⟩
  · refine QC.row (e := .int .i64) (et := 3) (a := 11) (k := p.length) (xs := comV b p) ?_ ?_ h.1 (by rw [comV, rowF_len]) h.2
    · simp only [ctCom, nats_map]
    · simp only [ctCom, nats_map]
  · rw [comP, rowF_len, Int.toNat_natCast]; rfl
  · rfl
  · rfl
theorem com_held : Held Try.prog G0 17 ctCom := Held.run cx2 (fn := Try.f17) rfl rfl ⟨by decide, by decide⟩ fun x hp => com_run x.1 x.2.1 hp
end Go.Proofs.Ytijeaicbnfiegaa
