/-
  A part of the proof: what a piece of the program gives; conditions: those of each theorem.
-/
import Derived.Test.YtijeaicbnfiegaaSv7
import Derived.Test.YtijeaicbnfiegaaSm3
set_option linter.unusedVariables false
namespace Go.Proofs.Ytijeaicbnfiegaa
open Go.Px Go.Ax
theorem midW {l h : Nat} (hl : l ≤ h) (hb : h < 2 ^ 62) : IntKind.i64.wrap ((l : Int) + IntKind.i64.wrap ((IntKind.i64.wrap ((h : Int) - (l : Int))).tdiv 2)) = ((l + (h - l) / 2 : Nat) : Int) := by
  rw [IntWalk.i64_in ((h : Int) - l) (by omega), Int.tdiv_eq_ediv_of_nonneg (by omega), IntWalk.i64_in (((h : Int) - l) / 2) (by omega), IntWalk.i64_in _ (by omega)]
  omega
theorem sfx_nat (b : List Int) (k : Nat) : sfx b (k : Int) = b.drop k := by
  rw [sfx, if_neg (by omega), Int.toNat_natCast]
def preClo (b o s : List Int) : Prop := preOrd b o ∧ s.length < 1048576
def cloR (b o s : List Int) : Nat × Nat := clo b s (natsOf o) (natsOf o).length 0 (natsOf o).length 0 0
def ctClo : Ctr := ⟨[slB, slI, slB], fun x => preClo x.1 x.2.1 x.2.2.1, fun x => [.int .i64 ((cloR x.1 x.2.1 x.2.2.1).1 : Nat), .int .i64 ((cloR x.1 x.2.1 x.2.2.1).2 : Nat)], fun _ => []⟩
theorem clo_loop {b s : List Int} {o : List Nat} (ho : OrdOK b o) (hb : b.length < 1048576) (hs : s.length < 1048576) : ∀ (f low high best n : Nat), high - low ≤ f → low ≤ high → high ≤ o.length →
    GD 27 Try.f27 (fun rs _ => rs = [.int .i64 ((clo b s o f low high best n).1 : Nat), .int .i64 ((clo b s o f low high best n).2 : Nat)]) (hd Try.f27 0)
      ⟨[(0, .sl (.int .u8) b), (1, .sl (.int .i64) (mapI o)), (2, .sl (.int .u8) s), (6, .int .i64 (best : Nat)), (7, .int .i64 (n : Nat)), (8, .int .i64 (low : Nat)), (9, .int .i64 (high : Nat))], []⟩ := by
  have hol := ho.len
  have hml : (mapI o).length = o.length := mapI_len o
  intro f
  induction f with
  | zero =>
    intro low high best n hf h1 h2
    refine sy_go cx4 (vc_cloL _ _ _ _ _ _ _ _ _) (bc_of (fun h => ?_) (fun h => ?_))
    · have h := of_decide_eq_true h; omega
    · rfl
  | succ f ih =>
    intro low high best n hf h1 h2
    by_cases hlt : low < high
    · have hm1 : low + (high - low) / 2 < high := by omega
      have hm2 : low ≤ low + (high - low) / 2 := by omega
      have hml2 : low + (high - low) / 2 < o.length := by omega
      have g1 : gt (Sh.int .i64) (mapI o) ((low + (high - low) / 2 : Nat) : Int).toNat = ((o[low + (high - low) / 2] : Nat) : Int) := gt_mapI hml2
      have hsf : sfx b ((o[low + (high - low) / 2] : Nat) : Int) = sf b o (low + (high - low) / 2) := by rw [sfx_nat, sf, getD_at hml2]
      have hlen : (sf b o (low + (high - low) / 2)).length < 1048576 := by unfold sf; rw [List.length_drop]; omega
      refine sy_go cx4 (vc_cloL _ _ _ _ _ _ _ _ _) ?_
      simp only [midW h1 (by omega : high < 2 ^ 62), g1, hsf]
      rw [decide_eq_true (show (low : Int) < (high : Int) by omega), bc_t]
      refine ⟨by decide, by omega, by rw [hml]; omega, trivial, ⟨by show List.length (sf b o _) < 2 ^ 62; omega, by show List.length s < 2 ^ 62; omega⟩, ?_⟩
      have hclo : ∀ bb nn, (if n < lc b s o (low + (high - low) / 2) then (low + (high - low) / 2, lc b s o (low + (high - low) / 2)) else (best, n)) = (bb, nn) →
          clo b s o (f + 1) low high best n = if lc b s o (low + (high - low) / 2) = s.length then (bb, nn) else if lexLt (sf b o (low + (high - low) / 2)) s then clo b s o f (low + (high - low) / 2 + 1) high bb nn else clo b s o f low (low + (high - low) / 2) bb nn := by
        intro bb nn e
        rw [clo, if_pos hlt]
        simp only [e]
      have hlc : lc b s o (low + (high - low) / 2) = lcp (sf b o (low + (high - low) / 2)) s := rfl
      rw [hlc] at hclo
      generalize low + (high - low) / 2 = mid at *
      generalize sf b o mid = X at *
      have hle1 := lcp_le X s
      have hle2 := lcp_le s X
      rw [lcp_comm] at hle2
      have e1 : IntKind.i64.wrap ((mid : Int) + 1) = ((mid + 1 : Nat) : Int) := by rw [IntWalk.i64_in _ (by omega)]; omega
      have LO : ∀ bb nn, (if n < lcp X s then (mid, lcp X s) else (best, n)) = (bb, nn) → lcp X s ≠ s.length → lexLt X s = true → GD 27 Try.f27 (fun rs _ => rs = [.int .i64 ((clo b s o (f + 1) low high best n).1 : Nat), .int .i64 ((clo b s o (f + 1) low high best n).2 : Nat)]) (hd Try.f27 0)
            ⟨[(0, .sl (.int .u8) b), (1, .sl (.int .i64) (mapI o)), (2, .sl (.int .u8) s), (6, .int .i64 (bb : Nat)), (7, .int .i64 (nn : Nat)), (8, .int .i64 (mid + 1 : Nat)), (9, .int .i64 (high : Nat))], []⟩ := fun bb nn q1 q2 q3 =>
        (ih (mid + 1) high bb nn (by omega) (by omega) h2).post fun rs blk h => by rw [hclo bb nn q1, if_neg q2, if_pos q3]; exact h
      have HI : ∀ bb nn, (if n < lcp X s then (mid, lcp X s) else (best, n)) = (bb, nn) → lcp X s ≠ s.length → lexLt X s = false → GD 27 Try.f27 (fun rs _ => rs = [.int .i64 ((clo b s o (f + 1) low high best n).1 : Nat), .int .i64 ((clo b s o (f + 1) low high best n).2 : Nat)]) (hd Try.f27 0)
            ⟨[(0, .sl (.int .u8) b), (1, .sl (.int .i64) (mapI o)), (2, .sl (.int .u8) s), (6, .int .i64 (bb : Nat)), (7, .int .i64 (nn : Nat)), (8, .int .i64 (low : Nat)), (9, .int .i64 (mid : Nat))], []⟩ := fun bb nn q1 q2 q3 =>
        (ih low mid bb nn (by omega) (by omega) (by omega)).post fun rs blk h => by rw [hclo bb nn q1, if_neg q2, if_neg (by rw [q3]; decide)]; exact h
      have cmp : lcp X s ≠ s.length → (lcp X s = X.length → lexLt X s = true) ∧ ∀ (h : lcp X s < X.length) (h2 : lcp X s < s.length), lexLt X s = decide (X[lcp X s] < s[lcp X s]) := fun q => ⟨(lcp_cmp (by omega)).1, fun h h2 => ((lcp_cmp (by omega)).2 h h2).2⟩
      simp only [e1]
      refine bc_of (fun h => ?_) (fun h => ?_)
      · have hn := of_decide_eq_true h
        have hr : (if n < lcp X s then (mid, lcp X s) else (best, n)) = (mid, lcp X s) := if_pos (by omega)
        refine bc_of (fun h3 => ?_) (fun h3 => ?_)
        · have h3 := of_decide_eq_true h3
          show [SV.int _ _, SV.int _ _] = [SV.int _ _, SV.int _ _]
          rw [hclo _ _ hr, if_pos (by omega)]
        · have h3 : ¬ ((lcp X s : Nat) : Int) = s.length := of_decide_eq_false h3
          have hne : lcp X s ≠ s.length := by omega
          refine bc_of (fun h4 => ?_) (fun h4 => ?_)
          · have h4 := of_decide_eq_true h4
            exact ⟨trivial, (LO _ _ hr hne ((cmp hne).1 (by omega))).only ⟨rfl, rfl, rfl, rfl, rfl, rfl, rfl, trivial⟩ trivial⟩
          · have h4 : ¬ ((lcp X s : Nat) : Int) = X.length := of_decide_eq_false h4
            have p1 : lcp X s < X.length := by omega
            have p2 : lcp X s < s.length := by omega
            have g2 : gt (Sh.int .u8) X ((lcp X s : Nat) : Int).toNat = X[lcp X s] := gt_eq p1
            have g3 : gt (Sh.int .u8) s ((lcp X s : Nat) : Int).toNat = s[lcp X s] := gt_eq p2
            have hx := (cmp hne).2 p1 p2
            simp only [g2, g3]
            refine ⟨by omega, by omega, by omega, by omega, bc_of (fun h5 => ?_) (fun h5 => ?_)⟩
            · exact (LO _ _ hr hne (by rw [hx]; exact h5)).only ⟨rfl, rfl, rfl, rfl, rfl, rfl, rfl, trivial⟩ trivial
            · exact (HI _ _ hr hne (by rw [hx]; exact h5)).only ⟨rfl, rfl, rfl, rfl, rfl, rfl, rfl, trivial⟩ trivial
      · have hn := of_decide_eq_false h
        have hr : (if n < lcp X s then (mid, lcp X s) else (best, n)) = (best, n) := if_neg (by omega)
        refine bc_of (fun h3 => ?_) (fun h3 => ?_)
        · have h3 := of_decide_eq_true h3
          show [SV.int _ _, SV.int _ _] = [SV.int _ _, SV.int _ _]
          rw [hclo _ _ hr, if_pos (by omega)]
        · have h3 : ¬ ((lcp X s : Nat) : Int) = s.length := of_decide_eq_false h3
          have hne : lcp X s ≠ s.length := by omega
          refine bc_of (fun h4 => ?_) (fun h4 => ?_)
          · have h4 := of_decide_eq_true h4
            exact ⟨trivial, (LO _ _ hr hne ((cmp hne).1 (by omega))).only ⟨rfl, rfl, rfl, rfl, rfl, rfl, rfl, trivial⟩ trivial⟩
          · have h4 : ¬ ((lcp X s : Nat) : Int) = X.length := of_decide_eq_false h4
            have p1 : lcp X s < X.length := by omega
            have p2 : lcp X s < s.length := by omega
            have g2 : gt (Sh.int .u8) X ((lcp X s : Nat) : Int).toNat = X[lcp X s] := gt_eq p1
            have g3 : gt (Sh.int .u8) s ((lcp X s : Nat) : Int).toNat = s[lcp X s] := gt_eq p2
            have hx := (cmp hne).2 p1 p2
            simp only [g2, g3]
            refine ⟨by omega, by omega, by omega, by omega, bc_of (fun h5 => ?_) (fun h5 => ?_)⟩
            · exact (LO _ _ hr hne (by rw [hx]; exact h5)).only ⟨rfl, rfl, rfl, rfl, rfl, rfl, rfl, trivial⟩ trivial
            · exact (HI _ _ hr hne (by rw [hx]; exact h5)).only ⟨rfl, rfl, rfl, rfl, rfl, rfl, rfl, trivial⟩ trivial
    · obtain rfl : low = high := by omega
      refine sy_go cx4 (vc_cloL _ _ _ _ _ _ _ _ _) (bc_of (fun h => ?_) (fun h => ?_))
      · have h := of_decide_eq_true h; omega
      · show [SV.int _ _, SV.int _ _] = [SV.int _ _, SV.int _ _]
        rw [clo, if_neg (by omega)]
theorem clo_run (b o s : List Int) (hp : preClo b o s) : sy tt G0 C4 Try.f27.ntmps Try.f27.results.toList (QC ctClo (b, o, s, ())) (Px.Good Try.prog tt G0 27 Try.f27.ntmps Try.f27.results.toList (QC ctClo (b, o, s, ()))) 1000 [.code (bodyOf Try.f27)] (entry [slB, slI, slB] (b, o, s, ())) := by
  obtain ⟨⟨hb, p, ho, rfl⟩, hs⟩ := hp
  refine (vc_clo _ _ _ _ _).mpr ?_
  refine ((clo_loop ho hb hs p.length 0 p.length 0 0 (by omega) (by omega) (Nat.le_refl _)).post fun rs blk h => QC.flat ?_ rfl (by rw [h]; rfl)).only ⟨rfl, rfl, rfl, rfl, rfl, rfl, ?_, trivial⟩ trivial
  · rw [h]
    simp only [ctClo, cloR, nats_map]
  · rw [mapI_len]; rfl
theorem clo_held : Held Try.prog G0 27 ctClo := Held.run cx4 (fn := Try.f27) rfl rfl ⟨by decide, by decide⟩ fun x hp => clo_run x.1 x.2.1 x.2.2.1 hp
theorem clo_spec {b s : List Int} {o : List Nat} (ho : OrdOK b o) : CloR b s o (clo b s o o.length 0 o.length 0 0).1 (clo b s o o.length 0 o.length 0 0).2 :=
  clo_ok ho _ _ _ _ _ (by omega) ⟨⟨by omega, Nat.le_refl _⟩, fun k h => by omega, fun k h h2 => by omega, .inl rfl, .inl rfl, fun h => by omega, fun _ => rfl⟩
end Go.Proofs.Ytijeaicbnfiegaa
