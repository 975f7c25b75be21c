/-
  A part of the proof: what the run over an abstract memory gives; conditions: those of each theorem.
-/
import Derived.Test.YtpfenodmchhglaaA26
namespace Go.Ax
section
variable {P : Program} {F : FuncId → Bool} {ev ev' : Req → Option Res} {ops : Array Oper} {n : Nat}
theorem opEff_mono (h : ∀ r res, ev r = some res → ev' r = some res) {o : Oper} {E : T Value} {H : AHeap} {r : Value × AHeap} (he : opEff P F ev ops o E H = some r) : opEff P F ev' ops o E H = some r := by
  unfold opEff at he ⊢
  cases hw : aWanted ops o E with
  | none => rw [hw] at he; cases he
  | some t =>
    rw [hw] at he
    cases t with
    | false => exact he
    | true =>
      simp only at he ⊢
      cases ha : aOp P F (aEval E) H o with
      | none => rw [ha] at he; cases he
      | some x =>
        obtain ⟨x, H'⟩ := x
        rw [ha] at he
        cases x with
        | val v => exact he
        | skip => exact he
        | enter f args =>
          simp only at he ⊢
          cases hc : ev (.call f args H') with
          | none => rw [hc] at he; cases he
          | some q => rw [hc] at he; rw [h _ _ hc]; exact he
        | yld l args =>
          simp only at he ⊢
          cases hc : ev (.round l args H') with
          | none => rw [hc] at he; cases he
          | some q => rw [hc] at he; rw [h _ _ hc]; exact he
theorem opStep_mono (h : ∀ r res, ev r = some res → ev' r = some res) {i : Nat} {x y : T Value × AHeap} (he : opStep P F ev n ops i x = some y) : opStep P F ev' n ops i x = some y := by
  unfold opStep at he ⊢
  cases ho : ops[i]? with
  | none => rw [ho] at he; cases he
  | some o =>
    rw [ho] at he
    simp only at he ⊢
    rw [Option.bind_eq_some_iff] at he ⊢
    obtain ⟨r, hr, he⟩ := he
    exact ⟨r, opEff_mono h hr, he⟩
theorem opsRun_mono (h : ∀ r res, ev r = some res → ev' r = some res) : ∀ (l : List Nat) (x y : T Value × AHeap), opsRun P F ev n ops l x = some y → opsRun P F ev' n ops l x = some y
  | [], _, _, he => he
  | i :: l, x, y, he => by
    simp only [opsRun] at he ⊢
    rw [Option.bind_eq_some_iff] at he ⊢
    obtain ⟨z, hz, he⟩ := he
    exact ⟨z, opStep_mono h hz, opsRun_mono h l z y he⟩
theorem opsCol_mono (h : ∀ r res, ev r = some res → ev' r = some res) : ∀ (l : List Nat) (x : T Value × AHeap) (y), opsCol P F ev n ops l x = some y → opsCol P F ev' n ops l x = some y
  | [], _, _, he => he
  | i :: l, x, y, he => by
    simp only [opsCol] at he ⊢
    split at he
    · rename_i o x1 ho hx
      rw [ho, opStep_mono h hx]
      simp only
      split at he
      · rename_i y1 bs hs hc
        rw [opsCol_mono h l x1 _ hc]
        exact he
      · cases he
    · cases he
theorem opsDraw_mono (h : ∀ r res, ev r = some res → ev' r = some res) {x y : T Value × AHeap} (he : opsDraw P F ev n ops x = some y) : opsDraw P F ev' n ops x = some y := by
  unfold opsDraw at he ⊢
  split at he
  · rename_i hd
    rw [if_pos hd]
    split at he
    · rename_i y1 bs hs hc
      rw [opsCol_mono h _ _ _ hc]
      exact he
    · cases he
  · cases he
end
section
variable {P : Program} {F : FuncId → Option Func} {ev ev' : Req → Option Res}
theorem codeStep_mono (h : ∀ r res, ev r = some res → ev' r = some res) {fs : FrS} {c : Code} {s : AS} {res : Res} (he : codeStep P F ev fs c s = some res) : codeStep P F ev' fs c s = some res := by
  cases c with
  | seq x y =>
    simp only [codeStep] at he ⊢
    split at he
    · rename_i s1 hx; rw [h _ _ hx]; exact h _ _ he
    · rename_i hne
      rw [h _ _ he]
      split
      · rename_i s1 e; cases e; exact absurd he (hne _)
      · rfl
  | cond c x y =>
    simp only [codeStep] at he ⊢
    split at he
    · exact h _ _ he
    · cases he
  | block id c =>
    simp only [codeStep] at he ⊢
    split at he
    · rename_i id' s1 hc; rw [h _ _ hc]; exact he
    · rename_i hne
      rw [h _ _ he]
      split
      · rename_i id' s1 e; cases e; exact absurd he (hne _ _)
      · rfl
  | loop c =>
    simp only [codeStep] at he ⊢
    split at he
    · rename_i s1 hx; rw [h _ _ hx]; exact h _ _ he
    · rename_i hne
      rw [h _ _ he]
      split
      · rename_i s1 e; cases e; exact absurd he (hne _)
      · rfl
  | scope c => simp only [codeStep] at he ⊢; exact h _ _ he
  | region id ops draw =>
    cases draw <;> simp only [codeStep] at he ⊢ <;> rw [Option.map_eq_some_iff] at he ⊢ <;> obtain ⟨r, hr, he⟩ := he
    · exact ⟨r, opsRun_mono h _ _ _ hr, he⟩
    · exact ⟨r, opsDraw_mono h hr, he⟩
  | rangeFunc f ps assign body =>
    simp only [codeStep] at he ⊢
    split at he
    · rename_i g first captured hf
      split at he
      · rename_i hg
        rw [if_pos hg]
        split at he
        · split at he
          · rename_i h0
            rw [if_pos h0]
            split at he
            · rename_i h1
              rw [if_pos h1]
              split at he
              · rename_i v H3 hc; rw [h _ _ hc]; exact he
              · cases he
            · cases he
          · cases he
        · split at he
          · split at he
            · rename_i h1
              rw [if_pos h1]
              split at he
              · rename_i v H3 hc; rw [h _ _ hc]; exact he
              · cases he
            · cases he
          · cases he
      · cases he
    · cases he
  | _ => exact he
theorem eval_mono : ∀ (k : Nat) (r : Req) (res : Res), eval P F k r = some res → eval P F (k + 1) r = some res
  | 0, r, res, h => by cases r <;> simp [eval] at h
  | k + 1, r, res, h => by
    have ih := eval_mono k
    cases r with
    | code fs c s => rw [eval] at h ⊢; exact codeStep_mono ih h
    | again fs c s =>
      rw [eval] at h ⊢
      split at h
      · rename_i s1 hx; rw [ih _ _ hx]; exact ih _ _ h
      · rename_i hne
        rw [ih _ _ h]
        split
        · rename_i s1 e; cases e; exact absurd h (hne _)
        · rfl
    | scope fs body rest s =>
      rw [eval] at h ⊢
      split at h
      · rename_i l s1 hx
        rw [ih _ _ hx]
        simp only
        cases hr : findLabel body l with
        | some r => rw [hr] at h; exact ih _ _ h
        | none => rw [hr] at h; exact h
      · rename_i hne
        rw [ih _ _ h]
        split
        · rename_i l s1 e; cases e; exact absurd h (hne _ _)
        · rfl
    | call f args H =>
      rw [eval] at h ⊢
      split at h
      · rename_i fn hfn
        split at h
        · rename_i c hb
          split at h
          · rename_i hn
            rw [if_pos hn]
            split at h
            · rename_i e s hc; rw [ih _ _ hc]; exact h
            · cases h
          · cases h
        · cases h
      · cases h
    | round l args H =>
      rw [eval] at h ⊢
      split at h
      · rename_i L E n hl
        split at h
        · rename_i hc
          rw [if_pos hc]
          split at h
          · rename_i E1 hp
            split at h
            · rename_i s1 ha
              rw [ih _ _ ha]
              simp only
              split at h
              · rename_i L1 E' n' h1
                split at h
                · rename_i hr
                  rw [if_pos hr]
                  split at h
                  · rename_i e s3 hb; rw [ih _ _ hb]; exact h
                  · cases h
                · cases h
              · cases h
            · cases h
          · cases h
        · cases h
      · cases h
theorem eval_le {k k' : Nat} (hk : k ≤ k') {r : Req} {res : Res} (h : eval P F k r = some res) : eval P F k' r = some res := by
  induction hk with
  | refl => exact h
  | step _ ih => exact eval_mono _ _ _ ih
end
end Go.Ax
