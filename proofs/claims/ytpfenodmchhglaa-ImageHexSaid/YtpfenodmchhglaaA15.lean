/-
  A part of the proof: what the run over an abstract memory gives; conditions: those of each theorem.
-/
import Derived.Test.YtpfenodmchhglaaA14
namespace Go.Ax
section
variable {P : Program} {base : Prot} {M : Map} {H H' : AHeap} {w : World}
set_option maxHeartbeats 4000000 in
theorem aOp_sound (h : Rel base M H w) {F : FuncId → Bool} (hF : ∀ f, F f = true → ∀ args w, (callFunc f args).run P w = .ok (.enter f args) w) {ρ : Operand → Option Value} {ρ' : Operand → Value} (hρ : ∀ x v, ρ x = some v → VR M v (ρ' x))
    {o : Oper} {n : ANext} (ha : aOp P F ρ H o = some (n, H')) : OpSnd P base M w (execOp ρ' o) n H' := by
  obtain ⟨dst, op, type, pos, after, guard⟩ := o
  have mv : ∀ {v : Option Value}, (v.map fun v => (ANext.val v, H)) = some (n, H') → ∃ x, v = some x ∧ n = .val x ∧ H' = H := by
    intro v hv
    rw [Option.map_eq_some_iff] at hv
    obtain ⟨x, hx, he⟩ := hv
    cases he; exact ⟨x, hx, rfl, rfl⟩
  have mh : ∀ {r : Option (Value × AHeap)}, (r.map fun r => (ANext.val r.1, r.2)) = some (n, H') → ∃ x, r = some (x, H') ∧ n = .val x := by
    intro r hr
    rw [Option.map_eq_some_iff] at hr
    obtain ⟨⟨x, H2⟩, hx, he⟩ := hr
    cases he; exact ⟨x, hx, rfl⟩
  cases op <;> simp only [aOp] at ha
  case move x =>
    obtain ⟨v, hv, rfl, rfl⟩ := mv ha
    exact ⟨M, w, _, rfl, Ext.refl M, hρ _ _ hv, h, Below.refl _ _⟩
  case assign x =>
    obtain ⟨v, hv, rfl, rfl⟩ := mv ha
    exact ⟨M, w, _, rfl, Ext.refl M, hρ _ _ hv, h, Below.refl _ _⟩
  case pick c a b =>
    split at ha
    · rename_i hc
      obtain ⟨v, hv, rfl, rfl⟩ := mv ha
      have hc' := hρ _ _ hc; simp only [VR] at hc'
      exact ⟨M, w, _, by simp [execOp, hc', asBool], Ext.refl M, hρ _ _ hv, h, Below.refl _ _⟩
    · rename_i hc
      obtain ⟨v, hv, rfl, rfl⟩ := mv ha
      have hc' := hρ _ _ hc; simp only [VR] at hc'
      exact ⟨M, w, _, by simp [execOp, hc', asBool], Ext.refl M, hρ _ _ hv, h, Below.refl _ _⟩
    · cases ha
  case alloc e =>
    obtain ⟨v, hv, rfl⟩ := mh ha
    exact OpSnd.of_snd (alloc_sound h hv) rfl
  case box e x =>
    rw [Option.bind_eq_some_iff] at ha
    obtain ⟨vx, hx, ha⟩ := ha
    obtain ⟨v, hv, rfl⟩ := mh ha
    exact OpSnd.of_snd (box_sound h hv (hρ _ _ hx)) rfl
  case build t parts =>
    rw [Option.bind_eq_some_iff] at ha
    obtain ⟨l, hl, ha⟩ := ha
    obtain ⟨v, hv, rfl, rfl⟩ := mv ha
    exact OpSnd.of_snd (build_sound (parts' := parts.map fun (i, x) => (i, ρ' x)) h hv (by simpa using aParts_sound hρ hl)) rfl
  case buildSlice t k parts =>
    rw [Option.bind_eq_some_iff] at ha
    obtain ⟨l, hl, ha⟩ := ha
    obtain ⟨v, hv, rfl⟩ := mh ha
    exact OpSnd.of_snd (buildSlice_sound (parts' := parts.map fun (i, x) => (i, ρ' x)) h hv (by simpa using aParts_sound hρ hl)) rfl
  case load t a =>
    rw [Option.bind_eq_some_iff] at ha
    obtain ⟨va, hva, ha⟩ := ha
    obtain ⟨v, hv, rfl, rfl⟩ := mv ha
    exact OpSnd.of_snd (load_sound h hv (hρ _ _ hva)) rfl
  case store t a x =>
    rw [Option.bind_eq_some_iff] at ha
    obtain ⟨va, hva, ha⟩ := ha
    rw [Option.bind_eq_some_iff] at ha
    obtain ⟨vx, hvx, ha⟩ := ha
    rw [Option.map_eq_some_iff] at ha
    obtain ⟨H2, hs, he⟩ := ha
    cases he
    obtain ⟨w', hr, hrel, hb⟩ := store_sound h hs (hρ _ _ hva) (hρ _ _ hvx)
    exact ⟨w', by simp [execOp, hr], hrel, hb⟩
  case nilCheck x =>
    split at ha
    · rename_i a hx; cases ha
      have hv := hρ _ _ hx
      have hv' := hv
      simp only [VR] at hv'
      obtain ⟨b, hb, e⟩ := hv'
      exact ⟨M, w, _, by simp only [execOp, e]; rfl, Ext.refl M, by rw [← e]; exact hv, h, Below.refl _ _⟩
    · rename_i f a b hx; cases ha
      have hv := hρ _ _ hx
      have hv' := hv
      simp only [VR] at hv'
      obtain ⟨fn', x', y', hfn, _, _, e⟩ := hv'
      simp only [FnR] at hfn; subst hfn
      exact ⟨M, w, _, by simp only [execOp, e]; rfl, Ext.refl M, by rw [← e]; exact hv, h, Below.refl _ _⟩
    · cases ha
  case binOp op t x y yt =>
    rw [Option.bind_eq_some_iff] at ha
    obtain ⟨vx, hx, ha⟩ := ha
    rw [Option.bind_eq_some_iff] at ha
    obtain ⟨vy, hy, ha⟩ := ha
    obtain ⟨v, hv, rfl, rfl⟩ := mv ha
    exact OpSnd.of_snd (bin_sound h hv (hρ _ _ hx) (hρ _ _ hy)) rfl
  case unOp op t x =>
    rw [Option.bind_eq_some_iff] at ha
    obtain ⟨vx, hx, ha⟩ := ha
    split at ha
    · rename_i hf
      split at ha
      · rename_i r hr
        split at ha
        · rename_i hfr; cases ha
          have e := (VR.flat_iff _ hf _).1 (hρ _ _ hx)
          refine OpSnd.of_snd (s := Op.unary op (ρ' x)) ?_ rfl
          rw [e]
          exact Snd.still h (pureRun_run hr w) (VR.self hfr)
        · cases ha
      · cases ha
    · cases ha
  case convert s d x =>
    rw [Option.bind_eq_some_iff] at ha
    obtain ⟨vx, hx, ha⟩ := ha
    obtain ⟨v, hv, rfl⟩ := mh ha
    exact OpSnd.of_snd (convert_sound h hv (hρ _ _ hx)) rfl
  case makeInterface t x =>
    rw [Option.bind_eq_some_iff] at ha
    obtain ⟨vx, hx, ha⟩ := ha
    split at ha
    · cases ha
    · rename_i d hni hd; cases ha
      refine OpSnd.of_snd (s := Instr.makeInterface t (ρ' x)) (Snd.still h (r := .iface t (ρ' x)) ?_ (by simp only [VR]; exact ⟨_, hρ _ _ hx, rfl⟩)) rfl
      simp only [Instr.makeInterface, Sem.run_bind, pureRun_run hd, Result.andThen_ok]
      rfl
    · cases ha
  case makeFunc fn first captured =>
    split at ha
    · rename_i f
      rw [Option.bind_eq_some_iff] at ha
      obtain ⟨lx, hx, ha⟩ := ha
      rw [Option.bind_eq_some_iff] at ha
      obtain ⟨ly, hy, ha⟩ := ha
      cases ha
      refine OpSnd.of_snd (s := Instr.makeFunc (.func f) (first.map ρ') (captured.map ρ')) (Snd.still h (r := .func (.func f) (first.map ρ') (captured.map ρ')) rfl ?_) rfl
      simp only [VR]
      exact ⟨_, _, _, rfl, VRA.iff.2 (by simpa using aArgs_sound hρ hx), VRA.iff.2 (by simpa using aArgs_sound hρ hy), rfl⟩
    · cases ha
  case makeSlice t l c =>
    rw [Option.bind_eq_some_iff] at ha
    obtain ⟨vx, hx, ha⟩ := ha
    rw [Option.bind_eq_some_iff] at ha
    obtain ⟨vy, hy, ha⟩ := ha
    obtain ⟨v, hv, rfl⟩ := mh ha
    exact OpSnd.of_snd (makeSlice_sound h hv (hρ _ _ hx) (hρ _ _ hy)) rfl
  case slice t x lo hi mx =>
    rw [Option.bind_eq_some_iff] at ha
    obtain ⟨vx, hx, ha⟩ := ha
    rw [Option.bind_eq_some_iff] at ha
    obtain ⟨vlo, hlo, ha⟩ := ha
    rw [Option.bind_eq_some_iff] at ha
    obtain ⟨vhi, hhi, ha⟩ := ha
    rw [Option.bind_eq_some_iff] at ha
    obtain ⟨vmx, hmx, ha⟩ := ha
    obtain ⟨v, hv, rfl, rfl⟩ := mv ha
    exact OpSnd.of_snd (slice_sound h hv (hρ _ _ hx) (aOpt_sound hρ hlo) (aOpt_sound hρ hhi) (aOpt_sound hρ hmx)) rfl
  case fieldAddr s x f =>
    rw [Option.bind_eq_some_iff] at ha
    obtain ⟨vx, hx, ha⟩ := ha
    obtain ⟨v, hv, rfl, rfl⟩ := mv ha
    exact OpSnd.of_snd (fieldAddr_sound h hv (hρ _ _ hx)) rfl
  case field t x f =>
    rw [Option.bind_eq_some_iff] at ha
    obtain ⟨vx, hx, ha⟩ := ha
    obtain ⟨v, hv, rfl, rfl⟩ := mv ha
    exact OpSnd.of_snd (field_sound h hv (hρ _ _ hx)) rfl
  case indexAddr t x i =>
    rw [Option.bind_eq_some_iff] at ha
    obtain ⟨vx, hx, ha⟩ := ha
    rw [Option.bind_eq_some_iff] at ha
    obtain ⟨vy, hy, ha⟩ := ha
    obtain ⟨v, hv, rfl, rfl⟩ := mv ha
    exact OpSnd.of_snd (indexAddr_sound h hv (hρ _ _ hx) (hρ _ _ hy)) rfl
  case index t x i =>
    rw [Option.bind_eq_some_iff] at ha
    obtain ⟨vx, hx, ha⟩ := ha
    rw [Option.bind_eq_some_iff] at ha
    obtain ⟨vy, hy, ha⟩ := ha
    obtain ⟨v, hv, rfl, rfl⟩ := mv ha
    exact OpSnd.of_snd (index_sound h hv (hρ _ _ hx) (hρ _ _ hy)) rfl
  case range t x =>
    rw [Option.bind_eq_some_iff] at ha
    obtain ⟨vx, hx, ha⟩ := ha
    obtain ⟨v, hv, rfl⟩ := mh ha
    exact OpSnd.of_snd (range_sound h hv (hρ _ _ hx)) rfl
  case next it s =>
    rw [Option.bind_eq_some_iff] at ha
    obtain ⟨vx, hx, ha⟩ := ha
    obtain ⟨v, hv, rfl⟩ := mh ha
    exact OpSnd.of_snd (next_sound (t := type) h hv (hρ _ _ hx)) rfl
  case extract t i =>
    split at ha
    · rename_i vs ht
      obtain ⟨v, hv, rfl, rfl⟩ := mv ha
      have hv' := hρ _ _ ht
      simp only [VR] at hv'
      obtain ⟨cs, hcs, e⟩ := hv'
      obtain ⟨r, hr, hvr⟩ := (VRA.iff.1 hcs).get i v (by simpa using hv)
      have hr : cs[i]? = some r := by simpa using hr
      refine OpSnd.of_snd (s := Instr.extract (ρ' t) i) (Snd.still h ?_ hvr) rfl
      simp [Instr.extract, e, hr]
    · cases ha
  case call c => exact aCall_sound h hF hρ ha
  all_goals cases ha
end
end Go.Ax
