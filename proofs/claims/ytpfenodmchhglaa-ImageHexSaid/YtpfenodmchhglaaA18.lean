/-
  A part of the proof: what the run over an abstract memory gives; conditions: those of each theorem.
-/
import Derived.Test.YtpfenodmchhglaaA17
namespace Go.Ax
section
variable {P : Program} {F : FuncId → Bool} {ev : Req → Option Res} {ops : Array Oper} {n : Nat}
theorem aArgs_congr {ρ ρ' : Operand → Option Value} {xs : Array Operand} (h : ∀ x ∈ xs, ρ x = ρ' x) : aArgs ρ xs = aArgs ρ' xs := by
  unfold aArgs
  rw [List.map_congr_left fun x hx => h x (by simpa using hx)]
theorem aParts_congr {ρ ρ' : Operand → Option Value} {xs : Array (Nat × Operand)} (h : ∀ p ∈ xs, ρ p.2 = ρ' p.2) : aParts ρ xs = aParts ρ' xs := by
  unfold aParts
  rw [List.map_congr_left fun p hp => by rw [h p (by simpa using hp)]]
theorem aOpt_congr {ρ ρ' : Operand → Option Value} {x : Option Operand} (h : ∀ y, x = some y → ρ y = ρ' y) : aOpt ρ x = aOpt ρ' x := by
  cases x with
  | none => rfl
  | some y => simp only [aOpt, h y rfl]
theorem aCall_congr {ρ ρ' : Operand → Option Value} {H : AHeap} {c : Call} {t : TypeId} (h : ∀ x ∈ c.operands, ρ x = ρ' x) : aCall P F ρ H c t = aCall P F ρ' H c t := by
  unfold aCall
  rw [aArgs_congr (ρ := ρ) (ρ' := ρ') fun x hx => h x (by simp [Call.operands, hx])]
  cases hc : c.callee with
  | value f => simp only; rw [h f (by simp [Call.operands, hc])]
  | _ => rfl
set_option maxHeartbeats 1000000 in
theorem aOp_congr {ρ ρ' : Operand → Option Value} {H : AHeap} {o : Oper} (h : ∀ x ∈ o.op.operands, ρ x = ρ' x) : aOp P F ρ H o = aOp P F ρ' H o := by
  obtain ⟨dst, op, type, pos, after, guard⟩ := o
  cases op <;> simp only [Op.operands] at h <;> simp only [aOp]
  case build t ps => rw [aParts_congr fun p hp => h p.2 (by simp; exact ⟨p.1, hp⟩)]
  case buildSlice t k ps => rw [aParts_congr fun p hp => h p.2 (by simp; exact ⟨p.1, hp⟩)]
  case makeFunc fn x y => rw [aArgs_congr (xs := x) fun z hz => h z (by simp [hz]), aArgs_congr (xs := y) fun z hz => h z (by simp [hz])]
  case call c => exact aCall_congr h
  case slice t x lo hi mx =>
    rw [h x (by simp), aOpt_congr (x := lo) fun y hy => h y (by simp [hy]), aOpt_congr (x := hi) fun y hy => h y (by simp [hy]), aOpt_congr (x := mx) fun y hy => h y (by simp [hy])]
  all_goals (first | rfl | (simp_all; done))
/-- A pure operation looks at no memory. -/
theorem pureOp_spec {ρ : Operand → Option Value} {H H' : AHeap} {o : Oper} {r : ANext} (hp : pureOp o.op = true) (h : aOp P F ρ H o = some (r, H')) : ∃ v, r = .val v ∧ H' = H ∧ ∀ H2, aOp P F ρ H2 o = some (.val v, H2) := by
  obtain ⟨dst, op, type, pos, after, guard⟩ := o
  have mv : ∀ {v : Option Value}, (v.map fun v => (ANext.val v, H)) = some (r, H') → ∃ x, v = some x ∧ r = .val x ∧ H' = H := by
    intro v hv
    rw [Option.map_eq_some_iff] at hv
    obtain ⟨x, hx, he⟩ := hv
    cases he; exact ⟨x, hx, rfl, rfl⟩
  cases op <;> simp only [pureOp] at hp <;> first | (cases hp; done) | skip
  all_goals simp only [aOp] at h ⊢
  case move x => obtain ⟨v, hv, rfl, rfl⟩ := mv h; exact ⟨v, rfl, rfl, fun H2 => by rw [hv]; rfl⟩
  case assign x => obtain ⟨v, hv, rfl, rfl⟩ := mv h; exact ⟨v, rfl, rfl, fun H2 => by rw [hv]; rfl⟩
  case pick c a b =>
    split at h
    · rename_i hc; obtain ⟨v, hv, rfl, rfl⟩ := mv h; exact ⟨v, rfl, rfl, fun H2 => by rw [hv]; rfl⟩
    · rename_i hc; obtain ⟨v, hv, rfl, rfl⟩ := mv h; exact ⟨v, rfl, rfl, fun H2 => by rw [hv]; rfl⟩
    · cases h
  case build t ps =>
    rw [Option.bind_eq_some_iff] at h; obtain ⟨l, hl, h⟩ := h
    obtain ⟨v, hv, rfl, rfl⟩ := mv h; exact ⟨v, rfl, rfl, fun H2 => by rw [hl]; simp [hv]⟩
  case nilCheck x =>
    split at h
    · rename_i hx; cases h; exact ⟨_, rfl, rfl, fun H2 => rfl⟩
    · rename_i hx; cases h; exact ⟨_, rfl, rfl, fun H2 => rfl⟩
    · cases h
  case binOp op t x y yt =>
    rw [Option.bind_eq_some_iff] at h; obtain ⟨a, ha, h⟩ := h
    rw [Option.bind_eq_some_iff] at h; obtain ⟨b, hb, h⟩ := h
    obtain ⟨v, hv, rfl, rfl⟩ := mv h; exact ⟨v, rfl, rfl, fun H2 => by rw [ha, hb]; simp [hv]⟩
  case unOp op t x =>
    rw [Option.bind_eq_some_iff] at h; obtain ⟨a, ha, h⟩ := h
    rw [ha]
    simp only [Option.bind_some]
    split at h
    · rename_i hf
      split at h
      · rename_i v0 hv0
        split at h
        · rename_i hfv; cases h; exact ⟨v0, rfl, rfl, fun H2 => by simp [hf, hfv]⟩
        · cases h
      · cases h
    · cases h
  case makeInterface t x =>
    rw [Option.bind_eq_some_iff] at h; obtain ⟨a, ha, h⟩ := h
    rw [ha]
    simp only [Option.bind_some]
    split at h
    · cases h
    · rename_i d hni hd; cases h; exact ⟨_, rfl, rfl, fun H2 => rfl⟩
    · cases h
  case makeFunc fn x y =>
    split at h
    · rename_i f
      rw [Option.bind_eq_some_iff] at h; obtain ⟨a, ha, h⟩ := h
      rw [Option.bind_eq_some_iff] at h; obtain ⟨b, hb, h⟩ := h
      cases h; exact ⟨_, rfl, rfl, fun H2 => by rw [ha, hb]; rfl⟩
    · cases h
  case fieldAddr t x f =>
    rw [Option.bind_eq_some_iff] at h; obtain ⟨a, ha, h⟩ := h
    obtain ⟨v, hv, rfl, rfl⟩ := mv h; exact ⟨v, rfl, rfl, fun H2 => by rw [ha]; simp [hv]⟩
  case field t x f =>
    rw [Option.bind_eq_some_iff] at h; obtain ⟨a, ha, h⟩ := h
    obtain ⟨v, hv, rfl, rfl⟩ := mv h; exact ⟨v, rfl, rfl, fun H2 => by rw [ha]; simp [hv]⟩
  case indexAddr t x y =>
    rw [Option.bind_eq_some_iff] at h; obtain ⟨a, ha, h⟩ := h
    rw [Option.bind_eq_some_iff] at h; obtain ⟨b, hb, h⟩ := h
    obtain ⟨v, hv, rfl, rfl⟩ := mv h; exact ⟨v, rfl, rfl, fun H2 => by rw [ha, hb]; simp [hv]⟩
  case index t x y =>
    rw [Option.bind_eq_some_iff] at h; obtain ⟨a, ha, h⟩ := h
    rw [Option.bind_eq_some_iff] at h; obtain ⟨b, hb, h⟩ := h
    obtain ⟨v, hv, rfl, rfl⟩ := mv h; exact ⟨v, rfl, rfl, fun H2 => by rw [ha, hb]; simp [hv]⟩
  case extract t i =>
    split at h
    · rename_i vs ht
      obtain ⟨v, hv, rfl, rfl⟩ := mv h
      exact ⟨v, rfl, rfl, fun H2 => by simp [hv]⟩
    · cases h
  case call c =>
    unfold aCall at h ⊢
    cases hc : c.callee with
    | value f => rw [hc] at hp; cases hp
    | invoke x m => rw [hc] at hp; cases hp
    | builtin b =>
      rw [hc] at hp h
      simp only at h ⊢
      rw [Option.bind_eq_some_iff] at h
      obtain ⟨args, hargs, h⟩ := h
      rw [hargs]
      simp only [Option.bind_some]
      cases b <;> simp only at hp <;> first | (cases hp; done) | skip
      all_goals simp only [aBuiltin] at h ⊢
      · obtain ⟨v, hv, rfl, rfl⟩ := mv h; exact ⟨v, rfl, rfl, fun H2 => by rw [hv]; rfl⟩
      · split at h
        · rename_i hf
          split at h
          · rename_i v0 hv0
            split at h
            · rename_i hfv; cases h; exact ⟨v0, rfl, rfl, fun H2 => by simp [hf, hfv]⟩
            · cases h
          · cases h
        · cases h
      · split at h
        · rename_i hf
          split at h
          · rename_i v0 hv0
            split at h
            · rename_i hfv; cases h; exact ⟨v0, rfl, rfl, fun H2 => by simp [hf, hfv]⟩
            · cases h
          · cases h
        · cases h
theorem readOp_spec {ρ : Operand → Option Value} {H H' : AHeap} {o : Oper} {r : ANext} (hp : readOp o.op = true) (h : aOp P F ρ H o = some (r, H')) : ∃ v, r = .val v ∧ H' = H := by
  obtain ⟨dst, op, type, pos, after, guard⟩ := o
  have mv : ∀ {v : Option Value}, (v.map fun v => (ANext.val v, H)) = some (r, H') → ∃ x, v = some x ∧ r = .val x ∧ H' = H := by
    intro v hv
    rw [Option.map_eq_some_iff] at hv
    obtain ⟨x, hx, he⟩ := hv
    cases he; exact ⟨x, hx, rfl, rfl⟩
  cases op <;> simp only [readOp] at hp <;> first | (cases hp; done) | skip
  all_goals simp only [aOp] at h
  case load t a =>
    rw [Option.bind_eq_some_iff] at h; obtain ⟨a, ha, h⟩ := h
    obtain ⟨v, hv, rfl, rfl⟩ := mv h; exact ⟨v, rfl, rfl⟩
  case slice t x lo hi mx =>
    simp only [Option.bind_eq_some_iff] at h
    obtain ⟨a, _, b, _, c, _, d, _, h⟩ := h
    obtain ⟨v, hv, rfl, rfl⟩ := mv h; exact ⟨v, rfl, rfl⟩
end
end Go.Ax
