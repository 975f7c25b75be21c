/-
  A part of the proof: what the run over an abstract memory gives; conditions: those of each theorem.
-/
import Derived.Test.YtpfenodmchhglaaA12
namespace Go.Ax
inductive ANext where
  | val (v : Value)
  | skip
  | enter (f : FuncId) (args : Array Value)
  | yld (l : Nat) (args : Array Value)
section
variable {P : Program} {base : Prot} {M : Map} {H H' : AHeap} {w : World}
def allSome {α : Type} : List (Option α) → Option (List α)
  | [] => some []
  | none :: _ => none
  | some a :: l => (allSome l).map (a :: ·)
def aArgs (ρ : Operand → Option Value) (xs : Array Operand) : Option (List Value) := allSome (xs.toList.map ρ)
theorem aArgs_sound {ρ : Operand → Option Value} {ρ' : Operand → Value} (hρ : ∀ x v, ρ x = some v → VR M v (ρ' x)) {xs : Array Operand} {l : List Value} (h : aArgs ρ xs = some l) : VRL M l (xs.map ρ').toList := by
  rw [Array.toList_map]
  unfold aArgs at h
  generalize xs.toList = ys at h
  induction ys generalizing l with
  | nil => simp only [List.map_nil, allSome, Option.some.injEq] at h; subst h; exact .nil
  | cons y ys ih =>
    simp only [List.map_cons] at h ⊢
    cases hy : ρ y with
    | none => rw [hy] at h; cases h
    | some v =>
      rw [hy] at h
      simp only [allSome, Option.map_eq_some_iff] at h
      obtain ⟨l2, hl2, rfl⟩ := h
      exact .cons (hρ y v hy) (ih hl2)
def aParts (ρ : Operand → Option Value) (xs : Array (Nat × Operand)) : Option (List (Nat × Value)) := allSome (xs.toList.map fun p => (ρ p.2).map fun v => (p.1, v))
theorem aParts_sound {ρ : Operand → Option Value} {ρ' : Operand → Value} (hρ : ∀ x v, ρ x = some v → VR M v (ρ' x)) {xs : Array (Nat × Operand)} {l : List (Nat × Value)} (h : aParts ρ xs = some l) :
    PartsR M l (xs.map fun (i, x) => (i, ρ' x)).toList := by
  rw [Array.toList_map]
  unfold aParts at h
  generalize xs.toList = ys at h
  induction ys generalizing l with
  | nil => simp only [List.map_nil, allSome, Option.some.injEq] at h; subst h; simp only [PartsR, List.map_nil]
  | cons y ys ih =>
    obtain ⟨i, y⟩ := y
    simp only [List.map_cons] at h ⊢
    cases hy : ρ y with
    | none => rw [hy] at h; cases h
    | some v =>
      rw [hy] at h
      simp only [Option.map_some, allSome, Option.map_eq_some_iff] at h
      obtain ⟨l2, hl2, rfl⟩ := h
      simp only [PartsR]
      exact ⟨_, _, hρ y v hy, ih hl2, rfl⟩
/-- Whether two references, one of them nil, are equal: never. -/
def apartRef : TypeDesc → Value → Value → Bool
  | .slice _, .slice (some _) _ _, .slice none _ _ => true
  | .slice _, .slice none _ _, .slice (some _) _ _ => true
  | .pointer _, .pointer (some _), .pointer none => true
  | .pointer _, .pointer none, .pointer (some _) => true
  | .map _ _, .map (some _), .map none => true
  | .map _ _, .map none, .map (some _) => true
  | .func _ _ _, .func _ _ _, .nilFunc => true
  | .func _ _ _, .nilFunc, .func _ _ _ => true
  | .interface _, .iface _ _, .nilIface => true
  | .interface _, .nilIface, .iface _ _ => true
  | _, _, _ => false
theorem VR.slice_form {a : Addr} {l c : Nat} {r : Value} (h : VR M (.slice (some a) l c) r) : ∃ b l' c', r = .slice (some b) l' c' := by
  simp only [VR] at h; split at h
  · obtain ⟨_, _, a', c', rfl⟩ := h; exact ⟨_, _, _, rfl⟩
  · obtain ⟨b, _, rfl⟩ := h; exact ⟨_, _, _, rfl⟩
theorem apartRef_run {t : TypeId} {d : TypeDesc} {xo yo : Operand} {x y : Value} (hu : P.underlying t = some d) (ha : apartRef d x y = true) (w : World) (n : Nat) :
    (eqGuard .eql t xo yo x y).run P w = .ok () w ∧ (eqGuard .neq t xo yo x y).run P w = .ok () w ∧ (Op.equalIn (n + 1) t x y).run P w = .ok false w ∧
    binOp .eql t x y = (do pure (.bool (← Op.equal t x y))) ∧ binOp .neq t x y = (do pure (.bool (!(← Op.equal t x y)))) := by
  have hu' : (underlying t).run P w = .ok d w := by simp [underlying, hu]
  unfold apartRef at ha
  split at ha
  case h_11 => cases ha
  all_goals exact ⟨by simp [eqGuard], by simp [eqGuard], by simp only [Op.equalIn, Sem.run_bind, hu', Result.andThen_ok]; rfl, by simp only [binOp], by simp only [binOp]⟩
theorem apartRef_real {d : TypeDesc} {x y x' y' : Value} (ha : apartRef d x y = true) (hx : VR M x x') (hy : VR M y y') : apartRef d x' y' = true := by
  unfold apartRef at ha
  split at ha
  · obtain ⟨b, l', c', rfl⟩ := hx.slice_form; simp only [VR] at hy; subst hy; rfl
  · obtain ⟨b, l', c', rfl⟩ := hy.slice_form; simp only [VR] at hx; subst hx; rfl
  · simp only [VR] at hx hy; subst hy; obtain ⟨b, _, rfl⟩ := hx; rfl
  · simp only [VR] at hx hy; subst hx; obtain ⟨b, _, rfl⟩ := hy; rfl
  · simp only [VR] at hx hy; subst hy; obtain ⟨b, _, rfl⟩ := hx; rfl
  · simp only [VR] at hx hy; subst hx; obtain ⟨b, _, rfl⟩ := hy; rfl
  · simp only [VR] at hx hy; subst hy; obtain ⟨_, _, _, _, _, _, rfl⟩ := hx; rfl
  · simp only [VR] at hx hy; subst hx; obtain ⟨_, _, _, _, _, _, rfl⟩ := hy; rfl
  · simp only [VR] at hx hy; subst hy; obtain ⟨_, _, rfl⟩ := hx; rfl
  · simp only [VR] at hx hy; subst hx; obtain ⟨_, _, rfl⟩ := hy; rfl
  · cases ha
theorem underlying_pure {t : TypeId} {d : TypeDesc} (h : pureRun P (underlying t) = some d) : P.underlying t = some d := by
  unfold underlying at h
  rw [pureRun_bind, pureRun_program] at h
  simp only [Option.bind_some] at h
  cases hu : P.underlying t with
  | none => rw [hu] at h; cases h
  | some d' => rw [hu] at h; cases h; rfl
theorem apartRef_sound {t : TypeId} {d : TypeDesc} {xo yo : Operand} {x y x' y' : Value} (hu : pureRun P (underlying t) = some d) (ha : apartRef d x y = true) (hx : VR M x x') (hy : VR M y y') (w : World) :
    (eqGuard .eql t xo yo x' y').run P w = .ok () w ∧ (eqGuard .neq t xo yo x' y').run P w = .ok () w ∧ (Op.equal t x' y').run P w = .ok false w ∧
    binOp .eql t x' y' = (do pure (.bool (← Op.equal t x' y'))) ∧ binOp .neq t x' y' = (do pure (.bool (!(← Op.equal t x' y')))) := by
  have e : Op.equal t x' y' = Op.equalIn (9999 + 1) t x' y' := by unfold Op.equal Op.maxDepth; rfl
  have := apartRef_run (xo := xo) (yo := yo) (underlying_pure hu) (apartRef_real ha hx hy) w 9999
  rw [e]
  rw [e] at this
  exact this
def aBin (P : Program) (op : BinOp) (t : TypeId) (xo yo : Operand) (x y : Value) : Option Value :=
  if flat x && flat y then
    match pureRun P (do eqGuard op t xo yo x y; binOp op t x y) with
    | some v => if flat v then some v else none
    | none => none
  else
    match op, pureRun P (underlying t) with
    | .eql, some d => if apartRef d x y then some (.bool false) else none
    | .neq, some d => if apartRef d x y then some (.bool true) else none
    | _, _ => none
theorem bin_sound (h : Rel base M H w) {op : BinOp} {t : TypeId} {xo yo : Operand} {x y x' y' v : Value} (ha : aBin P op t xo yo x y = some v) (hx : VR M x x') (hy : VR M y y') :
    Snd P base M w (do eqGuard op t xo yo x' y'; binOp op t x' y') v H := by
  unfold aBin at ha
  split at ha
  · rename_i hf
    simp only [Bool.and_eq_true] at hf
    split at ha
    · rename_i v0 hv0
      split at ha
      · rename_i hfv; cases ha
        rw [(VR.flat_iff _ hf.1 _).1 hx, (VR.flat_iff _ hf.2 _).1 hy]
        exact Snd.still h (pureRun_run hv0 w) (VR.self hfv)
      · cases ha
    · cases ha
  · split at ha
    · rename_i d hu
      split at ha
      · rename_i hr; cases ha
        obtain ⟨h1, h2, h3, h4, h5⟩ := apartRef_sound (xo := xo) (yo := yo) hu hr hx hy w
        exact Snd.still h (by rw [h4]; simp [h1, h3]) (VR.self rfl)
      · cases ha
    · rename_i d hu
      split at ha
      · rename_i hr; cases ha
        obtain ⟨h1, h2, h3, h4, h5⟩ := apartRef_sound (xo := xo) (yo := yo) hu hr hx hy w
        exact Snd.still h (by rw [h5]; simp [h2, h3]) (VR.self rfl)
      · cases ha
    · cases ha
end
end Go.Ax
