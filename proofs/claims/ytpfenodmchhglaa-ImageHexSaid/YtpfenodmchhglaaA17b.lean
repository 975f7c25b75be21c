/-
  A part of the proof: what the run over an abstract memory gives; conditions: those of each theorem.
-/
import Derived.Test.YtpfenodmchhglaaA18
namespace Go.Ax
mutual
def eqV : Value → Value → Bool
  | .bool a, .bool b => a == b
  | .int k a, .int k' b => decide (k = k') && decide (a = b)
  | .string a, .string b => decide (a.data.toList = b.data.toList)
  | .pointer a, .pointer b => decide (a = b)
  | .slice a l c, .slice b l' c' => decide (a = b) && decide (l = l') && decide (c = c')
  | .map a, .map b => decide (a = b)
  | .func fn x y, .func fn' x' y' => decide (fn = fn') && eqA x x' && eqA y y'
  | .nilFunc, .nilFunc => true
  | .iface t v, .iface t' v' => decide (t = t') && eqV v v'
  | .nilIface, .nilIface => true
  | .agg x, .agg y => eqA x y
  | .tuple x, .tuple y => eqA x y
  | _, _ => false
def eqA : Array Value → Array Value → Bool
  | ⟨l⟩, ⟨l'⟩ => eqL l l'
def eqL : List Value → List Value → Bool
  | [], [] => true
  | v :: l, v' :: l' => eqV v v' && eqL l l'
  | _, _ => false
end
mutual
theorem eqV_eq : ∀ (a b : Value), eqV a b = true → a = b
  | .bool a, b, h => by cases b <;> simp [eqV] at h; subst h; rfl
  | .int k a, b, h => by cases b <;> simp [eqV] at h; obtain ⟨rfl, rfl⟩ := h; rfl
  | .string a, b, h => by
    cases b <;> simp [eqV] at h
    rename_i c
    cases a; cases c; simp at h; subst h; rfl
  | .pointer a, b, h => by cases b <;> simp [eqV] at h; subst h; rfl
  | .slice a l c, b, h => by cases b <;> simp [eqV] at h; obtain ⟨⟨rfl, rfl⟩, rfl⟩ := h; rfl
  | .map a, b, h => by cases b <;> simp [eqV] at h; subst h; rfl
  | .chan a, b, h => by cases b <;> simp [eqV] at h
  | .float a c, b, h => by cases b <;> simp [eqV] at h
  | .complex a c d, b, h => by cases b <;> simp [eqV] at h
  | .func fn x y, b, h => by
    cases b <;> simp [eqV] at h
    obtain ⟨⟨rfl, hx⟩, hy⟩ := h
    rw [eqA_eq x _ hx, eqA_eq y _ hy]
  | .nilFunc, b, h => by cases b <;> simp [eqV] at h; rfl
  | .iface t v, b, h => by cases b <;> simp [eqV] at h; obtain ⟨rfl, hv⟩ := h; rw [eqV_eq v _ hv]
  | .nilIface, b, h => by cases b <;> simp [eqV] at h; rfl
  | .agg x, b, h => by cases b <;> simp [eqV] at h; rw [eqA_eq x _ h]
  | .tuple x, b, h => by cases b <;> simp [eqV] at h; rw [eqA_eq x _ h]
theorem eqA_eq : ∀ (a b : Array Value), eqA a b = true → a = b
  | ⟨l⟩, ⟨l'⟩, h => by simp only [eqA] at h; rw [eqL_eq l l' h]
theorem eqL_eq : ∀ (a b : List Value), eqL a b = true → a = b
  | [], b, h => by cases b <;> simp [eqL] at h; rfl
  | v :: l, b, h => by
    cases b <;> simp [eqL] at h
    obtain ⟨hv, hl⟩ := h
    rw [eqV_eq v _ hv, eqL_eq l _ hl]
end
def sameBlk (H H' : AHeap) (b : Nat) : Bool :=
  match H.t.get b, H'.t.get b with
  | some (.cells vs e k), some (.cells vs' e' k') => eqL vs vs' && decide (e = e') && decide (k = k')
  | _, _ => false
theorem sameBlk_eq {H H' : AHeap} {b : Nat} (h : sameBlk H H' b = true) : H'.t.get b = H.t.get b := by
  unfold sameBlk at h
  split at h
  · rename_i h1 h2
    simp only [Bool.and_eq_true, decide_eq_true_eq] at h
    obtain ⟨⟨hv, rfl⟩, rfl⟩ := h
    rw [h1, h2, eqL_eq _ _ hv]
  · cases h
section
variable {P : Program} {F : FuncId → Bool} {ev : Req → Option Res} {ops : Array Oper} {n : Nat}
/-- The block that a reading operation reads. -/
def readBlk (ρ : Operand → Option Value) (o : Oper) : Option Nat :=
  match o.op with
  | .load _ a => match ρ a with
    | some (.pointer (some a)) => some a.block
    | _ => none
  | .slice _ x _ _ _ => match ρ x with
    | some (.slice (some a) _ _) => some a.block
    | _ => none
  | _ => none
theorem aCells_congr {H H2 : AHeap} {a : Addr} {k : Nat} (h : H2.t.get a.block = H.t.get a.block) : aCells H2 a k = aCells H a k := by unfold aCells; rw [h]
theorem readOp_local {ρ : Operand → Option Value} {H H' H2 : AHeap} {o : Oper} {r : ANext} (hp : readOp o.op = true) (h : aOp P F ρ H o = some (r, H')) (hs : ∀ b, readBlk ρ o = some b → H2.t.get b = H.t.get b) :
    ∃ v, r = .val v ∧ aOp P F ρ H2 o = some (.val v, H2) := by
  obtain ⟨dst, op, type, pos, after, guard⟩ := o
  have mv : ∀ {v : Option Value}, (v.map fun v => (ANext.val v, H)) = some (r, H') → ∃ x, v = some x ∧ r = .val x ∧ H' = H := by
    intro v hv
    rw [Option.map_eq_some_iff] at hv
    obtain ⟨x, hx, he⟩ := hv
    cases he; exact ⟨x, hx, rfl, rfl⟩
  cases op <;> simp only [readOp] at hp <;> first | (cases hp; done) | skip
  all_goals simp only [aOp] at h ⊢
  case load t a =>
    rw [Option.bind_eq_some_iff] at h; obtain ⟨va, ha, h⟩ := h
    obtain ⟨v, hv, rfl, rfl⟩ := mv h
    refine ⟨v, rfl, ?_⟩
    rw [ha]
    simp only [Option.bind_some]
    cases va with
    | pointer p =>
      cases p with
      | none => simp [aLoad] at hv
      | some p =>
        have := hs p.block (by simp [readBlk, ha])
        have e : aLoad P H2 t (.pointer (some p)) = aLoad P H' t (.pointer (some p)) := by
          simp only [aLoad, aCells_congr this]
        rw [e, hv]; rfl
    | _ => simp [aLoad] at hv
  case slice t x lo hi mx =>
    rw [Option.bind_eq_some_iff] at h; obtain ⟨vx, hx, h⟩ := h
    rw [Option.bind_eq_some_iff] at h; obtain ⟨vlo, hlo, h⟩ := h
    rw [Option.bind_eq_some_iff] at h; obtain ⟨vhi, hhi, h⟩ := h
    rw [Option.bind_eq_some_iff] at h; obtain ⟨vmx, hmx, h⟩ := h
    obtain ⟨v, hv, rfl, rfl⟩ := mv h
    refine ⟨v, rfl, ?_⟩
    rw [hx, hlo, hhi, hmx]
    simp only [Option.bind_some]
    have e : aSlice P H2 t vx vlo vhi vmx = aSlice P H' t vx vlo vhi vmx := by
      cases vx with
      | slice a l c =>
        cases a with
        | none => rfl
        | some a =>
          have := hs a.block (by simp [readBlk, hx])
          simp only [aSlice, this]
      | pointer a => cases a <;> rfl
      | _ => rfl
    rw [e, hv]; rfl
end
end Go.Ax
