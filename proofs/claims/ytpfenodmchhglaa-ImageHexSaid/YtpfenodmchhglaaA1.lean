/-
  A part of the proof: what the run over an abstract memory gives; conditions: those of each theorem.
-/
import Derived.Below
import Derived.Calls
namespace Go.Ax
/-- A tree of values by number. -/
inductive T (α : Type) where
  | nil
  | node (l r : T α) (v : Option α)
namespace T
variable {α : Type}
def get : T α → Nat → Option α
  | .nil, _ => none
  | .node l r v, k => if k = 0 then v else if k % 2 = 1 then l.get (k / 2) else r.get (k / 2 - 1)
def L : T α → T α
  | .nil => .nil
  | .node l _ _ => l
def R : T α → T α
  | .nil => .nil
  | .node _ r _ => r
def V : T α → Option α
  | .nil => none
  | .node _ _ v => v
def set : Nat → T α → Nat → α → T α
  | 0, t, _, _ => t
  | f + 1, t, k, x => if k = 0 then .node t.L t.R (some x) else if k % 2 = 1 then .node (set f t.L (k / 2) x) t.R t.V else .node t.L (set f t.R (k / 2 - 1) x) t.V
theorem get_parts (t : T α) (k : Nat) : t.get k = if k = 0 then t.V else if k % 2 = 1 then t.L.get (k / 2) else t.R.get (k / 2 - 1) := by
  cases t <;> simp [get, L, R, V]
theorem get_set_same : ∀ (f : Nat) (t : T α) (k : Nat) (x : α), k + 1 < 2 ^ f → (set f t k x).get k = some x
  | 0, _, k, _, h => by simp at h
  | f + 1, t, k, x, h => by
    unfold set
    by_cases h0 : k = 0
    · simp [h0, get]
    · by_cases h1 : k % 2 = 1
      · simp only [h0, h1, if_true, if_false, get]; exact get_set_same f _ _ x (by rw [Nat.pow_succ] at h; omega)
      · simp only [h0, h1, if_false, get]; exact get_set_same f _ _ x (by rw [Nat.pow_succ] at h; omega)
theorem get_set_other : ∀ (f : Nat) (t : T α) (k j : Nat) (x : α), j ≠ k → (set f t k x).get j = t.get j
  | 0, _, _, _, _, _ => rfl
  | f + 1, t, k, j, x, h => by
    rw [get_parts t j]
    unfold set
    by_cases h0 : k = 0
    · subst h0; simp [get, h]
    · by_cases h1 : k % 2 = 1
      · simp only [h0, h1, if_true, if_false, get]
        split
        · rfl
        · split
          · rw [get_set_other f _ _ _ x (by omega)]
          · rfl
      · simp only [h0, h1, if_false, get]
        split
        · rfl
        · split
          · rfl
          · rw [get_set_other f _ _ _ x (by omega)]
theorem set_comm : ∀ (f : Nat) (t : T α) (i j : Nat) (x y : α), i ≠ j → set f (set f t i x) j y = set f (set f t j y) i x
  | 0, _, _, _, _, _, _ => rfl
  | f + 1, t, i, j, x, y, h => by
    by_cases i0 : i = 0 <;> by_cases j0 : j = 0
    · omega
    · by_cases j1 : j % 2 = 1 <;> simp only [set, i0, j0, j1, if_true, if_false, L, R, V]
    · by_cases i1 : i % 2 = 1 <;> simp only [set, i0, j0, i1, if_true, if_false, L, R, V]
    · by_cases i1 : i % 2 = 1 <;> by_cases j1 : j % 2 = 1
      · simp only [set, i0, j0, i1, j1, if_true, if_false, L, R, V]; rw [set_comm f _ _ _ x y (by omega)]
      · simp only [set, i0, j0, i1, j1, if_true, if_false, L, R, V]
      · simp only [set, i0, j0, i1, j1, if_true, if_false, L, R, V]
      · simp only [set, i0, j0, i1, j1, if_false, L, R, V]; rw [set_comm f _ _ _ x y (by omega)]
end T
/-- What the run knows of a block: where it really lies, and from which cell on; of one that append made: its capacity, the cells of an element. -/
structure BI where
  real : Nat
  sh : Nat := 0
  tot : Nat := 0
  sz : Nat := 1
/-- Where an address of the run's really is. -/
@[reducible] def BI.ad (b : BI) (a : Addr) : Addr := { block := b.real, off := a.off + b.sh, spot := a.spot }
/-- The capacity that is not known. -/
def openCap : Nat := 2 ^ 64
def capOf (b : BI) (a : Addr) (c : Nat) : Nat := if c = openCap then b.tot - a.off / b.sz else c
abbrev Map := List BI
def FnR (M : Map) : Fn → Fn → Prop
  | .yield l, f => ∃ b, M[l]? = some b ∧ f = .yield b.real
  | g, f => f = g
mutual
def VR (M : Map) : Value → Value → Prop
  | .pointer (some a), r => ∃ b, M[a.block]? = some b ∧ r = .pointer (some (b.ad a))
  | .slice (some a) l c, r => if a.spot = some 7 then l = 0 ∧ c = 0 ∧ ∃ a' c', r = .slice (some a') 0 c' else ∃ b, M[a.block]? = some b ∧ r = .slice (some (b.ad a)) l (capOf b a c)
  | .map (some m), r => ∃ b, M[m]? = some b ∧ r = .map (some b.real)
  | .chan _, _ => False
  | .func fn x y, r => ∃ fn' x' y', FnR M fn fn' ∧ VRA M x x' ∧ VRA M y y' ∧ r = .func fn' x' y'
  | .iface t v, r => ∃ v', VR M v v' ∧ r = .iface t v'
  | .agg cs, r => ∃ cs', VRA M cs cs' ∧ r = .agg cs'
  | .tuple cs, r => ∃ cs', VRA M cs cs' ∧ r = .tuple cs'
  | v, r => r = v
def VRA (M : Map) : Array Value → Array Value → Prop
  | ⟨l⟩, r => VRL M l r.toList
def VRL (M : Map) : List Value → List Value → Prop
  | [], r => r = []
  | v :: l, r => ∃ v' l', VR M v v' ∧ VRL M l l' ∧ r = v' :: l'
end
end Go.Ax
