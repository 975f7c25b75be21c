/-
  A part of the proof: what a piece of the program gives; conditions: those of each theorem.
-/
import Derived.Test.YtljpjeipgdeioaaDoorA42
set_option linter.unusedVariables false
namespace Go.Ax
/-- A slice of one-cell elements as it comes in: nil, empty, or with a known capacity. -/
inductive InS (H : AHeap) : Value → List Value → Prop
  | nil : InS H (.slice none 0 0) []
  | empty : InS H emptySlice []
  | mk {b off c : Nat} {s l : List Value} {e : TypeId} {k : Nat} (hb : H.t.get b = some (.cells s e k)) (hl : off + l.length ≤ s.length) (hs : (s.drop off).take l.length = l) (hn : b < H.next) (hc : l.length ≤ c) (hco : c ≠ openCap) (hcl : c < 2 ^ 63) : InS H (.slice (some ⟨b, off, none⟩) l.length c) l
theorem InS.inv {H : AHeap} {v : Value} {l : List Value} (h : InS H v l) (hp : 0 < l.length) : ∃ b off c s e k, v = .slice (some ⟨b, off, none⟩) l.length c ∧ H.t.get b = some (.cells s e k) ∧ off + l.length ≤ s.length ∧ (s.drop off).take l.length = l ∧ b < H.next ∧ l.length ≤ c ∧ c ≠ openCap ∧ c < 2 ^ 63 := by
  cases h with
  | nil => simp at hp
  | empty => simp at hp
  | mk hb hl hs hn hc hco hcl => exact ⟨_, _, _, _, _, _, rfl, hb, hl, hs, hn, hc, hco, hcl⟩
theorem InS.keep {H H' : AHeap} {m : Nat} {v : Value} {l : List Value} (h : InS H v l) (k : Keep H H' m) : InS H' v l := by
  cases h with
  | nil => exact .nil
  | empty => exact .empty
  | mk hb hl hs hn hc hco hcl => exact .mk (by rw [k.old _ hn]; exact hb) hl hs (Nat.lt_of_lt_of_le hn k.le) hc hco hcl
theorem InS.at {off : Nat} {s l : List Value} (hs : (s.drop off).take l.length = l) {j : Nat} (hj : j < l.length) : s[off + j]? = some l[j] := by
  have h1 : l[j]? = some l[j] := List.getElem?_eq_getElem hj
  conv at h1 => lhs; rw [← hs]
  rw [List.getElem?_take_of_lt hj, List.getElem?_drop] at h1
  exact h1
section
variable {P : Program} {F : FuncId → Option Func} {md : Md P} {n : Nat} {ops : Array Oper} {i : Nat} {l : List Nat} {E : T Value} {H : AHeap} {Q : T Value → AHeap → Prop}
  {d : Nat} {ty : TypeId} {pos : String} {af : Array Edge} {g : Option (Nat × Bool)}
theorem OT.lenI {x : Operand} {t e : TypeId} {H0 : AHeap} {v : Value} {bs : List Value} (hv : InS H0 v bs) (hu : pureRun P (underlying t) = some (.slice e)) (ho : ops[i]? = some ⟨some d, .call ⟨.builtin .len, #[x], #[t]⟩, ty, pos, af, g⟩) (hw : aWanted ops ⟨some d, .call ⟨.builtin .len, #[x], #[t]⟩, ty, pos, af, g⟩ E = some true)
    (hx : aEval E x = some v) (hd : slotOK n d = true) (k : OT P F md n ops l (T.set 20 E d (.int .i64 (bs.length : Int))) H Q) : OT P F md n ops (i :: l) E H Q := by
  cases hv with
  | nil => exact OT.lenN ho hw hx hu hd (by simpa using k)
  | empty => exact OT.lenS ho hw hx hu hd (by simpa using k)
  | mk hb hl hs hn hc hco hcl => exact OT.lenS ho hw hx hu hd k
theorem OT.lenQ (q : Int) {x : Operand} {t e : TypeId} {H0 : AHeap} {v : Value} {bs : List Value} (hv : InS H0 v bs) (hu : pureRun P (underlying t) = some (.slice e)) (hq : (bs.length : Int) = q) (ho : ops[i]? = some ⟨some d, .call ⟨.builtin .len, #[x], #[t]⟩, ty, pos, af, g⟩) (hw : aWanted ops ⟨some d, .call ⟨.builtin .len, #[x], #[t]⟩, ty, pos, af, g⟩ E = some true)
    (hx : aEval E x = some v) (hd : slotOK n d = true) (k : OT P F md n ops l (T.set 20 E d (.int .i64 q)) H Q) : OT P F md n ops (i :: l) E H Q := OT.lenI hv hu ho hw hx hd (by rw [hq]; exact k)
theorem bounds_tail {P : Program} {kd : IntKind} {len cap : Nat} {j : Int} (h0 : 0 ≤ j) (h1 : j ≤ len) : pureRun P (Instr.sliceBounds true len cap (some (.int kd j)) none none) = some (j.toNat, len, cap) := by
  simp only [Instr.sliceBounds, Instr.sliceBound, pureRun_bind, pureRun_pure, Option.bind_some, asIntOf]
  rw [if_pos ⟨h0, h1⟩]
  simp [pureRun_pure]
/-- The tail of a slice. -/
theorem OT.tailI {x y : Operand} {t e : TypeId} {kd : IntKind} {v : Value} {bs : List Value} {j : Int} {H0 : AHeap} (hv : InS H0 v bs) (hu : pureRun P (underlying t) = some (.slice e)) (hz : pureRun P (sizeOf e) = some 1) (ho : ops[i]? = some ⟨some d, .slice t x (some y) none none, ty, pos, af, g⟩) (hw : aWanted ops ⟨some d, .slice t x (some y) none none, ty, pos, af, g⟩ E = some true)
    (hx : aEval E x = some v) (hy : aEval E y = some (.int kd j)) (h0 : 0 < j) (h1 : j ≤ bs.length) (hs : Side md E ⟨some d, .slice t x (some y) none none, ty, pos, af, g⟩ H H) (hd : slotOK n d = true)
    (k : ∀ v', InS H0 v' (bs.drop j.toNat) → OT P F md n ops l (T.set 20 E d v') H Q) : OT P F md n ops (i :: l) E H Q := by
  cases hv with
  | nil => simp at h1; omega
  | empty => simp at h1; omega
  | @mk b off c s _ e' kk hb hl hs' hn hc hco hcl =>
    have hk : InS H0 (.slice (some (if c = j.toNat then ⟨b, off, none⟩ else ⟨b, off + j.toNat, none⟩)) (bs.length - j.toNat) (c - j.toNat)) (bs.drop j.toNat) := by
      have hlen : (bs.drop j.toNat).length = bs.length - j.toNat := List.length_drop
      rw [← hlen]
      by_cases hcj : c = j.toNat
      · rw [if_pos hcj]
        have : bs.drop j.toNat = [] := List.drop_eq_nil_of_le (by omega)
        rw [this]
        exact .mk hb (by simp; omega) (by simp) hn (by simp) (by unfold openCap; omega) (by omega)
      · rw [if_neg hcj]
        refine .mk hb (by rw [hlen]; omega) ?_ hn (by rw [hlen]; omega) (by unfold openCap; omega) (by omega)
        rw [hlen, ← List.drop_drop, ← List.drop_take, hs']
    refine OT.op ho hw ?_ hs hd (k _ hk)
    simp only [aOp, hx, Option.bind_some, aOpt, hy, flat, if_true, aSlice, hu]
    rw [if_neg (by simp), if_neg hco]
    simp only [hz, bounds_tail (Int.le_of_lt h0) h1]
    rw [if_pos ⟨trivial, by unfold openCap; omega⟩]
    simp [add_none]
end
end Go.Ax
