/-
  A part of the proof: what a piece of the program gives; conditions: those of each theorem.
-/
import Derived.Test.YtljpjeipgdeioaaDoorA41
set_option linter.unusedVariables false
namespace Go.Ax
section
variable {P : Program} {F : FuncId → Option Func} {md : Md P} {n : Nat} {ops : Array Oper} {i : Nat} {l : List Nat} {E : T Value} {H : AHeap} {Q : T Value → AHeap → Prop}
  {d : Nat} {ty : TypeId} {pos : String} {af : Array Edge} {g : Option (Nat × Bool)}
/-- What is known of a type of slices whose elements are one cell each. -/
structure USl (P : Program) (t e : TypeId) (inf : TypeInfo) (z : Value) : Prop where
  u : pureRun P (underlying t) = some (.slice e)
  sz : pureRun P (sizeOf e) = some 1
  ti : pureRun P (typeInfo e) = some inf
  sz1 : inf.size = 1
  by1 : inf.bytes ≤ 64
  zv : pureRun P (zeroValue e) = some z
  zc : z.cells = #[z]
  zf : flat z = true
def uSlOK (P : Program) (t e : TypeId) (z : Value) : Bool :=
  match pureRun P (underlying t), pureRun P (sizeOf e), pureRun P (typeInfo e), pureRun P (zeroValue e) with
  | some (.slice e'), some s, some i, some z' => e' == e && s == 1 && i.size == 1 && decide (i.bytes ≤ 64) && eqV z' z
  | _, _, _, _ => false
theorem USl.of_ok {P : Program} {t e : TypeId} {z : Value} (h : uSlOK P t e z = true) (hc : z.cells = #[z]) (hf : flat z = true) : ∃ inf, USl P t e inf z := by
  unfold uSlOK at h
  split at h
  · rename_i e' s i z' h1 h2 h3 h4
    simp only [Bool.and_eq_true, beq_iff_eq, decide_eq_true_eq] at h
    obtain ⟨⟨⟨⟨rfl, rfl⟩, h5⟩, h6⟩, h7⟩ := h
    have := eqV_eq _ _ h7
    subst this
    exact ⟨i, h1, h2, h3, h5, h6, h4, hc, hf⟩
  · cases h
theorem range_u (z : Value) (c : Nat) : ((Array.range c).map ((#[z] : Array Value)[· % (#[z] : Array Value).size]!)).toList = List.replicate c z := by
  apply List.ext_getElem
  · simp
  · intro j h1 h2
    simp [Nat.mod_one]
theorem flatL_z {z : Value} (h : flat z = true) : flatL (#[z] : Array Value).toList = true := by simp [flatL, h]
theorem OT.makeU {x y : Operand} {t e : TypeId} {inf : TypeInfo} {z : Value} {k1 k2 : IntKind} {a c : Int} (hu : USl P t e inf z) (ho : ops[i]? = some ⟨some d, .makeSlice t x y, ty, pos, af, g⟩) (hw : aWanted ops ⟨some d, .makeSlice t x y, ty, pos, af, g⟩ E = some true)
    (hx : aEval E x = some (.int k1 a)) (hy : aEval E y = some (.int k2 c)) (h0 : 0 ≤ a) (h1 : a ≤ c) (h2 : c < 2 ^ 24) (hn : H.next < maxIds) (hs : Side md E ⟨some d, .makeSlice t x y, ty, pos, af, g⟩ H (H.add (.cells (List.replicate c.toNat z) e 0))) (hd : slotOK n d = true)
    (k : OT P F md n ops l (T.set 20 E d (.slice (some ⟨H.next, 0, none⟩) a.toNat c.toNat)) (H.add (.cells (List.replicate c.toNat z) e 0)) Q) : OT P F md n ops (i :: l) E H Q := by
  refine OT.op ho hw ?_ hs hd k
  have hb : (inf.bytes : Int) * c ≤ 64 * c := Int.mul_le_mul_of_nonneg_right (by exact_mod_cast hu.by1) (by omega)
  simp only [aOp, hx, hy, Option.bind_some, aMakeSlice, hu.u, hu.ti, hu.sz, hu.zv, hu.zc]
  rw [if_pos ⟨h0, h1, h2, by omega, flatL_z hu.zf, by simp⟩, Nat.mul_one, range_u]
  simp only [aNewSlice]
  rw [if_pos ⟨hn, by unfold openCap; omega⟩]
  rfl
theorem appT {t e : TypeId} {inf : TypeInfo} {z : Value} (hu : USl P t e inf z) : aAppT P #[t, t] = some ⟨e, 1, inf.bytes, #[z]⟩ := by
  simp [aAppT, hu.u, isIntD, hu.ti, hu.zv, hu.zc, hu.sz1]
theorem first_u {b2 off2 m2 c2 k2 : Nat} {e2 : TypeId} {vs2 new : List Value} (hb2 : H.t.get b2 = some (.cells vs2 e2 k2)) (h0 : 0 < m2) (h3 : off2 + m2 ≤ vs2.length) (hnew : (vs2.drop off2).take m2 = new) : aFirst H 1 m2 (.slice (some ⟨b2, off2, none⟩) m2 c2) = some new := by
  simp only [aFirst, Nat.mul_one, aCells, hb2]
  rw [if_neg (by omega), if_neg (by simp), if_pos h3, hnew]
/-- Appended where there is room. -/
theorem OT.roomU {x y : Operand} {t e e1 e2 : TypeId} {inf : TypeInfo} {z : Value} {b off m c b2 off2 m2 c2 kk k2 : Nat} {vs vs2 new : List Value} (hu : USl P t e inf z) (ho : ops[i]? = some ⟨some d, .call ⟨.builtin .append, #[x, y], #[t, t]⟩, ty, pos, af, g⟩) (hw : aWanted ops ⟨some d, .call ⟨.builtin .append, #[x, y], #[t, t]⟩, ty, pos, af, g⟩ E = some true)
    (hx : aEval E x = some (.slice (some ⟨b, off, none⟩) m c)) (hy : aEval E y = some (.slice (some ⟨b2, off2, none⟩) m2 c2)) (hb : H.t.get b = some (.cells vs e1 kk)) (hb2 : H.t.get b2 = some (.cells vs2 e2 k2))
    (hk : kk ≠ 2) (hid : b < maxIds) (hc : c ≠ openCap) (h0 : 0 < m2) (h1 : m + m2 ≤ c) (h2 : off + m + m2 ≤ vs.length) (h3 : off2 + m2 ≤ vs2.length) (hnew : (vs2.drop off2).take m2 = new) (hone : new.all (·.oneCell') = true) {H' : AHeap} (hH : H' = H.put b (.cells (vs.take (off + m) ++ new ++ vs.drop (off + m + m2)) e1 kk))
    (hs : Side md E ⟨some d, .call ⟨.builtin .append, #[x, y], #[t, t]⟩, ty, pos, af, g⟩ H H') (hd : slotOK n d = true)
    (k : OT P F md n ops l (T.set 20 E d (.slice (some ⟨b, off, none⟩) (m + m2) c)) H' Q) : OT P F md n ops (i :: l) E H Q := by
  refine OT.op ho hw ?_ hs hd k
  have hf := first_u (c2 := c2) hb2 h0 h3 hnew
  have hlen : new.length = m2 := by rw [← hnew]; simp; omega
  simp only [aOp, aCall, aArgs, List.map_cons, List.map_nil, hx, hy, allSome, Option.bind_some, Option.map_some, aBuiltin, aAppend, appT hu, aLenOf, hf, Nat.mul_one, hlen]
  rw [if_neg (by simp), if_neg (by simp; omega), if_neg (by simp), if_neg hc, if_pos h1]
  simp only [add_none, aStore, hb, hlen]
  rw [if_pos ⟨hk, h2, hone, hid⟩, hH]
  rfl
/-- Appended where the capacity is not known: the old slice is spent. -/
theorem OT.openU {x y : Operand} {t e e2 : TypeId} {inf : TypeInfo} {z : Value} {b m b2 off2 m2 c2 k2 : Nat} {vs vs2 new : List Value} (hu : USl P t e inf z) (ho : ops[i]? = some ⟨some d, .call ⟨.builtin .append, #[x, y], #[t, t]⟩, ty, pos, af, g⟩) (hw : aWanted ops ⟨some d, .call ⟨.builtin .append, #[x, y], #[t, t]⟩, ty, pos, af, g⟩ E = some true)
    (hx : aEval E x = some (.slice (some ⟨b, 0, none⟩) m openCap)) (hy : aEval E y = some (.slice (some ⟨b2, off2, none⟩) m2 c2)) (hb : H.t.get b = some (.cells vs e 11)) (hb2 : H.t.get b2 = some (.cells vs2 e2 k2))
    (h0 : 0 < m2) (h1 : m ≤ vs.length) (h2 : m + m2 < 2 ^ 38) (hn : H.next < maxIds) (h3 : off2 + m2 ≤ vs2.length) (hnew : (vs2.drop off2).take m2 = new) (hone : new.all (·.oneCell') = true) {H' : AHeap} (hH : H' = (H.put b .dead).add (.cells (vs.take m ++ new) e 11))
    (hs : Side md E ⟨some d, .call ⟨.builtin .append, #[x, y], #[t, t]⟩, ty, pos, af, g⟩ H H') (hd : slotOK n d = true)
    (k : OT P F md n ops l (T.set 20 E d (.slice (some ⟨H.next, 0, none⟩) (m + m2) openCap)) H' Q) : OT P F md n ops (i :: l) E H Q := by
  refine OT.op ho hw ?_ hs hd k
  have hf := first_u (c2 := c2) hb2 h0 h3 hnew
  have hlen : new.length = m2 := by rw [← hnew]; simp; omega
  have hb64 : 2 * (m + m2) * inf.bytes ≤ 2 ^ 48 := Nat.le_trans (Nat.mul_le_mul_left _ hu.by1) (by omega)
  simp only [aOp, aCall, aArgs, List.map_cons, List.map_nil, hx, hy, allSome, Option.bind_some, Option.map_some, aBuiltin, aAppend, appT hu, aLenOf, hf, Nat.mul_one, hlen]
  rw [if_neg (by simp), if_neg (by simp; omega), if_neg (by simp), if_pos trivial]
  simp only [hb]
  rw [if_pos ⟨trivial, trivial, h1, trivial, by omega, hb64, hn, hone⟩, hH]
  rfl
/-- The first append to a nil slice. -/
theorem OT.nilU {x y : Operand} {t e e2 : TypeId} {inf : TypeInfo} {z : Value} {b2 off2 m2 c2 k2 : Nat} {vs2 new : List Value} (hu : USl P t e inf z) (ho : ops[i]? = some ⟨some d, .call ⟨.builtin .append, #[x, y], #[t, t]⟩, ty, pos, af, g⟩) (hw : aWanted ops ⟨some d, .call ⟨.builtin .append, #[x, y], #[t, t]⟩, ty, pos, af, g⟩ E = some true)
    (hx : aEval E x = some (.slice none 0 0)) (hy : aEval E y = some (.slice (some ⟨b2, off2, none⟩) m2 c2)) (hb2 : H.t.get b2 = some (.cells vs2 e2 k2))
    (h0 : 0 < m2) (h2 : m2 < 2 ^ 38) (hn : H.next < maxIds) (h3 : off2 + m2 ≤ vs2.length) (hnew : (vs2.drop off2).take m2 = new) {H' : AHeap} (hH : H' = H.add (.cells new e 11))
    (hs : Side md E ⟨some d, .call ⟨.builtin .append, #[x, y], #[t, t]⟩, ty, pos, af, g⟩ H H') (hd : slotOK n d = true)
    (k : OT P F md n ops l (T.set 20 E d (.slice (some ⟨H.next, 0, none⟩) m2 openCap)) H' Q) : OT P F md n ops (i :: l) E H Q := by
  refine OT.op ho hw ?_ hs hd k
  have hf := first_u (c2 := c2) hb2 h0 h3 hnew
  have hlen : new.length = m2 := by rw [← hnew]; simp; omega
  have hle := nextslicecap_le (n := 0 + m2) (c := 0) (by omega)
  have hb64 : Builtin.nextslicecap (0 + m2) 0 * inf.bytes ≤ 2 ^ 48 := Nat.le_trans (Nat.mul_le_mul hle hu.by1) (by omega)
  simp only [aOp, aCall, aArgs, List.map_cons, List.map_nil, hx, hy, allSome, Option.bind_some, Option.map_some, aBuiltin, aAppend, appT hu, aLenOf, hf, Nat.mul_one, hlen]
  rw [if_neg (by simp), if_neg (by unfold openCap; omega), if_pos ⟨trivial, by omega, hb64, hn⟩, hH]
  simp
/-- The address of an element, a cell of a block. -/
theorem OT.ldV {x : Operand} {t e : TypeId} {b off kk : Nat} {vs : List Value} (v : Value) (ho : ops[i]? = some ⟨some d, .load t x, ty, pos, af, g⟩) (hw : aWanted ops ⟨some d, .load t x, ty, pos, af, g⟩ E = some true)
    (hx : aEval E x = some (.pointer (some ⟨b, off, none⟩))) (ha : pureRun P (isAgg t) = some false) (hb : H.t.get b = some (.cells vs e kk)) (hv : vs[off]? = some v) (hs : Side md E ⟨some d, .load t x, ty, pos, af, g⟩ H H) (hd : slotOK n d = true)
    (k : OT P F md n ops l (T.set 20 E d v) H Q) : OT P F md n ops (i :: l) E H Q := OT.ld ho hw hx ha hb hv hs hd k
end
end Go.Ax
