/-
  A part of the proof: what the run over an abstract memory gives; conditions: those of each theorem.
-/
import Derived.Test.YtpfenodmchhglaaA32
namespace Go.Ax
theorem T.get_nil (t : Nat) : (T.nil : T Value).get t = none := by cases t <;> rfl
theorem Sub.nil {E' : T Value} : Sub .nil E' := fun t v h => by rw [T.get_nil] at h; cases h
theorem Sub.set {E E' : T Value} {d : Nat} {v v' : Value} (hd : d < 2 ^ 19) (h : E'.get d = some v') (hv : v' = v) (k : Sub E E') : Sub (T.set 20 E d v) E' := fun t x hx => by
  by_cases e : t = d
  · subst e
    rw [T.get_set_same 20 _ _ _ (by omega)] at hx
    cases hx; rw [h, hv]
  · rw [T.get_set_other 20 _ _ _ _ e] at hx
    exact k t x hx
def byteSlOK (P : Program) (t e : TypeId) : Bool :=
  (match pureRun P (underlying t) with | some (.slice e') => decide (e' = e) | _ => false) && (match pureRun P (underlying e) with | some (.int .u8) => true | _ => false) && (match pureRun P (sizeOf e) with | some k => decide (k = 1) | _ => false) &&
  (match pureRun P (typeInfo e) with | some i => decide (i.size = 1) && decide (i.bytes = 1) | _ => false) && (match pureRun P (zeroValue e) with | some (.int .u8 z) => decide (z = 0) | _ => false)
theorem ByteSl.of_ok {P : Program} {t e : TypeId} (h : byteSlOK P t e = true) : ∃ inf, ByteSl P t e inf := by
  simp only [byteSlOK, Bool.and_eq_true] at h
  obtain ⟨⟨⟨⟨h1, h2⟩, h3⟩, h4⟩, h5⟩ := h
  split at h1 <;> try (cases h1; done)
  rename_i e1
  split at h2 <;> try (cases h2; done)
  rename_i e2
  split at h3 <;> try (cases h3; done)
  rename_i e3
  split at h4 <;> try (cases h4; done)
  rename_i i e4
  split at h5 <;> try (cases h5; done)
  rename_i e5
  simp only [decide_eq_true_eq, Bool.and_eq_true] at h1 h3 h4 h5
  exact ⟨i, by rw [e1, h1], e2, by rw [e3, h3], e4, h4.1, h4.2, by rw [e5, h5]⟩
section
variable {P : Program} {F : FuncId → Option Func} {md : Md P} {n : Nat} {ops : Array Oper} {i : Nat} {l : List Nat} {E : T Value} {H : AHeap} {Q : T Value → AHeap → Prop}
  {d : Nat} {ty : TypeId} {pos : String} {af : Array Edge} {g : Option (Nat × Bool)}
/-- A byte of a block, by its name. -/
theorem OT.loadX (x0 : UInt8) {x : Operand} {t e : TypeId} {b off : Nat} {s : List UInt8} {kk : Nat} (ho : ops[i]? = some ⟨some d, .load t x, ty, pos, af, g⟩) (hw : aWanted ops ⟨some d, .load t x, ty, pos, af, g⟩ E = some true)
    (hx : aEval E x = some (.pointer (some ⟨b, off, none⟩))) (hb : H.t.get b = some (.cells (s.map bv) e kk)) (ha : pureRun P (isAgg t) = some false) (h1 : s[off]? = some x0) (hs : Side md E ⟨some d, .load t x, ty, pos, af, g⟩ H H) (hd : slotOK n d = true)
    (k : OT P F md n ops l (T.set 20 E d (bv x0)) H Q) : OT P F md n ops (i :: l) E H Q := by
  have hl : off < s.length := (List.getElem?_eq_some_iff.1 h1).1
  refine OT.loadB ho hw hx hb ha hl hs hd ?_
  rw [show s.getD off 0 = x0 by rw [List.getD_eq_getElem?_getD, h1]; rfl]
  exact k
theorem OT.shr (q : Int) {t yt : TypeId} {x y : Operand} {kd k2 : IntKind} {a b : Int} (ho : ops[i]? = some ⟨some d, .binOp .shr t x y yt, ty, pos, af, g⟩)
    (hw : aWanted ops ⟨some d, .binOp .shr t x y yt, ty, pos, af, g⟩ E = some true) (hx : aEval E x = some (.int kd a)) (hy : aEval E y = some (.int k2 b)) (h0 : 0 ≤ b) (h1 : b.toNat ≤ kd.bits) (hq : (2 : Int) ^ b.toNat = q) (hd : slotOK n d = true)
    (k : OT P F md n ops l (T.set 20 E d (.int kd (a / q))) H Q) : OT P F md n ops (i :: l) E H Q := OT.bin ho hw hx hy (by rw [aBin_shr h0 h1, hq]) hd k
theorem OT.shl (q : Int) {t yt : TypeId} {x y : Operand} {kd k2 : IntKind} {a b : Int} (ho : ops[i]? = some ⟨some d, .binOp .shl t x y yt, ty, pos, af, g⟩)
    (hw : aWanted ops ⟨some d, .binOp .shl t x y yt, ty, pos, af, g⟩ E = some true) (hx : aEval E x = some (.int kd a)) (hy : aEval E y = some (.int k2 b)) (h0 : 0 ≤ b) (h1 : b.toNat ≤ kd.bits) (hq : (2 : Int) ^ b.toNat = q) (hc : kd.wrap (a * q) = a * q) (hd : slotOK n d = true)
    (k : OT P F md n ops l (T.set 20 E d (.int kd (a * q))) H Q) : OT P F md n ops (i :: l) E H Q := OT.bin ho hw hx hy (by rw [aBin_shl h0 h1 (by rw [hq, hc]), hq]) hd k
/-- The low m bits. -/
theorem OT.mask (m : Nat) (q : Int) {t yt : TypeId} {x y : Operand} {kd : IntKind} {a b : Int} (ho : ops[i]? = some ⟨some d, .binOp .and t x y yt, ty, pos, af, g⟩)
    (hw : aWanted ops ⟨some d, .binOp .and t x y yt, ty, pos, af, g⟩ E = some true) (hx : aEval E x = some (.int kd a)) (hy : aEval E y = some (.int kd b)) (hb : b = q - 1) (hq : (2 : Int) ^ m = q) (h0 : 0 ≤ a) (h1 : a < 2 ^ kd.bits) (hm : m ≤ kd.bits) (hc : kd.wrap (a % q) = a % q) (hd : slotOK n d = true)
    (k : OT P F md n ops l (T.set 20 E d (.int kd (a % q))) H Q) : OT P F md n ops (i :: l) E H Q := OT.bin ho hw hx hy (by rw [hb, ← hq, aBin_mask m h0 h1 hm (by rw [hq, hc])]) hd k
theorem OT.orA (m : Nat) {t yt : TypeId} {x y : Operand} {kd : IntKind} {a b : Int} (ho : ops[i]? = some ⟨some d, .binOp .or t x y yt, ty, pos, af, g⟩)
    (hw : aWanted ops ⟨some d, .binOp .or t x y yt, ty, pos, af, g⟩ E = some true) (hx : aEval E x = some (.int kd a)) (hy : aEval E y = some (.int kd b)) (h0 : 0 ≤ a) (h1 : a + b < 2 ^ kd.bits) (h2 : a % 2 ^ m = 0) (h3 : 0 ≤ b) (h4 : b < 2 ^ m) (hc : kd.wrap (a + b) = a + b) (hd : slotOK n d = true)
    (k : OT P F md n ops l (T.set 20 E d (.int kd (a + b))) H Q) : OT P F md n ops (i :: l) E H Q := OT.bin ho hw hx hy (aBin_or m h0 h1 h2 h3 h4 hc) hd k
end
/-- What a call keeps: the blocks that were there; it makes at most m more. -/
structure Keep (H H' : AHeap) (m : Nat) : Prop where
  le : H.next ≤ H'.next
  most : H'.next ≤ H.next + m
  old : ∀ i, i < H.next → H'.t.get i = H.t.get i
theorem Keep.refl (H : AHeap) (m : Nat) : Keep H H m := ⟨Nat.le_refl _, by omega, fun _ _ => rfl⟩
theorem Keep.trans {A B C : AHeap} {m k : Nat} (h : Keep A B m) (h2 : Keep B C k) : Keep A C (m + k) :=
  ⟨by have := h.le; have := h2.le; omega, by have := h.most; have := h2.most; omega, fun i hi => by rw [h2.old i (by have := h.le; omega), h.old i hi]⟩
/-- A value that is a slice of these bytes. -/
inductive SlB (H : AHeap) : Value → List UInt8 → Prop
  | nil : SlB H (.slice none 0 0) []
  | empty : SlB H emptySlice []
  | mk {b off c : Nat} {s l : List UInt8} {e : TypeId} {k : Nat} (hb : H.t.get b = some (.cells (s.map bv) e k)) (hl : off + l.length ≤ s.length) (hs : (s.drop off).take l.length = l) (hn : b < H.next) : SlB H (.slice (some ⟨b, off, none⟩) l.length c) l
theorem SlB.keep {H H' : AHeap} {m : Nat} {v : Value} {l : List UInt8} (h : SlB H v l) (k : Keep H H' m) : SlB H' v l := by
  cases h with
  | nil => exact .nil
  | empty => exact .empty
  | mk hb hl hs hn => exact .mk (by rw [k.old _ hn]; exact hb) hl hs (Nat.lt_of_lt_of_le hn k.le)
section
variable {P : Program} {F : FuncId → Option Func} {md : Md P} {n : Nat} {ops : Array Oper} {i : Nat} {l : List Nat} {E : T Value} {H : AHeap} {Q : T Value → AHeap → Prop}
  {d : Nat} {ty : TypeId} {pos : String} {af : Array Edge} {g : Option (Nat × Bool)}
theorem OT.lenB {x : Operand} {t e : TypeId} {H0 : AHeap} {v : Value} {bs : List UInt8} (hv : SlB H0 v bs) (ho : ops[i]? = some ⟨some d, .call ⟨.builtin .len, #[x], #[t]⟩, ty, pos, af, g⟩) (hw : aWanted ops ⟨some d, .call ⟨.builtin .len, #[x], #[t]⟩, ty, pos, af, g⟩ E = some true)
    (hx : aEval E x = some v) (hu : pureRun P (underlying t) = some (.slice e)) (hd : slotOK n d = true) (k : OT P F md n ops l (T.set 20 E d (.int .i64 (bs.length : Int))) H Q) : OT P F md n ops (i :: l) E H Q := by
  cases hv with
  | nil => exact OT.lenN ho hw hx hu hd k
  | empty => exact OT.lenS ho hw hx hu hd k
  | mk => exact OT.lenS ho hw hx hu hd k
end
theorem SlB.at {off : Nat} {s l : List UInt8} (hs : (s.drop off).take l.length = l) {j : Nat} (hj : j < l.length) : s[off + j]? = some l[j] := by
  have : l[j]? = some l[j] := List.getElem?_eq_getElem hj
  rw [← this]
  conv => rhs; rw [← hs]
  rw [List.getElem?_take, if_pos hj, List.getElem?_drop]
end Go.Ax
