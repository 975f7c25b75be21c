/-
  A part of the proof: what the run over an abstract memory gives; conditions: those of each theorem.
-/
import Derived.Test.YtpfenodmchhglaaA34
namespace Go.Ax
/-- A CALL WITHOUT ADDRESSES, carried out over no memory: over any. -/
theorem EvS.frame {P : Program} {f : FuncId} {args : Array Value} {v : Value} {H2 : AHeap} (ha : flatA args = true) (hv : flat v = true) (he : EvS P (.call f args ⟨0, .nil⟩) (.value v H2)) (H : AHeap) : EvS P (.call f args H) (.value v H) := by
  intro base M args' w cs hargs hrel
  have h0 : Rel (fun k => k < w.heap.size) [] ⟨0, .nil⟩ w := by
    refine ⟨rfl, fun _ h => h, fun i x h => ?_, fun i b h => by simp at h, fun i b x h => by simp at h, fun i j bi bj xi xj h => by simp at h⟩
    rw [show (T.nil : T ABlk).get i = none by cases i <;> rfl] at h; cases h
  have hargs' : VRA [] args args' := by
    rw [VRA.flat_iff args ha] at hargs ⊢; exact hargs
  obtain ⟨M', w', v', fr', x1, x2, x3, x4, x5⟩ := he (fun k => k < w.heap.size) [] args' w cs hargs' h0
  rw [VR.flat_iff v hv] at x2
  subst x2
  have keepb : ∀ k, k < w.heap.size → w'.heap[k]? = w.heap[k]? := x4.block
  refine ⟨M, w', v', fr', Ext.refl M, VR.self hv, ⟨hrel.len, fun k hk => Nat.lt_of_lt_of_le (hrel.base_le k hk) x4.size, hrel.dom, fun i b hb => Nat.lt_of_lt_of_le (hrel.lt i b hb) x4.size, fun i b x hb hx => (hrel.blk i b x hb hx).keep (Ext.refl M) (keepb _ (hrel.lt i b hb)), hrel.inj⟩, ⟨x4.os, x4.tape, x4.output, x4.size, fun k hk => x4.block k (hrel.base_le k hk)⟩, x5⟩
section
variable {P : Program} {F : FuncId → Option Func} {md : Md P} {n : Nat} {ops : Array Oper} {i : Nat} {l : List Nat} {E : T Value} {H : AHeap} {Q : T Value → AHeap → Prop}
  {d : Nat} {ty : TypeId} {pos : String} {af : Array Edge} {g : Option (Nat × Bool)}
/-- Integers of one kind as those of another. -/
theorem OT.convI {x : Operand} {t u : TypeId} {ds : TypeDesc} {k0 k1 : IntKind} {a : Int} (ho : ops[i]? = some ⟨some d, .convert t u x, ty, pos, af, g⟩) (hw : aWanted ops ⟨some d, .convert t u x, ty, pos, af, g⟩ E = some true)
    (hx : aEval E x = some (.int k0 a)) (hu : pureRun P (underlying t) = some ds) (hv : pureRun P (underlying u) = some (.int k1)) (hc : k1.wrap a = a) (hs : Side md E ⟨some d, .convert t u x, ty, pos, af, g⟩ H H) (hd : slotOK n d = true)
    (k : OT P F md n ops l (T.set 20 E d (.int k1 a)) H Q) : OT P F md n ops (i :: l) E H Q := by
  refine OT.op ho hw ?_ hs hd k
  have : pureRun P (convert t u (.int k0 a)) = some (.int k1 a) := by
    simp [convert, pureRun_bind, pureRun_pure, hu, hv, Conv.intToInt, hc]
  simp [aOp, hx, aConvert, this, flat]
theorem OT.toTextB {x : Operand} {t u e : TypeId} {inf : TypeInfo} {v : Value} {bs : List UInt8} (hv0 : SlB H v bs) (ho : ops[i]? = some ⟨some d, .convert t u x, ty, pos, af, g⟩) (hw : aWanted ops ⟨some d, .convert t u x, ty, pos, af, g⟩ E = some true)
    (hx : aEval E x = some v) (hu : ByteSl P t e inf) (hv : pureRun P (underlying u) = some .string)
    (hs : Side md E ⟨some d, .convert t u x, ty, pos, af, g⟩ H H) (hd : slotOK n d = true)
    (k : OT P F md n ops l (T.set 20 E d (bstr bs)) H Q) : OT P F md n ops (i :: l) E H Q := by
  cases hv0 with
  | nil =>
    refine OT.op ho hw ?_ hs hd k
    have : pureRun P (convert t u (.slice none 0 0)) = some (bstr []) := by
      simp [convert, pureRun_bind, pureRun_pure, hu.u, hu.ue, hv, Conv.bytesToString]
      rfl
    simp [aOp, hx, aConvert, this, flat, bstr]
  | empty =>
    refine OT.op ho hw ?_ hs hd k
    have hb0 : pureRun P (bytesOf (([] : List Value)).toArray) = some (bstr []) := bytesOf_bv []
    simp only [aOp, hx, Option.bind_some, emptySlice, aConvert, hu.u, hv, hu.ue, if_true, hb0, flatL]
    rfl
  | mk hb hl hs' hn =>
    refine OT.toText ho hw hx hu hv hb hl hs hd ?_
    rw [hs']; exact k
theorem OT.cutT {x y : Operand} {t : TypeId} {kd : IntKind} {s : List UInt8} {j : Int} (ho : ops[i]? = some ⟨some d, .slice t x none (some y) none, ty, pos, af, g⟩) (hw : aWanted ops ⟨some d, .slice t x none (some y) none, ty, pos, af, g⟩ E = some true)
    (hx : aEval E x = some (bstr s)) (hy : aEval E y = some (.int kd j)) (hu : pureRun P (underlying t) = some .string) (h0 : 0 ≤ j) (h1 : j ≤ s.length) (hs : Side md E ⟨some d, .slice t x none (some y) none, ty, pos, af, g⟩ H H) (hd : slotOK n d = true)
    (k : OT P F md n ops l (T.set 20 E d (bstr (s.take j.toNat))) H Q) : OT P F md n ops (i :: l) E H Q := by
  refine OT.op ho hw ?_ hs hd k
  have hx' : (⟨s.toArray⟩ : ByteArray).extract 0 j.toNat = ⟨(s.take j.toNat).toArray⟩ := by
    apply ByteArray.ext; simp
  have : pureRun P (Instr.sliceAt t (bstr s) none (some (.int kd j)) none) = some (bstr (s.take j.toNat)) := by
    simp [Instr.sliceAt, Instr.slice, hu, bstr, Instr.sliceBounds, Instr.sliceBound, asIntOf, pureRun_bind, pureRun_pure, size_bstr, h0, h1, hx']
  simp only [aOp, hx, hy, Option.bind_some, aOpt, flat, if_true, aSlice, bstr]
  simp only [bstr] at this
  rw [this]
  simp [flat]
theorem OT.tailT {x y : Operand} {t : TypeId} {kd : IntKind} {s : List UInt8} {j : Int} (ho : ops[i]? = some ⟨some d, .slice t x (some y) none none, ty, pos, af, g⟩) (hw : aWanted ops ⟨some d, .slice t x (some y) none none, ty, pos, af, g⟩ E = some true)
    (hx : aEval E x = some (bstr s)) (hy : aEval E y = some (.int kd j)) (hu : pureRun P (underlying t) = some .string) (h0 : 0 ≤ j) (h1 : j ≤ s.length) (hs : Side md E ⟨some d, .slice t x (some y) none none, ty, pos, af, g⟩ H H) (hd : slotOK n d = true)
    (k : OT P F md n ops l (T.set 20 E d (bstr (s.drop j.toNat))) H Q) : OT P F md n ops (i :: l) E H Q := by
  refine OT.op ho hw ?_ hs hd k
  have hx' : (⟨s.toArray⟩ : ByteArray).extract j.toNat s.length = ⟨(s.drop j.toNat).toArray⟩ := by
    apply ByteArray.ext; simp; exact List.take_of_length_le (by simp)
  have : pureRun P (Instr.sliceAt t (bstr s) (some (.int kd j)) none none) = some (bstr (s.drop j.toNat)) := by
    simp [Instr.sliceAt, Instr.slice, hu, bstr, Instr.sliceBounds, Instr.sliceBound, asIntOf, pureRun_bind, pureRun_pure, size_bstr, h0, h1, hx']
  simp only [aOp, hx, hy, Option.bind_some, aOpt, flat, if_true, aSlice, bstr]
  simp only [bstr] at this
  rw [this]
  simp [flat]
/-- The front of a slice whose capacity is known. -/
theorem OT.cutS {x y : Operand} {t e : TypeId} {sz : Nat} {kd : IntKind} {b off m c : Nat} {j : Int} (ho : ops[i]? = some ⟨some d, .slice t x none (some y) none, ty, pos, af, g⟩) (hw : aWanted ops ⟨some d, .slice t x none (some y) none, ty, pos, af, g⟩ E = some true)
    (hx : aEval E x = some (.slice (some ⟨b, off, none⟩) m c)) (hy : aEval E y = some (.int kd j)) (hu : pureRun P (underlying t) = some (.slice e)) (hz : pureRun P (sizeOf e) = some sz) (hc : c ≠ openCap) (h0 : 0 ≤ j) (h1 : j ≤ c) (hs : Side md E ⟨some d, .slice t x none (some y) none, ty, pos, af, g⟩ H H) (hd : slotOK n d = true)
    (k : OT P F md n ops l (T.set 20 E d (.slice (some ⟨b, off, none⟩) j.toNat c)) H Q) : OT P F md n ops (i :: l) E H Q := by
  refine OT.op ho hw ?_ hs hd k
  have hb : pureRun P (Instr.sliceBounds true m c none (some (.int kd j)) none) = some (0, j.toNat, c) := by
    simp [Instr.sliceBounds, Instr.sliceBound, asIntOf, pureRun_pure, h0, h1]
  simp only [aOp, hx, hy, Option.bind_some, aOpt, flat, if_true, aSlice, hu, hz, hb]
  rw [if_neg (by simp), if_neg hc, if_pos ⟨trivial, by simpa using hc⟩]
  simp [add_none]
theorem aBin_neTF {t : TypeId} {xo yo : Operand} {a b : List UInt8} (h : a = b) : aBin P .neq t xo yo (bstr a) (bstr b) = some (.bool false) := by
  subst h
  simp [aBin, bstr, flat, eqGuard, binOp, Op.stringOp, pureRun_pure]
theorem aBin_eqTT {t : TypeId} {xo yo : Operand} {a b : List UInt8} (h : a = b) : aBin P .eql t xo yo (bstr a) (bstr b) = some (.bool true) := by
  subst h
  simp [aBin, bstr, flat, eqGuard, binOp, Op.stringOp, pureRun_pure]
theorem aBin_neT {t : TypeId} {xo yo : Operand} {a b : List UInt8} : aBin P .neq t xo yo (bstr a) (bstr b) = some (.bool (decide (a ≠ b))) := by
  simp [aBin, bstr, flat, eqGuard, binOp, Op.stringOp, pureRun_pure, Go.ByteArray.toList_eq]
  rw [Bool.beq_eq_decide_eq]
end
end Go.Ax
