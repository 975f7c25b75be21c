/-
  A part of the proof: what the run over an abstract memory gives; conditions: those of each theorem.
-/
import Derived.Test.YtpfenodmchhglaaA30
namespace Go.Ax
section
variable {P : Program} {F : FuncId → Option Func} {md : Md P} {n : Nat} {ops : Array Oper} {i : Nat} {l : List Nat} {E : T Value} {H : AHeap} {Q : T Value → AHeap → Prop}
  {d : Nat} {ty : TypeId} {pos : String} {af : Array Edge} {g : Option (Nat × Bool)}
/-- What is known of a type of slices of bytes. -/
structure ByteSl (P : Program) (t e : TypeId) (inf : TypeInfo) : Prop where
  u : pureRun P (underlying t) = some (.slice e)
  ue : pureRun P (underlying e) = some (.int .u8)
  sz : pureRun P (sizeOf e) = some 1
  ti : pureRun P (typeInfo e) = some inf
  sz1 : inf.size = 1
  by1 : inf.bytes = 1
  z : pureRun P (zeroValue e) = some (.int .u8 0)
theorem range_zero (c : Nat) : ((Array.range c).map ((#[Value.int .u8 0] : Array Value)[· % (#[Value.int .u8 0] : Array Value).size]!)).toList = (List.replicate c (0 : UInt8)).map bv := by
  apply List.ext_getElem
  · simp
  · intro j h1 h2
    simp [bv, Nat.mod_one]
theorem OT.makeB {x y : Operand} {t e : TypeId} {inf : TypeInfo} {k1 k2 : IntKind} {a c : Int} (ho : ops[i]? = some ⟨some d, .makeSlice t x y, ty, pos, af, g⟩) (hw : aWanted ops ⟨some d, .makeSlice t x y, ty, pos, af, g⟩ E = some true)
    (hx : aEval E x = some (.int k1 a)) (hy : aEval E y = some (.int k2 c)) (hu : ByteSl P t e inf) (h0 : 0 ≤ a) (h1 : a ≤ c) (h2 : c < 2 ^ 24) (hn : H.next < maxIds) (hs : Side md E ⟨some d, .makeSlice t x y, ty, pos, af, g⟩ H (H.add (.cells ((List.replicate c.toNat (0 : UInt8)).map bv) e 0))) (hd : slotOK n d = true)
    (k : OT P F md n ops l (T.set 20 E d (.slice (some ⟨H.next, 0, none⟩) a.toNat c.toNat)) (H.add (.cells ((List.replicate c.toNat (0 : UInt8)).map bv) e 0)) Q) : OT P F md n ops (i :: l) E H Q := by
  refine OT.op ho hw ?_ hs hd k
  have hv : (Value.int IntKind.u8 0).cells = #[.int .u8 0] := rfl
  simp only [aOp, hx, hy, Option.bind_some, aMakeSlice, hu.u, hu.ti, hu.sz, hu.z, hv, hu.by1]
  rw [if_pos ⟨h0, h1, h2, by omega, rfl, by simp⟩, Nat.mul_one, range_zero]
  simp only [aNewSlice]
  rw [if_pos ⟨hn, by unfold openCap; omega⟩]
  rfl
/-- Two bytes (or so) under a new slice. -/
theorem OT.litB {x0 x1 : Operand} {t e : TypeId} {inf : TypeInfo} {b0 b1 : UInt8} (ho : ops[i]? = some ⟨some d, .buildSlice t 2 #[(0, x0), (1, x1)], ty, pos, af, g⟩) (hw : aWanted ops ⟨some d, .buildSlice t 2 #[(0, x0), (1, x1)], ty, pos, af, g⟩ E = some true)
    (h0 : aEval E x0 = some (bv b0)) (h1 : aEval E x1 = some (bv b1)) (hu : ByteSl P t e inf) (hn : H.next < maxIds) (hs : Side md E ⟨some d, .buildSlice t 2 #[(0, x0), (1, x1)], ty, pos, af, g⟩ H (H.add (.cells ([b0, b1].map bv) e 0))) (hd : slotOK n d = true)
    (k : OT P F md n ops l (T.set 20 E d (.slice (some ⟨H.next, 0, none⟩) 2 2)) (H.add (.cells ([b0, b1].map bv) e 0)) Q) : OT P F md n ops (i :: l) E H Q := by
  refine OT.op ho hw ?_ hs hd k
  have hv : (Value.int IntKind.u8 0).cells = #[.int .u8 0] := rfl
  have hf : Instr.fill (fun i => some (i * 1, 1)) ((Array.range (2 * 1)).map ((#[Value.int .u8 0] : Array Value)[· % (#[Value.int .u8 0] : Array Value).size]!)) [(0, bv b0), (1, bv b1)] = some #[bv b0, bv b1] := by
    rw [show ((Array.range (2 * 1)).map ((#[Value.int .u8 0] : Array Value)[· % (#[Value.int .u8 0] : Array Value).size]!)) = #[bv 0, bv 0] from Array.ext' (range_zero 2)]
    rfl
  simp only [aOp, aParts, List.map_cons, List.map_nil, h0, h1, Option.map_some, allSome, Option.bind_some, aBuildSlice, hu.u, hu.sz, hu.z, hv, hf]
  simp only [aNewSlice]
  rw [if_pos ⟨by omega, rfl, .inr (by simp)⟩, if_pos ⟨hn, by unfold openCap; omega⟩]
  rfl
theorem OT.lit1 {x0 : Operand} {t e : TypeId} {inf : TypeInfo} {b0 : UInt8} (ho : ops[i]? = some ⟨some d, .buildSlice t 1 #[(0, x0)], ty, pos, af, g⟩) (hw : aWanted ops ⟨some d, .buildSlice t 1 #[(0, x0)], ty, pos, af, g⟩ E = some true)
    (h0 : aEval E x0 = some (bv b0)) (hu : ByteSl P t e inf) (hn : H.next < maxIds) (hs : Side md E ⟨some d, .buildSlice t 1 #[(0, x0)], ty, pos, af, g⟩ H (H.add (.cells ([b0].map bv) e 0))) (hd : slotOK n d = true)
    (k : OT P F md n ops l (T.set 20 E d (.slice (some ⟨H.next, 0, none⟩) 1 1)) (H.add (.cells ([b0].map bv) e 0)) Q) : OT P F md n ops (i :: l) E H Q := by
  refine OT.op ho hw ?_ hs hd k
  have hv : (Value.int IntKind.u8 0).cells = #[.int .u8 0] := rfl
  have hf : Instr.fill (fun i => some (i * 1, 1)) ((Array.range (1 * 1)).map ((#[Value.int .u8 0] : Array Value)[· % (#[Value.int .u8 0] : Array Value).size]!)) [(0, bv b0)] = some #[bv b0] := by
    rw [show ((Array.range (1 * 1)).map ((#[Value.int .u8 0] : Array Value)[· % (#[Value.int .u8 0] : Array Value).size]!)) = #[bv 0] from Array.ext' (range_zero 1)]
    rfl
  simp only [aOp, aParts, List.map_cons, List.map_nil, h0, Option.map_some, allSome, Option.bind_some, aBuildSlice, hu.u, hu.sz, hu.z, hv, hf]
  simp only [aNewSlice]
  rw [if_pos ⟨by omega, rfl, .inr (by simp)⟩, if_pos ⟨hn, by unfold openCap; omega⟩]
  rfl
/-- Bytes appended where there is room. -/
theorem OT.roomB {x y : Operand} {t e e1 e2 : TypeId} {inf : TypeInfo} {b off m c b2 off2 m2 c2 kk k2 : Nat} {s s2 : List UInt8} (ho : ops[i]? = some ⟨some d, .call ⟨.builtin .append, #[x, y], #[t, t]⟩, ty, pos, af, g⟩) (hw : aWanted ops ⟨some d, .call ⟨.builtin .append, #[x, y], #[t, t]⟩, ty, pos, af, g⟩ E = some true)
    (hx : aEval E x = some (.slice (some ⟨b, off, none⟩) m c)) (hy : aEval E y = some (.slice (some ⟨b2, off2, none⟩) m2 c2)) (hu : ByteSl P t e inf) (hb : H.t.get b = some (.cells (s.map bv) e1 kk)) (hb2 : H.t.get b2 = some (.cells (s2.map bv) e2 k2))
    (hk : kk ≠ 2) (hid : b < maxIds) (hc : c ≠ openCap) (h0 : 0 < m2) (h1 : m + m2 ≤ c) (h2 : off + m + m2 ≤ s.length) (h3 : off2 + m2 ≤ s2.length) {H' : AHeap} (hH : H' = H.put b (.cells ((s.take (off + m) ++ (s2.drop off2).take m2 ++ s.drop (off + m + m2)).map bv) e1 kk))
    (hs : Side md E ⟨some d, .call ⟨.builtin .append, #[x, y], #[t, t]⟩, ty, pos, af, g⟩ H H') (hd : slotOK n d = true)
    (k : OT P F md n ops l (T.set 20 E d (.slice (some ⟨b, off, none⟩) (m + m2) c)) H' Q) : OT P F md n ops (i :: l) E H Q := by
  refine OT.op ho hw ?_ hs hd k
  have hv : (Value.int IntKind.u8 0).cells = #[.int .u8 0] := rfl
  have hT : aAppT P #[t, t] = some ⟨e, 1, 1, #[.int .u8 0]⟩ := by
    simp [aAppT, hu.u, isIntD, hu.ti, hu.z, hv, hu.sz1, hu.by1]
  have hf : aFirst H 1 m2 (.slice (some ⟨b2, off2, none⟩) m2 c2) = some (((s2.drop off2).take m2).map bv) := by
    simp only [aFirst, Nat.mul_one, aCells, hb2, List.length_map]
    rw [if_neg (by omega), if_neg (by simp), if_pos h3]
    simp [List.map_take, List.map_drop]
  have hlen : (((s2.drop off2).take m2).map bv).length = m2 := by simp; omega
  simp only [aOp, aCall, aArgs, List.map_cons, List.map_nil, hx, hy, allSome, Option.bind_some, Option.map_some, aBuiltin, aAppend, hT, aLenOf, hf, Nat.mul_one, hlen]
  rw [if_neg (by simp), if_neg (by simp; omega), if_neg (by simp), if_neg hc, if_pos h1]
  simp only [add_none, aStore, hb, hlen, List.length_map]
  rw [if_pos ⟨hk, h2, one_bv _, hid⟩, hH]
  simp [List.map_take, List.map_drop]
/-- Bytes become a text. -/
theorem OT.toText {x : Operand} {t u e e1 : TypeId} {inf : TypeInfo} {b off m c kk : Nat} {s : List UInt8} (ho : ops[i]? = some ⟨some d, .convert t u x, ty, pos, af, g⟩) (hw : aWanted ops ⟨some d, .convert t u x, ty, pos, af, g⟩ E = some true)
    (hx : aEval E x = some (.slice (some ⟨b, off, none⟩) m c)) (hu : ByteSl P t e inf) (hv : pureRun P (underlying u) = some .string) (hb : H.t.get b = some (.cells (s.map bv) e1 kk)) (h1 : off + m ≤ s.length)
    (hs : Side md E ⟨some d, .convert t u x, ty, pos, af, g⟩ H H) (hd : slotOK n d = true)
    (k : OT P F md n ops l (T.set 20 E d (bstr ((s.drop off).take m))) H Q) : OT P F md n ops (i :: l) E H Q := by
  refine OT.op ho hw ?_ hs hd k
  have hl : (if m = 0 then some [] else aCells H ⟨b, off, none⟩ m) = some (((s.drop off).take m).map bv) := by
    split
    · rename_i h; subst h; simp
    · simp only [aCells, hb, List.length_map]
      rw [if_pos h1]
      simp [List.map_take, List.map_drop]
  simp only [aOp, hx, Option.bind_some, aConvert, hu.u, hv, hu.ue, if_true, hl, flatL_bv, bytesOf_bv]
  rfl
/-- A text becomes bytes. -/
theorem OT.toBytes {x : Operand} {t u e : TypeId} {tu : TypeDesc} {inf : TypeInfo} {s : List UInt8} (ho : ops[i]? = some ⟨some d, .convert u t x, ty, pos, af, g⟩) (hw : aWanted ops ⟨some d, .convert u t x, ty, pos, af, g⟩ E = some true)
    (hx : aEval E x = some (bstr s)) (hu : ByteSl P t e inf) (hv : pureRun P (underlying u) = some tu) (hn : H.next < maxIds) (hl : s.length < 2 ^ 40)
    (hs : Side md E ⟨some d, .convert u t x, ty, pos, af, g⟩ H (H.add (.cells (s.map bv) e 11))) (hd : slotOK n d = true)
    (k : OT P F md n ops l (T.set 20 E d (.slice (some ⟨H.next, 0, none⟩) s.length openCap)) (H.add (.cells (s.map bv) e 11)) Q) : OT P F md n ops (i :: l) E H Q := by
  refine OT.op ho hw ?_ hs hd k
  simp only [aOp, hx, Option.bind_some, bstr, aConvert, hu.u, hv, hu.ue, size_bstr]
  rw [if_pos ⟨hn, hl⟩]
  rfl
end
end Go.Ax
