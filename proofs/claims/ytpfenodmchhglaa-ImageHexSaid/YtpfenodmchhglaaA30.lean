/-
  A part of the proof: what the run over an abstract memory gives; conditions: those of each theorem.
-/
import Derived.Test.YtpfenodmchhglaaA29
namespace Go.Ax
/-- A byte; a text. -/
def bv (b : UInt8) : Value := .int .u8 (b.toNat : Int)
def bstr (l : List UInt8) : Value := .string ⟨l.toArray⟩
theorem size_bstr (l : List UInt8) : (⟨l.toArray⟩ : ByteArray).size = l.length := rfl
theorem flatL_bv : ∀ l : List UInt8, flatL (l.map bv) = true
  | [] => rfl
  | _ :: l => by simp only [List.map_cons, flatL, flatL_bv l]; rfl
theorem one_bv (l : List UInt8) : (l.map bv).all (·.oneCell') = true := by simp [List.all_eq_true, bv, Value.oneCell']
theorem bytes_fold {P : Program} {f : Value → ByteArray → Sem (ForInStep ByteArray)} (hf : ∀ (b : UInt8) (s : ByteArray), f (bv b) s = pure (.yield (s.push b))) : ∀ (l : List UInt8) (s : ByteArray), pureRun P (forIn (m := Sem) (l.map bv) s f) = some ⟨(s.data.toList ++ l).toArray⟩
  | [], s => by simp [pureRun_pure]
  | b :: l, s => by
    simp only [List.map_cons, List.forIn_cons, pureRun_bind, hf, pureRun_pure, Option.bind_some]
    rw [bytes_fold hf l]
    congr 2
    simp
theorem bytesOf_bv {P : Program} (l : List UInt8) : pureRun P (bytesOf (l.map bv).toArray) = some (bstr l) := by
  unfold bytesOf
  simp only [List.forIn_toArray, pureRun_bind]
  rw [bytes_fold (fun b s => ?_)]
  · simp [pureRun_pure, bstr]
  · simp [bv]
section
variable {P : Program} {F : FuncId → Option Func} {md : Md P} {n : Nat} {ops : Array Oper} {i : Nat} {l : List Nat} {E : T Value} {H : AHeap} {Q : T Value → AHeap → Prop}
  {d : Nat} {ty : TypeId} {pos : String} {af : Array Edge} {g : Option (Nat × Bool)}
theorem OT.lenS {x : Operand} {t e : TypeId} {a : Addr} {m c : Nat} (ho : ops[i]? = some ⟨some d, .call ⟨.builtin .len, #[x], #[t]⟩, ty, pos, af, g⟩) (hw : aWanted ops ⟨some d, .call ⟨.builtin .len, #[x], #[t]⟩, ty, pos, af, g⟩ E = some true)
    (hx : aEval E x = some (.slice (some a) m c)) (hu : pureRun P (underlying t) = some (.slice e)) (hd : slotOK n d = true) (k : OT P F md n ops l (T.set 20 E d (.int .i64 (m : Int))) H Q) : OT P F md n ops (i :: l) E H Q :=
  OT.op ho hw (by simp [aOp, aCall, aArgs, allSome, hx, aBuiltin, aLen, hu, goInt]) (Side.pure rfl) hd k
theorem OT.lenN {x : Operand} {t e : TypeId} {m c : Nat} (ho : ops[i]? = some ⟨some d, .call ⟨.builtin .len, #[x], #[t]⟩, ty, pos, af, g⟩) (hw : aWanted ops ⟨some d, .call ⟨.builtin .len, #[x], #[t]⟩, ty, pos, af, g⟩ E = some true)
    (hx : aEval E x = some (.slice none m c)) (hu : pureRun P (underlying t) = some (.slice e)) (hd : slotOK n d = true) (k : OT P F md n ops l (T.set 20 E d (.int .i64 (m : Int))) H Q) : OT P F md n ops (i :: l) E H Q :=
  OT.op ho hw (by simp [aOp, aCall, aArgs, allSome, hx, aBuiltin, aLen, hu, goInt, flat, Builtin.len_, pureRun_bind, pureRun_pure]) (Side.pure rfl) hd k
theorem OT.lenT {x : Operand} {t : TypeId} {s : List UInt8} (ho : ops[i]? = some ⟨some d, .call ⟨.builtin .len, #[x], #[t]⟩, ty, pos, af, g⟩) (hw : aWanted ops ⟨some d, .call ⟨.builtin .len, #[x], #[t]⟩, ty, pos, af, g⟩ E = some true)
    (hx : aEval E x = some (bstr s)) (hu : pureRun P (underlying t) = some .string) (hd : slotOK n d = true) (k : OT P F md n ops l (T.set 20 E d (.int .i64 (s.length : Int))) H Q) : OT P F md n ops (i :: l) E H Q :=
  OT.op ho hw (by simp [aOp, aCall, aArgs, allSome, hx, aBuiltin, aLen, hu, goInt, flat, bstr, Builtin.len_, pureRun_bind, pureRun_pure, size_bstr]) (Side.pure rfl) hd k
theorem OT.indexT {x y : Operand} {t : TypeId} {kd : IntKind} {s : List UInt8} {j : Int} (ho : ops[i]? = some ⟨some d, .index t x y, ty, pos, af, g⟩) (hw : aWanted ops ⟨some d, .index t x y, ty, pos, af, g⟩ E = some true)
    (hx : aEval E x = some (bstr s)) (hy : aEval E y = some (.int kd j)) (hu : pureRun P (underlying t) = some .string) (h0 : 0 ≤ j) (h1 : j < s.length) (hd : slotOK n d = true) (k : OT P F md n ops l (T.set 20 E d (bv (s.getD j.toNat 0))) H Q) : OT P F md n ops (i :: l) E H Q := by
  have hlt : j.toNat < s.length := by omega
  have hb : (⟨s.toArray⟩ : ByteArray)[j.toNat]? = some (s.getD j.toNat 0) := by
    rw [getElem?_pos (⟨s.toArray⟩ : ByteArray) j.toNat hlt]
    simp only [Option.some.injEq]
    rw [List.getD_eq_getElem?_getD, List.getElem?_eq_getElem hlt]
    rfl
  refine OT.op ho hw ?_ (Side.pure rfl) hd k
  simp only [aOp, hx, hy, Option.bind_some, bstr, aIndex, Instr.index, asIntOf, pureRun_bind, pureRun_pure, hu, if_pos h0, hb]
  simp [flat, bv]
theorem OT.indexAddr {x y : Operand} {t e : TypeId} {kd : IntKind} {b off m c : Nat} {sz : Nat} {j : Int} (ho : ops[i]? = some ⟨some d, .indexAddr t x y, ty, pos, af, g⟩) (hw : aWanted ops ⟨some d, .indexAddr t x y, ty, pos, af, g⟩ E = some true)
    (hx : aEval E x = some (.slice (some ⟨b, off, none⟩) m c)) (hy : aEval E y = some (.int kd j)) (hu : pureRun P (underlying t) = some (.slice e)) (hz : pureRun P (sizeOf e) = some sz) (h0 : 0 ≤ j) (h1 : j < m) (hd : slotOK n d = true)
    (k : OT P F md n ops l (T.set 20 E d (.pointer (some ⟨b, off + j.toNat * sz, none⟩))) H Q) : OT P F md n ops (i :: l) E H Q :=
  OT.op ho hw (by simp [aOp, hx, hy, aIndexAddr, hu, hz, h0, h1, add_none]) (Side.pure rfl) hd k
/-- A byte is loaded. -/
theorem OT.loadB {x : Operand} {t e : TypeId} {b off : Nat} {s : List UInt8} {kk : Nat} (ho : ops[i]? = some ⟨some d, .load t x, ty, pos, af, g⟩) (hw : aWanted ops ⟨some d, .load t x, ty, pos, af, g⟩ E = some true)
    (hx : aEval E x = some (.pointer (some ⟨b, off, none⟩))) (hb : H.t.get b = some (.cells (s.map bv) e kk)) (ha : pureRun P (isAgg t) = some false) (h1 : off < s.length) (hs : Side md E ⟨some d, .load t x, ty, pos, af, g⟩ H H) (hd : slotOK n d = true)
    (k : OT P F md n ops l (T.set 20 E d (bv (s.getD off 0))) H Q) : OT P F md n ops (i :: l) E H Q := by
  refine OT.op ho hw ?_ hs hd k
  have : ((s.map bv).drop off).take 1 = [bv (s.getD off 0)] := by
    rw [List.drop_eq_getElem_cons (by simpa using h1)]
    simp [h1]
  simp only [aOp, hx, Option.bind_some, aLoad, ha, aCells, hb, List.length_map]
  rw [if_pos (by omega), this]
  rfl
end
end Go.Ax
