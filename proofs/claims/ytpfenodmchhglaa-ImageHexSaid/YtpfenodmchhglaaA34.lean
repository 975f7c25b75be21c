/-
  A part of the proof: what the run over an abstract memory gives; conditions: those of each theorem.
-/
import Derived.Test.YtpfenodmchhglaaA33
namespace Go.Ax
section
variable {P : Program} {F : FuncId → Option Func} {md : Md P} {n : Nat} {ops : Array Oper} {i : Nat} {l : List Nat} {E : T Value} {H : AHeap} {Q : T Value → AHeap → Prop}
  {d : Nat} {ty : TypeId} {pos : String} {af : Array Edge} {g : Option (Nat × Bool)}
theorem OT.indexX (x0 : UInt8) {x y : Operand} {t : TypeId} {kd : IntKind} {s : List UInt8} {j : Int} (ho : ops[i]? = some ⟨some d, .index t x y, ty, pos, af, g⟩) (hw : aWanted ops ⟨some d, .index t x y, ty, pos, af, g⟩ E = some true)
    (hx : aEval E x = some (bstr s)) (hy : aEval E y = some (.int kd j)) (hu : pureRun P (underlying t) = some .string) (h0 : 0 ≤ j) (h1 : s[j.toNat]? = some x0) (hd : slotOK n d = true) (k : OT P F md n ops l (T.set 20 E d (bv x0)) H Q) : OT P F md n ops (i :: l) E H Q := by
  have hl : j.toNat < s.length := (List.getElem?_eq_some_iff.1 h1).1
  refine OT.indexT ho hw hx hy hu h0 (by omega) hd ?_
  rw [show s.getD j.toNat 0 = x0 by rw [List.getD_eq_getElem?_getD, h1]; rfl]
  exact k
/-- A call whose answer is known. -/
theorem OT.call1 {xs : Array Operand} {ts : Array TypeId} {f : FuncId} {vs : List Value} {v : Value} {H2 : AHeap} (he : EvS P (.call f vs.toArray H) (.value v H2)) (ho : ops[i]? = some ⟨some d, .call ⟨.value (.func f), xs, ts⟩, ty, pos, af, g⟩) (hw : aWanted ops ⟨some d, .call ⟨.value (.func f), xs, ts⟩, ty, pos, af, g⟩ E = some true)
    (hx : aArgs (aEval E) xs = some vs) (hf : (F f).isSome = true) (hd : slotOK n d = true) (k : OT P F .str n ops l (T.set 20 E d v) H2 Q) : OT P F .str n ops (i :: l) E H Q := by
  refine OT.call (f := f) (args := vs.toArray) (H1 := H) (R := fun v' H' => v' = v ∧ H' = H2) ho hw ?_ ⟨v, H2, he, rfl, rfl⟩ ?_
  · simp [aOp, aCall, hx, aEval, aEnter, hf]
  · rintro v' H' ⟨rfl, rfl⟩
    exact ⟨_, putE_ok hd _ _, k⟩
/-- The same in a region that draws its order. -/
theorem OT.call1D {ev : Req → Option Res} {hev : Valid P ev} {L : List Nat} {xs : Array Operand} {ts : Array TypeId} {f : FuncId} {vs : List Value} {v : Value} {H2 : AHeap} (he : ev (.call f vs.toArray H) = some (.value v H2)) (ho : ops[i]? = some ⟨some d, .call ⟨.value (.func f), xs, ts⟩, ty, pos, af, g⟩) (hw : aWanted ops ⟨some d, .call ⟨.value (.func f), xs, ts⟩, ty, pos, af, g⟩ E = some true)
    (hx : aArgs (aEval E) xs = some vs) (hf : (F f).isSome = true) (hs : Side (.drw ev hev L) E ⟨some d, .call ⟨.value (.func f), xs, ts⟩, ty, pos, af, g⟩ H H2) (hd : slotOK n d = true) (k : OT P F (.drw ev hev L) n ops l (T.set 20 E d v) H2 Q) : OT P F (.drw ev hev L) n ops (i :: l) E H Q :=
  OT.callD ho hw (by simp [aOp, aCall, hx, aEval, aEnter, hf]) he hs (putE_ok hd _ _) k
end
end Go.Ax
