/-
  A part of the proof: what the run over an abstract memory gives; conditions: those of each theorem.
-/
import Derived.Test.YtpfenodmchhglaaA28
namespace Go.Ax
section
variable {P : Program} {F : FuncId → Option Func} {md : Md P} {n : Nat} {ops : Array Oper} {i : Nat} {l : List Nat} {E : T Value} {H : AHeap} {Q : T Value → AHeap → Prop}
def slotOK (n d : Nat) : Bool := decide (d < n) && decide (d < 500000)
theorem putE_ok {d : Nat} (h : slotOK n d = true) (v : Value) (E : T Value) : putE n (some d) v E = some (T.set 20 E d v) := by
  simp only [slotOK, Bool.and_eq_true, decide_eq_true_eq] at h
  simp only [putE, h, and_self, if_true]
/-- An operation whose value is known. -/
theorem OT.op {d : Nat} {p : Op} {ty : TypeId} {pos : String} {af : Array Edge} {g : Option (Nat × Bool)} {v : Value} {H' : AHeap} (ho : ops[i]? = some ⟨some d, p, ty, pos, af, g⟩) (hw : aWanted ops ⟨some d, p, ty, pos, af, g⟩ E = some true)
    (ha : aOp P (fun f => (F f).isSome) (aEval E) H ⟨some d, p, ty, pos, af, g⟩ = some (.val v, H')) (hs : Side md E ⟨some d, p, ty, pos, af, g⟩ H H') (hd : slotOK n d = true) (k : OT P F md n ops l (T.set 20 E d v) H' Q) : OT P F md n ops (i :: l) E H Q :=
  OT.val ho hw ha hs (putE_ok hd v E) k
theorem OT.move {d : Nat} {x : Operand} {ty : TypeId} {pos : String} {af : Array Edge} {g : Option (Nat × Bool)} {v : Value} (ho : ops[i]? = some ⟨some d, .move x, ty, pos, af, g⟩) (hw : aWanted ops ⟨some d, .move x, ty, pos, af, g⟩ E = some true)
    (hx : aEval E x = some v) (hd : slotOK n d = true) (k : OT P F md n ops l (T.set 20 E d v) H Q) : OT P F md n ops (i :: l) E H Q := OT.op ho hw (by simp [aOp, hx]) (Side.pure rfl) hd k
theorem OT.assign {d : Nat} {x : Operand} {ty : TypeId} {pos : String} {af : Array Edge} {g : Option (Nat × Bool)} {v : Value} (ho : ops[i]? = some ⟨some d, .assign x, ty, pos, af, g⟩) (hw : aWanted ops ⟨some d, .assign x, ty, pos, af, g⟩ E = some true)
    (hx : aEval E x = some v) (hd : slotOK n d = true) (k : OT P F md n ops l (T.set 20 E d v) H Q) : OT P F md n ops (i :: l) E H Q := OT.op ho hw (by simp [aOp, hx]) (Side.pure rfl) hd k
theorem OT.un {d : Nat} {p : Op} {ty : TypeId} {pos : String} {af : Array Edge} {j : Nat} {t : Bool} (ho : ops[i]? = some ⟨some d, p, ty, pos, af, some (j, t)⟩) (hw : aWanted ops ⟨some d, p, ty, pos, af, some (j, t)⟩ E = some false)
    (hd : slotOK n d = true) (k : OT P F md n ops l (T.set 20 E d undef) H Q) : OT P F md n ops (i :: l) E H Q := OT.pass ho hw (putE_ok hd _ E) k
theorem OT.pickT {d : Nat} {c x y : Operand} {ty : TypeId} {pos : String} {af : Array Edge} {g : Option (Nat × Bool)} {v : Value} (ho : ops[i]? = some ⟨some d, .pick c x y, ty, pos, af, g⟩) (hw : aWanted ops ⟨some d, .pick c x y, ty, pos, af, g⟩ E = some true)
    (hc : aEval E c = some (.bool true)) (hx : aEval E x = some v) (hd : slotOK n d = true) (k : OT P F md n ops l (T.set 20 E d v) H Q) : OT P F md n ops (i :: l) E H Q := OT.op ho hw (by simp [aOp, hc, hx]) (Side.pure rfl) hd k
theorem OT.pickF {d : Nat} {c x y : Operand} {ty : TypeId} {pos : String} {af : Array Edge} {g : Option (Nat × Bool)} {v : Value} (ho : ops[i]? = some ⟨some d, .pick c x y, ty, pos, af, g⟩) (hw : aWanted ops ⟨some d, .pick c x y, ty, pos, af, g⟩ E = some true)
    (hc : aEval E c = some (.bool false)) (hy : aEval E y = some v) (hd : slotOK n d = true) (k : OT P F md n ops l (T.set 20 E d v) H Q) : OT P F md n ops (i :: l) E H Q := OT.op ho hw (by simp [aOp, hc, hy]) (Side.pure rfl) hd k
def isCmp : BinOp → Bool
  | .eql | .neq | .lss | .leq | .gtr | .geq => true
  | _ => false
def cmpP : BinOp → Int → Int → Prop
  | .eql, a, b => a = b
  | .neq, a, b => a ≠ b
  | .lss, a, b => a < b
  | .leq, a, b => a ≤ b
  | .gtr, a, b => b < a
  | .geq, a, b => b ≤ a
  | _, _, _ => False
theorem aBin_cmpT {op : BinOp} {t : TypeId} {xo yo : Operand} {k : IntKind} {a b : Int} (ho : isCmp op = true) (h : cmpP op a b) : aBin P op t xo yo (.int k a) (.int k b) = some (.bool true) := by
  cases op <;> simp [isCmp] at ho <;> simp only [cmpP] at h <;> simp [aBin, flat, eqGuard, binOp, Op.intCmp, pureRun_pure, h]
theorem aBin_cmpF {op : BinOp} {t : TypeId} {xo yo : Operand} {k : IntKind} {a b : Int} (ho : isCmp op = true) (h : ¬ cmpP op a b) : aBin P op t xo yo (.int k a) (.int k b) = some (.bool false) := by
  cases op <;> simp [isCmp] at ho <;> simp only [cmpP] at h <;> simp [aBin, flat, eqGuard, binOp, Op.intCmp, pureRun_pure] <;> first | exact h | omega
theorem OT.cmpT {d : Nat} {op : BinOp} {t yt : TypeId} {x y : Operand} {ty : TypeId} {pos : String} {af : Array Edge} {g : Option (Nat × Bool)} {kd : IntKind} {a b : Int} (ho : ops[i]? = some ⟨some d, .binOp op t x y yt, ty, pos, af, g⟩)
    (hw : aWanted ops ⟨some d, .binOp op t x y yt, ty, pos, af, g⟩ E = some true) (hop : isCmp op = true) (hx : aEval E x = some (.int kd a)) (hy : aEval E y = some (.int kd b)) (hc : cmpP op a b) (hd : slotOK n d = true)
    (k : OT P F md n ops l (T.set 20 E d (.bool true)) H Q) : OT P F md n ops (i :: l) E H Q := OT.op ho hw (by simp [aOp, hx, hy, aBin_cmpT hop hc]) (Side.pure rfl) hd k
theorem OT.cmpF {d : Nat} {op : BinOp} {t yt : TypeId} {x y : Operand} {ty : TypeId} {pos : String} {af : Array Edge} {g : Option (Nat × Bool)} {kd : IntKind} {a b : Int} (ho : ops[i]? = some ⟨some d, .binOp op t x y yt, ty, pos, af, g⟩)
    (hw : aWanted ops ⟨some d, .binOp op t x y yt, ty, pos, af, g⟩ E = some true) (hop : isCmp op = true) (hx : aEval E x = some (.int kd a)) (hy : aEval E y = some (.int kd b)) (hc : ¬ cmpP op a b) (hd : slotOK n d = true)
    (k : OT P F md n ops l (T.set 20 E d (.bool false)) H Q) : OT P F md n ops (i :: l) E H Q := OT.op ho hw (by simp [aOp, hx, hy, aBin_cmpF hop hc]) (Side.pure rfl) hd k
theorem aBin_add {t : TypeId} {xo yo : Operand} {k : IntKind} {a b : Int} : aBin P .add t xo yo (.int k a) (.int k b) = some (.int k (k.wrap (a + b))) := by simp [aBin, flat, eqGuard, binOp, Op.intArith, pureRun_pure]
theorem aBin_sub {t : TypeId} {xo yo : Operand} {k : IntKind} {a b : Int} : aBin P .sub t xo yo (.int k a) (.int k b) = some (.int k (k.wrap (a - b))) := by simp [aBin, flat, eqGuard, binOp, Op.intArith, pureRun_pure]
theorem aBin_mul {t : TypeId} {xo yo : Operand} {k : IntKind} {a b : Int} : aBin P .mul t xo yo (.int k a) (.int k b) = some (.int k (k.wrap (a * b))) := by simp [aBin, flat, eqGuard, binOp, Op.intArith, pureRun_pure]
theorem aBin_quo {t : TypeId} {xo yo : Operand} {k : IntKind} {a b : Int} (hb : b ≠ 0) : aBin P .quo t xo yo (.int k a) (.int k b) = some (.int k (k.wrap (a.tdiv b))) := by simp [aBin, flat, eqGuard, binOp, Op.intDiv, pureRun_pure, hb]
theorem aBin_rem {t : TypeId} {xo yo : Operand} {k : IntKind} {a b : Int} (hb : b ≠ 0) : aBin P .rem t xo yo (.int k a) (.int k b) = some (.int k (a.tmod b)) := by simp [aBin, flat, eqGuard, binOp, Op.intDiv, pureRun_pure, hb]
theorem OT.add {d : Nat} {t yt : TypeId} {x y : Operand} {ty : TypeId} {pos : String} {af : Array Edge} {g : Option (Nat × Bool)} {kd : IntKind} {a b : Int} (ho : ops[i]? = some ⟨some d, .binOp .add t x y yt, ty, pos, af, g⟩)
    (hw : aWanted ops ⟨some d, .binOp .add t x y yt, ty, pos, af, g⟩ E = some true) (hx : aEval E x = some (.int kd a)) (hy : aEval E y = some (.int kd b)) (hc : kd.wrap (a + b) = a + b) (hd : slotOK n d = true)
    (k : OT P F md n ops l (T.set 20 E d (.int kd (a + b))) H Q) : OT P F md n ops (i :: l) E H Q := OT.op ho hw (by simp [aOp, hx, hy, aBin_add, hc]) (Side.pure rfl) hd k
theorem OT.sub {d : Nat} {t yt : TypeId} {x y : Operand} {ty : TypeId} {pos : String} {af : Array Edge} {g : Option (Nat × Bool)} {kd : IntKind} {a b : Int} (ho : ops[i]? = some ⟨some d, .binOp .sub t x y yt, ty, pos, af, g⟩)
    (hw : aWanted ops ⟨some d, .binOp .sub t x y yt, ty, pos, af, g⟩ E = some true) (hx : aEval E x = some (.int kd a)) (hy : aEval E y = some (.int kd b)) (hc : kd.wrap (a - b) = a - b) (hd : slotOK n d = true)
    (k : OT P F md n ops l (T.set 20 E d (.int kd (a - b))) H Q) : OT P F md n ops (i :: l) E H Q := OT.op ho hw (by simp [aOp, hx, hy, aBin_sub, hc]) (Side.pure rfl) hd k
theorem OT.mul {d : Nat} {t yt : TypeId} {x y : Operand} {ty : TypeId} {pos : String} {af : Array Edge} {g : Option (Nat × Bool)} {kd : IntKind} {a b : Int} (ho : ops[i]? = some ⟨some d, .binOp .mul t x y yt, ty, pos, af, g⟩)
    (hw : aWanted ops ⟨some d, .binOp .mul t x y yt, ty, pos, af, g⟩ E = some true) (hx : aEval E x = some (.int kd a)) (hy : aEval E y = some (.int kd b)) (hc : kd.wrap (a * b) = a * b) (hd : slotOK n d = true)
    (k : OT P F md n ops l (T.set 20 E d (.int kd (a * b))) H Q) : OT P F md n ops (i :: l) E H Q := OT.op ho hw (by simp [aOp, hx, hy, aBin_mul, hc]) (Side.pure rfl) hd k
end
end Go.Ax
