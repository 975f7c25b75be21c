/-
  A part of the proof: a run over an abstract memory, its soundness and its rules; each theorem says its conditions.
-/
import Derived.Test.YtikikmhlicoheaaGreatDoorGD
import Derived.LaidLaws
import Derived.MakeChecks
import Derived.OpenShut
import Derived.LaidHandle
import Derived.Deep.Fields
set_option linter.unusedVariables false
set_option linter.unusedSimpArgs false
namespace Go.Ax
section
variable {P : Program} {F : FuncId → Option Func} {md : Md P} {n : Nat} {ops : Array Oper} {i : Nat} {l : List Nat} {E : T Value} {H : AHeap} {Q : T Value → AHeap → Prop}
  {d : Nat} {ty : TypeId} {pos : String} {af : Array Edge} {g : Option (Nat × Bool)}
theorem OT.alloc {e : TypeId} {z : Value} {nx : Nat} {t : T ABlk} (vs : List Value) (ho : ops[i]? = some ⟨some d, .alloc e, ty, pos, af, g⟩) (hw : aWanted ops ⟨some d, .alloc e, ty, pos, af, g⟩ E = some true)
    (hz : pureRun P (zeroValue e) = some z) (hc : z.cells.toList = vs) (hf : flat z = true) (hn : idOK nx) (hs : Side md E ⟨some d, .alloc e, ty, pos, af, g⟩ ⟨nx, t⟩ ⟨nx + 1, T.set (nx + 1) t nx (.cells vs e 0)⟩) (hd : slotOK n d = true)
    (k : OT P F md n ops l (T.set 20 E d (.pointer (some ⟨nx, 0, none⟩))) ⟨nx + 1, T.set (nx + 1) t nx (.cells vs e 0)⟩ Q) : OT P F md n ops (i :: l) E ⟨nx, t⟩ Q :=
  OT.op ho hw (by simp [aOp, aAlloc, hz, hf, aNew, hn, hc, AHeap.add]) hs hd k
theorem OT.box {e : TypeId} {x : Operand} {v : Value} {nx : Nat} {t : T ABlk} (vs : List Value) (ho : ops[i]? = some ⟨some d, .box e x, ty, pos, af, g⟩) (hw : aWanted ops ⟨some d, .box e x, ty, pos, af, g⟩ E = some true)
    (hx : aEval E x = some v) (hc : v.cells.toList = vs) (hn : idOK nx) (hs : Side md E ⟨some d, .box e x, ty, pos, af, g⟩ ⟨nx, t⟩ ⟨nx + 1, T.set (nx + 1) t nx (.cells vs e 0)⟩) (hd : slotOK n d = true)
    (k : OT P F md n ops l (T.set 20 E d (.pointer (some ⟨nx, 0, none⟩))) ⟨nx + 1, T.set (nx + 1) t nx (.cells vs e 0)⟩ Q) : OT P F md n ops (i :: l) E ⟨nx, t⟩ Q :=
  OT.op ho hw (by simp [aOp, hx, aNew, hn, hc, AHeap.add]) hs hd k
def fieldOff (P : Program) (s : TypeId) (f : Nat) : Option Nat := match pureRun P (underlying s) with
  | some (.struct fields) => match fields[f]? with
    | some fd => match pureRun P (sizeOf fd.type) with
      | some n => if n ≠ 0 then some fd.offset else none
      | none => none
    | none => none
  | _ => none
def unitS (P : Program) (s m : Nat) : Bool := (List.range m).all fun f => fieldOff P s f == some f
theorem unitS.at {s m f : Nat} (h : unitS P s m = true) (hf : f < m) : fieldOff P s f = some f := by
  simpa using List.all_eq_true.1 h f (List.mem_range.2 hf)
theorem OT.st {x y : Operand} {t e : TypeId} {b off kk m nx : Nat} {tr : T ABlk} {vs new : List Value} {v : Value} (vs' : List Value) (ho : ops[i]? = some ⟨none, .store t x y, ty, pos, af, g⟩) (hw : aWanted ops ⟨none, .store t x y, ty, pos, af, g⟩ E = some true)
    (hx : aEval E x = some (.pointer (some ⟨b, off, none⟩))) (hy : aEval E y = some v) (hz : pureRun P (sizeOf t) = some m) (hc : v.cells.toList = new) (hm : new.length = m) (hb : tr.get b = some (.cells vs e kk)) (hk : kk ≠ 2) (hl : off + m ≤ vs.length)
    (hone : new.all (·.oneCell') = true) (hid : idOK b) (hv : vs.take off ++ new ++ vs.drop (off + m) = vs') (hs : Side md E ⟨none, .store t x y, ty, pos, af, g⟩ ⟨nx, tr⟩ ⟨nx, T.set (b + 1) tr b (.cells vs' e kk)⟩)
    (k : OT P F md n ops l E ⟨nx, T.set (b + 1) tr b (.cells vs' e kk)⟩ Q) : OT P F md n ops (i :: l) E ⟨nx, tr⟩ Q := by
  subst hm
  have hsz : v.cells.size = new.length := by rw [← hc]; simp
  refine OT.void ho hw ?_ hs rfl k
  simp only [aOp, hx, hy, Option.bind_some, aStoreVar, hz, hsz, if_true, aStore, hb, hc]
  rw [if_pos ⟨hk, hl, hone, hid⟩, hv]
  rfl
end
section
variable {P : Program} {F : FuncId → Option Func} {fs : FrS} {Q : Res → Prop}
end
end Go.Ax
namespace Go.Ax
section
variable {P : Program} {F : FuncId → Option Func} {fs : FrS} {Q : Res → Prop}
end
def ints (k : IntKind) (l : List Int) : Value := .agg (l.map (Value.int k)).toArray
end Go.Ax
namespace Go.Ax
open Go.ChangeShapes Go.WideShapes Go.RowKit
def flatFs (P : Program) (g : TypeId → DataW Unit → Option (List Value)) : List Field → List (DataW Unit) → Nat → Option (List Value)
  | [], [], _ => some []
  | fd :: fs, d :: ds, k => if fd.offset = k then (g fd.type d).bind fun a => if a.length = P.cellsOf fd.type then (flatFs P g fs ds (k + a.length)).map fun b => a ++ b else none else none
  | _, _, _ => none
def flatEs (P : Program) (g : TypeId → DataW Unit → Option (List Value)) (e : TypeId) : List (DataW Unit) → Option (List Value)
  | [] => some []
  | d :: ds => (g e d).bind fun a => if a.length = P.cellsOf e then (flatEs P g e ds).map fun b => a ++ b else none
def flatD (P : Program) : Nat → TypeId → DataW Unit → Option (List Value)
  | 0, _, _ => none
  | f + 1, t, d => match P.underlying t, d with
    | some .bool, .lit (.bool b) => some [.bool b]
    | some (.int _), .lit (.int k n) => some [.int k n]
    | some .string, .lit (.string l) => some [.string ⟨l.toArray⟩]
    | some (.struct fs), .agg parts => (flatFs P (flatD P f) fs.toList parts 0).bind fun vs => if vs.length = P.cellsOf t then some vs else none
    | some (.array n e), .agg parts => if parts.length = n then (flatEs P (flatD P f) e parts).bind fun vs => if vs.length = P.cellsOf t then some vs else none else none
    | _, _ => none
section
variable {P : Program} {enc : TypeId × Value → Unit} {w : World} {base : Nat} {spare : Nat → Bool} {held : Bool}
end
end Go.Ax
namespace Go.Ax
open Go.ChangeShapes Go.WideShapes Go.RowKit
section
variable {H : Type} {enc : TypeId × Value → H} {P : Program} {w : World} {base : Nat} {spare : Nat → Bool} {held : Bool}
end
end Go.Ax
namespace Go.Ax
theorem okWide_arr {P : Program} {w : World} {r : Reach} {base : Nat} {t e : TypeId} {n : Nat} {v : Value} (ht : P.underlying t = some (.array n e)) (h : Value.okWide P w r base t v) : ∃ cs : Array Value, v = .agg cs := by
  simp only [Value.okWide, ht] at h
  obtain ⟨cs, h1, _⟩ := h
  exact ⟨cs, h1⟩
end Go.Ax
namespace Go.Ax
end Go.Ax
