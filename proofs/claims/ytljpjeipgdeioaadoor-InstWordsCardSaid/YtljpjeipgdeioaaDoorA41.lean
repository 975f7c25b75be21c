/-
  A part of the proof: what a piece of the program gives; conditions: those of each theorem.
-/
import Derived.Test.YtljpjeipgdeioaaDoorGE
set_option linter.unusedVariables false
namespace Go.Ax
section
variable {P : Program} {F : FuncId → Option Func} {md : Md P} {n : Nat} {ops : Array Oper} {i : Nat} {l : List Nat} {E : T Value} {H : AHeap} {Q : T Value → AHeap → Prop}
  {d : Nat} {ty : TypeId} {pos : String} {af : Array Edge} {g : Option (Nat × Bool)}
/-- A slice out of its parts. -/
theorem OT.buildSl {t : TypeId} {m : Nat} {parts : Array (Nat × Operand)} {ps : List (Nat × Value)} {v : Value} {H' : AHeap} (ho : ops[i]? = some ⟨some d, .buildSlice t m parts, ty, pos, af, g⟩) (hw : aWanted ops ⟨some d, .buildSlice t m parts, ty, pos, af, g⟩ E = some true)
    (hx : aParts (aEval E) parts = some ps) (hb : aBuildSlice P H t m ps.toArray = some (v, H')) (hs : Side md E ⟨some d, .buildSlice t m parts, ty, pos, af, g⟩ H H') (hd : slotOK n d = true)
    (k : OT P F md n ops l (T.set 20 E d v) H' Q) : OT P F md n ops (i :: l) E H Q :=
  OT.op ho hw (by simp [aOp, hx, hb]) hs hd k
end
section
variable {P : Program} {F : FuncId → Option Func} {fs : FrS} {Q : Res → Prop}
/-- A loop that leaves the memory as it is: by the slots at each round's head. -/
theorem Tr.loopK (hx : Cx P F) {α : Type} {c : Code} (EI : α → T Value) (ok : α → Prop) (μ : α → Nat) (x0 : α) {E : T Value} {H : AHeap} (h0 : Sub (EI x0) E) (k0 : ok x0)
    (round : ∀ x, ok x → Tr P (.code fs c ⟨EI x, [], H⟩) (Then (fun s1 => ∃ y, ok y ∧ s1.H = H ∧ s1.defs = [] ∧ Sub (EI y) s1.env ∧ μ y < μ x) Q)) : Tr P (.code fs (.loop c) ⟨E, [], H⟩) Q := by
  refine Tr.loop hx (fun (x : α) s => ok x ∧ s.H = H ∧ s.defs = [] ∧ Sub (EI x) s.env) μ x0 ⟨k0, rfl, rfl, h0⟩ ?_
  rintro x ⟨E1, D1, H1⟩ ⟨hk, hH, hD, hS⟩
  simp only at hH hD hS
  subst hH hD
  refine Tr.sub hS ?_
  refine (round x hk).mono fun res hr => ?_
  cases res with
  | value v H => exact hr
  | exit e s1 =>
    cases e with
    | normal =>
      obtain ⟨y, a1, a2, a3, a4, a5⟩ := hr
      exact ⟨y, ⟨a1, a2, a3, a4⟩, a5⟩
    | exit id => exact hr
    | goto id => exact hr
    | ret => exact hr
end
end Go.Ax
