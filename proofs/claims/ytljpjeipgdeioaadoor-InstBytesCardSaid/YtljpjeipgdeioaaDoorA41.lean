/-
  A part of the proof: what a piece of the program gives; conditions: those of each theorem.
-/
import Derived.Test.YtljpjeipgdeioaaDoorGE
set_option linter.unusedVariables false
namespace Go.Ax
section
variable {P : Program} {F : FuncId → Option Func} {md : Md P} {n : Nat} {ops : Array Oper} {i : Nat} {l : List Nat} {E : T Value} {H : AHeap} {Q : T Value → AHeap → Prop}
  {d : Nat} {ty : TypeId} {pos : String} {af : Array Edge} {g : Option (Nat × Bool)}
/-- A slice out of its parts. -/
theorem OT.buildSl {t : TypeId} {m : Nat} {parts : Array (Nat × Operand)} {ps : List (Nat × Value)} {v : Value} {H' : AHeap} (ho : ops[i]? = some ⟨some d, .buildSlice t m parts, ty, pos, af, g⟩) (hw : aWanted ops ⟨some d, .buildSlice t m parts, ty, pos, af, g⟩ E = some true)
    (hx : aParts (aEval E) parts = some ps) (hb : aBuildSlice P H t m ps.toArray = some (v, H')) (hs : Side md E ⟨some d, .buildSlice t m parts, ty, pos, af, g⟩ H H') (hd : slotOK n d = true)
    (k : OT P F md n ops l (T.set 20 E d v) H' Q) : OT P F md n ops (i :: l) E H Q :=
  OT.op ho hw (by simp [aOp, hx, hb]) hs hd k
/-- A call in such a region. -/
theorem OT.call1C {ev : Req → Option Res} {hev : Valid P ev} {Inv : AHeap → Prop} {xs : Array Operand} {ts : Array TypeId} {f : FuncId} {vs : List Value} {v : Value} (hc : ∀ H, Inv H → ev (.call f vs.toArray H) = some (.value v H)) (ho : ops[i]? = some ⟨some d, .call ⟨.value (.func f), xs, ts⟩, ty, pos, af, g⟩) (hw : aWanted ops ⟨some d, .call ⟨.value (.func f), xs, ts⟩, ty, pos, af, g⟩ E = some true)
    (hx : aArgs (aEval E) xs = some vs) (hf : (F f).isSome = true) (hI : Inv H) (hd : slotOK n d = true) (k : OT P F (.clm ev hev Inv) n ops l (T.set 20 E d v) H Q) : OT P F (.clm ev hev Inv) n ops (i :: l) E H Q :=
  OT.callC (f := f) (args := vs.toArray) ho hw rfl (fun H => by simp [aOp, aCall, hx, aEval, aEnter, hf]) hI hc (putE_ok hd _ _) k
end
section
variable {P : Program} {F : FuncId → Option Func} {fs : FrS} {Q : Res → Prop}
/-- A memory that has the variables and keeps the blocks L. -/
structure InvM (G : T ABlk) (L : List Nat) (H0 H : AHeap) : Prop where
  lay : Lay G H
  keep : ∀ b ∈ L, H.t.get b = H0.t.get b
/-- A region that draws its order, makes two calls that leave the memory, and memory of its own. -/
theorem Tr.drawCH (hx : Cx P F) {G : T ABlk} (L : List Nat) (f1 : FuncId) (a1 : Array Value) (v1 : Value) (f2 : FuncId) (a2 : Array Value) (v2 : Value) {id : Nat} {ops : Array Oper} {E : T Value} {defs : List Nat} {H : AHeap} (hL : Lay G H)
    (h1 : ∀ H, Lay G H → EvS P (.call f1 a1 H) (.value v1 H)) (h2 : ∀ H, Lay G H → EvS P (.call f2 a2 H) (.value v2 H)) (hd : Ax.drawC P ops = true)
    (k : OT P F (.clm (orcC (InvM G L H) f1 a1 v1 f2 a2 v2) (Valid.orcC (fun H h => h1 H h.lay) (fun H h => h2 H h.lay)) (InvM G L H)) fs.n ops (List.range ops.size) E H fun E' H' => Q (.exit .normal ⟨E', defs, H'⟩)) : Tr P (.code fs (.region id ops true) ⟨E, defs, H⟩) Q :=
  Tr.drawC hx (InvM G L H) _ _ ⟨hL, fun _ _ => rfl⟩ hd k
/-- A loop that leaves the memory as it is: by the slots at each round's head. -/
theorem Tr.loopK (hx : Cx P F) {α : Type} {c : Code} (EI : α → T Value) (ok : α → Prop) (μ : α → Nat) (x0 : α) {E : T Value} {H : AHeap} (h0 : Sub (EI x0) E) (k0 : ok x0)
    (round : ∀ x, ok x → Tr P (.code fs c ⟨EI x, [], H⟩) (Then (fun s1 => ∃ y, ok y ∧ s1.H = H ∧ s1.defs = [] ∧ Sub (EI y) s1.env ∧ μ y < μ x) Q)) : Tr P (.code fs (.loop c) ⟨E, [], H⟩) Q := by
  refine Tr.loop hx (fun (x : α) s => ok x ∧ s.H = H ∧ s.defs = [] ∧ Sub (EI x) s.env) μ x0 ⟨k0, rfl, rfl, h0⟩ ?_
  rintro x ⟨E1, D1, H1⟩ ⟨hk, hH, hD, hS⟩
  simp only at hH hD hS
  subst hH hD
  refine Tr.sub hS ?_
  refine (round x hk).mono fun res hr => ?_
  cases res with
  | value v H => exact hr
  | exit e s1 =>
    cases e with
    | normal =>
      obtain ⟨y, a1, a2, a3, a4, a5⟩ := hr
      exact ⟨y, ⟨a1, a2, a3, a4⟩, a5⟩
    | exit id => exact hr
    | goto id => exact hr
    | ret => exact hr
end
end Go.Ax
