/-
  A part of the proof: what a piece of the program gives; conditions: those of each theorem.
-/
import Derived.Test.YtijeaicbnfiegaaSv20
set_option linter.unusedVariables false
namespace Go.Proofs.Ytijeaicbnfiegaa
open Go.Px Go.Ax
abbrev G64 (l : List Int) (i : Nat) : Int := gt (Sh.int .i64) l i
/-- The order of pairs. -/
def pBef (p q : List Int) : Bool := bif decide (G64 p 0 = G64 q 0) then decide (G64 p 1 < G64 q 1) else decide (G64 p 0 < G64 q 0)
def ctBef : Ctr := ⟨[shP, shP], fun _ => True, fun x => [.bool (pBef x.1 x.2.1)], fun _ => []⟩
theorem bef_run (p q : List Int) (R : List Item → PS → Prop) : sy tt G0 [] Try.f25.ntmps Try.f25.results.toList (QC ctBef (p, q, ())) R 1000 [.code (bodyOf Try.f25)] (entry [shP, shP] (p, q, ())) := by
  refine (vc_isBefore p q _ _).mpr ⟨by decide, by decide, by decide, by decide, by decide, by decide, bc_of (fun h => ?_) (fun h => ?_)⟩
  · have h : G64 p 0 ≠ G64 q 0 := of_decide_eq_true h
    refine ⟨by decide, by decide, by decide, by decide, by decide, by decide, QC.flat ?_ rfl rfl⟩
    show [SV.bool (pBef p q)] = _
    unfold pBef
    rw [decide_eq_false h]
    rfl
  · have h : ¬ (G64 p 0 ≠ G64 q 0) := of_decide_eq_false h
    refine ⟨by decide, by decide, by decide, by decide, by decide, by decide, QC.flat ?_ rfl rfl⟩
    show [SV.bool (pBef p q)] = _
    unfold pBef
    rw [decide_eq_true (Classical.not_not.1 h)]
    rfl
theorem bef_held : Held Try.prog G0 25 ctBef := Held.run cx0 (fn := Try.f25) rfl rfl ⟨by decide, by decide⟩ fun x _ => bef_run x.1 x.2.1 _
def D1 : CV := [(25, .inl ctBef)]
theorem cxd1 : CxOK Try.prog tt G0 D1 := cx0.cons bef_held (fn := Try.f25) rfl rfl rfl
end Go.Proofs.Ytijeaicbnfiegaa
