/-
  A part of the proof: what a piece of the program gives; conditions: those of each theorem.
-/
import Derived.Test.YtljpjeipgdeioaaDoorBase2
import Derived.Test.YtljpjeipgdeioaaDoorA43
set_option linter.unusedVariables false
namespace Go.Proofs.YtljpjeipgdeioaaDoor
open Ax
theorem lay_of {H : AHeap} (h1 : 30 ≤ H.next) (h2 : H.t.get 0 = some (.cells kindCells 60 2)) : Lay G H := ⟨h1, fun g x h => by obtain ⟨rfl, rfl⟩ := G_get h; exact h2⟩
theorem u29 : pureRun Tryd.prog (underlying 29) = some (.slice 22) := by kernel_rfl
theorem z22 : pureRun Tryd.prog (zeroValue 22) = some (.int .u32 0) := by kernel_rfl
theorem z5 : pureRun Tryd.prog (zeroValue 5) = some (.int .u8 0) := by kernel_rfl
set_option maxRecDepth 100000 in
theorem sanity_runs : Ax.givesV (Ax.eval Tryd.prog FF 300 (.call 10 #[] H0)) (.bool true) = true := by decide +kernel
theorem sanity_ev {H : AHeap} (hL : Lay G H) : EvS Tryd.prog (.call 10 #[] H) (.value (.bool true) H) := by
  have h := sanity_runs
  unfold givesV at h
  split at h
  · rename_i r H2 he
    simp only [Bool.and_eq_true] at h
    have hr := eqV_eq _ _ h.1
    subst hr
    exact EvS.frame hG rfl rfl (Valid.eval cx 300 _ _ he) hL
  · cases h
theorem F10 : (FF 10).isSome = true := by decide +kernel
end Go.Proofs.YtljpjeipgdeioaaDoor
