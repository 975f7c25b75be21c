/-
  A part of the proof: what a piece of the program gives; conditions: those of each theorem.
-/
import Derived.Test.YtijeaicbnfiegaaSc4
import Derived.Test.YtijeaicbnfiegaaHD
import Derived.KernelRfl
set_option linter.unusedVariables false
namespace Go.Proofs.Ytijeaicbnfiegaa
open Go.Px Go.Ax
noncomputable abbrev FF := fnsOf Try.prog 3 36
set_option maxRecDepth 100000 in
theorem fns_ok : Ax.fnsOK Try.prog 3 36 = true := by decide +kernel
theorem cxE : Cx Try.prog FF := Cx.of_ok fns_ok mixed
theorem hG : Glob G0.raw := ⟨fun g x h => by simp [G0, T.get] at h, fun g x h => by simp [G0, T.get] at h⟩
abbrev H0 : AHeap := ⟨nglob, G0.raw⟩
set_option maxRecDepth 100000 in
theorem sanity_runs : Ax.givesV (Ax.eval Try.prog FF 400 (.call 10 #[] H0)) (.bool true) = true := by decide +kernel
def ctSan : Ctr := ⟨[], fun _ => True, fun _ => [.bool true], fun _ => []⟩
theorem san_held : Held Try.prog G0 10 ctSan := by
  have h := sanity_runs
  unfold givesV at h
  split at h
  · rename_i r H2 he
    simp only [Bool.and_eq_true] at h
    have hr := eqV_eq _ _ h.1
    subst hr
    exact Held.bool0 hG (Valid.eval cxE 400 _ _ he)
  · cases h
def C4 : CV := (10, .inl ctSan) :: C3
theorem cx4 : CxOK Try.prog tt G0 C4 := cx3.cons san_held (fn := Try.f10) rfl rfl rfl
end Go.Proofs.Ytijeaicbnfiegaa
