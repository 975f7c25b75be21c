/-
  A part of the proof: what a piece of the program gives; conditions: those of each theorem.
-/
import Derived.Test.YtfkbegcinagkmaaDoorC6
import Derived.Test.YtfkbegcinagkmaaDoorHD
import Derived.KernelRfl
namespace Go.Proofs.YtfkbegcinagkmaaDoor
open Go.Px Go.Ax
noncomputable abbrev FF := fnsOf Tryd.prog 3 29
set_option maxRecDepth 100000 in
theorem fns_ok : Ax.fnsOK Tryd.prog 3 29 = true := by decide +kernel
theorem cxE : Cx Tryd.prog FF := Cx.of_ok fns_ok mixed
theorem G_get {g : Nat} {x : ABlk} (h : rawG.get g = some x) : g = 0 ∧ x = .cells kindCells 60 2 := by
  unfold rawG T.get at h
  split at h
  · rename_i e; cases h; exact ⟨e, rfl⟩
  · split at h <;> (simp [T.get] at h)
theorem hG : Glob G0.raw := ⟨fun g x h => by rw [(G_get h).1]; decide, fun g x h => by rw [(G_get h).2]; decide⟩
abbrev H0 : AHeap := ⟨nglob, G0.raw⟩
set_option maxRecDepth 100000 in
theorem sanity_runs : Ax.givesV (Ax.eval Tryd.prog FF 300 (.call 10 #[] H0)) (.bool true) = true := by decide +kernel
theorem san_held : Held Tryd.prog G0 10 ctSan := by
  have h := sanity_runs
  unfold givesV at h
  split at h
  · rename_i r H2 he
    simp only [Bool.and_eq_true] at h
    have hr := eqV_eq _ _ h.1
    subst hr
    exact Held.bool0 hG (Valid.eval cxE 300 _ _ he)
  · cases h
theorem cx6 : CxOK Tryd.prog tt G0 C6 := ((cx4.cons made_held (fn := Tryd.f12) rfl rfl rfl).cons place_held (fn := Tryd.f11) rfl rfl rfl).cons san_held (fn := Tryd.f10) rfl rfl rfl
def Z0 : Nat → Option ABlk := fun g => rawG.get g
theorem gz0 : GZ Z0 G0 := by
  refine ⟨fun g x e => ?_, fun g x e => e⟩
  simp only [G0, lk] at e
  split at e
  · rename_i h; subst h; cases e
    refine ⟨by decide, fun ν => ⟨0, 0, kindCells, 60, 2, rfl, rfl, by decide, ?_⟩⟩
    exact rv_of (.arr 9 kindSh) kindsL ⟨rfl, fun x _ => ⟨trivial, trivial, trivial, trivial, trivial⟩⟩
  · cases e
theorem moves_ok : Held Tryd.prog G0 5 ctMoves := moves_held cx6
end Go.Proofs.YtfkbegcinagkmaaDoor
set_option linter.unusedVariables false
namespace Go.Proofs.YtfkbegcinagkmaaDoor
open Go.Px Go.Ax
theorem preM_of {w : Int} {p : List Int} (hw : (Lit.int .u32 w).wf = true) (hp : ∀ n ∈ p, (Lit.int .u16 n).wf = true) : preM w p := by
  refine ⟨?_, fun j => ?_⟩
  · have h := Go.bounds_u32 hw
    exact ⟨h.1, by omega⟩
  · show preP ((p[j]?).getD 0)
    cases h : p[j]? with
    | none => exact ⟨by decide, by decide⟩
    | some n =>
      have h := Go.bounds_u16 (hp n (List.mem_of_getElem? h))
      exact ⟨h.1, by show n ≤ 65535; omega⟩
end Go.Proofs.YtfkbegcinagkmaaDoor
