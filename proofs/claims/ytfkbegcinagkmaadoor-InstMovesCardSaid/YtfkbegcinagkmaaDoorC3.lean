/-
  A part of the proof: what a piece of the program gives; conditions: those of each theorem.
-/
import Derived.Test.YtfkbegcinagkmaaDoorV3
set_option linter.unusedVariables false
namespace Go.Proofs.YtfkbegcinagkmaaDoor
open Go.Px Go.Ax
def numV (s : Bool) (w b : Int) : Int := if s then lowSV w b else lowV w b
def ctNum : Ctr := ⟨[kindSh, .int .u32], fun x => preLow x.2.1 x.1.2.2.1, fun x => [.int .i64 (numV x.1.2.2.2.1 x.2.1 x.1.2.2.1)], fun _ => []⟩
theorem num_held : Held Tryd.prog G0 24 ctNum := by
  refine Held.run cx2 (fn := Tryd.f24) rfl rfl ⟨by decide, by decide⟩ ?_
  rintro ⟨⟨ks, kr, kb, kg, kt⟩, w, ⟨⟩⟩ hp
  replace hp : preLow w kb := hp
  refine (vc_number _ w _ _).mpr (bc_of (fun h => ?_) (fun h => ?_))
  · exact ⟨hp, QC.flat (by simp only [ctNum, numV]; rw [show kg = true from h]; rfl) rfl rfl⟩
  · exact ⟨hp, QC.flat (by simp only [ctNum, numV]; rw [show kg = false from h]; rfl) rfl rfl⟩
def C3 : CV := (24, ctNum) :: C2
theorem cx3 : CxOK Tryd.prog tt G0 C3 := cx2.cons num_held (fn := Tryd.f24) rfl rfl rfl
end Go.Proofs.YtfkbegcinagkmaaDoor
