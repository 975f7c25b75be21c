/-
  A part of the proof: what a piece of the program gives; conditions: those of each theorem.
-/
import Derived.Test.YtijeaicbnfiegaaSv21
import Derived.Test.YtijeaicbnfiegaaHD
set_option linter.unusedVariables false
namespace Go.Proofs.Ytijeaicbnfiegaa
open Go.Px Go.Ax
/-- Whether the pair at i is before the one at j. -/
def pbB (p : List (List Int)) (i j : Int) : Bool := pBef (gt shP p i.toNat) (gt shP p j.toNat)
def prePb (p : List (List Int)) (i j : Int) : Prop := 0 ≤ i ∧ i < p.length ∧ 0 ≤ j ∧ j < p.length
def ctPb : CtrI := ⟨K24, fun x => prePb x.2.2.1.1 x.1 x.2.1, fun x => [.bool (pbB x.2.2.1.1 x.1 x.2.1)], fun x => bkKL 0 K24 x⟩
theorem pb_run (i j : Int) (p : List (List Int)) (hp : prePb p i j) (R : List Item → PS → Prop) : sy tt G0 D1 Try.f24.ntmps Try.f24.results.toList (QI ctPb (i, j, (p, ()), ())) R 1000 [.code (bodyOf Try.f24)] (entryI K24 (i, j, (p, ()), ())) := by
  obtain ⟨h0, h1, h2, h3⟩ := hp
  refine (vc_pb _ _ _ _ _).mpr ⟨h0, h1, by omega, h2, h3, by omega, trivial, ?_⟩
  rw [Nat.zero_add, Nat.zero_add]
  refine QI.self rfl rfl rfl ?_
  intro p hp
  simp only [ctPb, bkKL, bkK, cnt, cntL, List.append_nil, List.nil_append, List.mem_append, List.mem_cons, List.mem_singleton, List.not_mem_nil, or_false] at hp
  rcases hp with rfl | rfl <;> rfl
theorem pb_held : HeldI Try.prog G0 24 ctPb := HeldI.run cxd1 (fn := Try.f24) rfl rfl ⟨by decide, by decide⟩ fun x hp => pb_run x.1 x.2.1 x.2.2.1.1 hp _
def D2 : CV := (24, .inr ctPb) :: D1
theorem cxd2 : CxOK Try.prog tt G0 D2 := cxd1.consI pb_held (fn := Try.f24) rfl rfl rfl
end Go.Proofs.Ytijeaicbnfiegaa
