/-
  Proved: for every input, ImageChanges returns true, and each argument reads afterwards as it read before. No condition of our own.
-/
import Derived.Test.YthcjddhlindopaaRows
import Derived.Test.YthcjddhlindopaaQ1
import Derived.Test.YthcjddhlindopaaHD
import Derived.WalkKit
import Derived.ProofKit
import Derived.OpenShut
import Derived.ChangeOld
import Derived.Below
namespace Go.Proofs.Ythcjddhlindopaa.imageChanges
open Go.ChangeShapes Go.WideShapes Go.ChangeAt Go.RowKit Ax
set_option linter.unusedVariables false
theorem own : ownKnob Try.prog.godebug = none := by kernel_rfl
theorem laidOut : laidOutB Try.prog = true := by kernel_rfl
theorem fro0 : Px.Fro G0 H0 := ⟨fun i x h => by simp [G0, T.get] at h, fun i x h => by simp [G0, T.get] at h, fun i x h => by simp [G0, T.get] at h, fun g x h => by simp [G0, Px.lk] at h, fun g x h => by simp [G0, T.get] at h⟩
theorem rel0 (W : World) : Ax.Rel (fun k => k < W.heap.size) M0 H0 W := hG.start fun g vs e hg => by simp [G0, T.get] at hg

set_option maxRecDepth 100000 in
theorem lifted (os : Os) (started : os.Started) (H : Type) (enc : TypeId × Value → H) :
    ReturnsInHanded {} Try.checked os 7 .any (Rows.imageChangesSpec.pre6 enc Try.prog Try.f7 Rows.imageChangesRow.domain false) (Rows.imageChangesSpec.post enc Try.prog Try.f7 false true false false) := by
  refine returnsInHanded_of_change (C := Try.checked) own started (by kernel_rfl) Try.func7
    (ChangeSpec.witness6 (enc := enc) (C := Try.checked) false ⟨#[], #[.slice none 0 0, .slice none 0 0], []⟩ 8 (by kernel_rfl) (by kernel_rfl) (by kernel_rfl) (by kernel_rfl)) ?_
  intro W base args ds gs before hval0 hW hcnd _
  have hval : ∀ (j : Nat) t v, Try.f7.params[j]? = some t → args[j]? = some v → Value.okWide Try.prog W .any base t v := hval0
  have hW' := hW
  obtain ⟨p, q, hA0, hV, rfl, hfz, hnd⟩ := hW
  have hA : DataW.TrodAll enc Try.prog W 0 (fun _ => true) true Try.f7.params.toList args.toList ds p := hA0
  rw [Try.params7] at hA hval
  obtain ⟨v0, vs0, d0, ds0, p0, q0, hargs, rfl, rfl, h0, r0⟩ := trodAll_cons hA
  obtain ⟨v1, vs1, d1, ds1, p1, q1, rfl, rfl, rfl, h1, r1⟩ := trodAll_cons r0
  obtain ⟨rfl, rfl, rfl⟩ := trodAll_nil r1
  obtain rfl : args = #[v0, v1] := by cases args; simp_all
  obtain ⟨rfl, rfl⟩ := trodVars_none hV
  have k0 := h0
  have lt0 : ∀ x ∈ p0, x.block < W.heap.size := by obtain ⟨m, hm⟩ := k0; exact DataW.trod_lt m _ _ _ hm
  have k1 := h1
  have lt1 : ∀ x ∈ p1, x.block < W.heap.size := by obtain ⟨m, hm⟩ := k1; exact DataW.trod_lt m _ _ _ hm
  clear hA0
  have hR0 : Ax.Rel (fun k => k < W.heap.size) M0 H0 W := rel0 W
  have hF0 := fro0
  obtain ⟨M1, H1, u0, x0, e1, hR1, hF1, zz1, hv0, vv0, wd0⟩ := Px.arg_in (P := Try.prog) (G := G0) (.sl (.int .u8)) (t := 27) (by kernel_rfl) (hval 0 27 v0 rfl rfl) h0 hR0 hF0
  obtain ⟨M2, H2, u1, x1, e2, hR2, hF2, zz2, hv1, vv1, wd1⟩ := Px.arg_in (P := Try.prog) (G := G0) (.sl (.arr 2 (.int .u8))) (t := 32) (by kernel_rfl) (hval 1 32 v1 rfl rfl) h1 hR1 hF1
  refine (Px.calls_of_held (H := H2) (b := true) l7_held (x := (x0, (x1, ()))) (prs_of wd1) rfl (Z := fun b => H2.t.get b) ⟨_, _, rfl, fun ν => vv0 _ (zz2.trans (Px.ZLe.refl _)) ν, ⟨_, _, rfl, fun ν => vv1 _ (Px.ZLe.refl _) ν, rfl⟩⟩ (fun b y h => ⟨h, hF2.ce b y h⟩) hF2.gz (VRA.iff.2 (.cons (VR.mono e2 _ _ hv0) (.cons hv1 .nil))) hR2).mono fun e W' ⟨he, bel⟩ => ?_
  subst he
  exact ⟨_, rfl, _, _, _, [], _, [], hW', trodAll_mk1 (shut_bool Try.underlying4 _), (trodAll_cons_mk (Below.trod laidOut (by kernel_rfl) (of_decide_eq_true (by kernel_rfl)) k0 bel lt0) (trodAll_cons_mk (Below.trod laidOut (by kernel_rfl) (of_decide_eq_true (by kernel_rfl)) k1 bel lt1) trodAll_mk0)), rfl, bel.frame _, fun h => by cases h⟩
theorem over : Rows.imageChangesRow.holds Try.pinned (OpenSpec.ofChange Rows.imageChangesSpec) :=
  OpenClaim.holds_of_wide 7 Try.f7 rfl rfl rfl rfl rfl rfl rfl ⟨rfl, rfl, rfl, rfl, rfl⟩ rfl rfl rfl rfl rfl (by kernel_rfl) Try.func7 (by kernel_rfl)
    (of_decide_eq_true (by kernel_rfl)) (by unfold Func.isWrapper; first | (rw [if_pos (by decide +kernel)]; kernel_rfl) | (rw [if_neg (by decide +kernel)]; exact ⟨rfl, rfl⟩))
    (fun os started H enc _ => lifted os started H enc)
theorem proved : Rows.ImageChangesSaid := over
#print axioms proved
end Go.Proofs.Ythcjddhlindopaa.imageChanges
