/-
  Proved: for every input, BlockRuns returns true, and each argument reads afterwards as it read before. No condition of our own.
-/
import Derived.Test.YtgffokpiklnpmaaRows
import Derived.Test.YtgffokpiklnpmaaQ1
import Derived.Test.YtgffokpiklnpmaaHD
import Derived.Test.YtgffokpiklnpmaaGE
import Derived.WalkKit
import Derived.ProofKit
import Derived.OpenShut
import Derived.ChangeOld
import Derived.Below
namespace Go.Proofs.Ytgffokpiklnpmaa.blockRuns
open Go.ChangeShapes Go.WideShapes Go.ChangeAt Go.RowKit Ax
set_option linter.unusedVariables false
theorem own : ownKnob Try.prog.godebug = none := by kernel_rfl
theorem laidOut : laidOutB Try.prog = true := by kernel_rfl
theorem fro0 : Px.Fro G0 H0 := ⟨fun i x h => by simp [G0, T.get] at h, fun i x h => by simp [G0, T.get] at h, fun i x h => by simp [G0, T.get] at h, fun g x h => by simp [G0, Px.lk] at h, fun g x h => by simp [G0, T.get] at h⟩
theorem rel0 (W : World) : Ax.Rel (fun k => k < W.heap.size) M0 H0 W := hG.start fun g vs e hg => by simp [G0, T.get] at hg

set_option maxRecDepth 100000 in
theorem lifted (os : Os) (started : os.Started) (H : Type) (enc : TypeId × Value → H) :
    ReturnsInHanded {} Try.checked os 9 .any (Rows.blockRunsSpec.pre6 enc Try.prog Try.f9 Rows.blockRunsRow.domain false) (Rows.blockRunsSpec.post enc Try.prog Try.f9 false true false false) := by
  refine returnsInHanded_of_change (C := Try.checked) own started (by kernel_rfl) Try.func9
    (ChangeSpec.witness6 (enc := enc) (C := Try.checked) false ⟨#[], #[.int .u8 0, .int .u16 0, .agg #[.int .u8 0, .int .u8 0]], []⟩ 8 (by kernel_rfl) (by kernel_rfl) (by kernel_rfl) (by kernel_rfl)) ?_
  intro W base args ds gs before hval0 hW hcnd _
  have hval : ∀ (j : Nat) t v, Try.f9.params[j]? = some t → args[j]? = some v → Value.okWide Try.prog W .any base t v := hval0
  have hW' := hW
  obtain ⟨p, q, hA0, hV, rfl, hfz, hnd⟩ := hW
  have hA : DataW.TrodAll enc Try.prog W 0 (fun _ => true) true Try.f9.params.toList args.toList ds p := hA0
  rw [Try.params9] at hA hval
  obtain ⟨v0, vs0, d0, ds0, p0, q0, hargs, rfl, rfl, h0, r0⟩ := trodAll_cons hA
  obtain ⟨v1, vs1, d1, ds1, p1, q1, rfl, rfl, rfl, h1, r1⟩ := trodAll_cons r0
  obtain ⟨v2, vs2, d2, ds2, p2, q2, rfl, rfl, rfl, h2, r2⟩ := trodAll_cons r1
  obtain ⟨rfl, rfl, rfl⟩ := trodAll_nil r2
  obtain rfl : args = #[v0, v1, v2] := by cases args; simp_all
  obtain ⟨rfl, rfl⟩ := trodVars_none hV
  have k0 := h0
  have lt0 : ∀ x ∈ p0, x.block < W.heap.size := by obtain ⟨m, hm⟩ := k0; exact DataW.trod_lt m _ _ _ hm
  have k1 := h1
  have lt1 : ∀ x ∈ p1, x.block < W.heap.size := by obtain ⟨m, hm⟩ := k1; exact DataW.trod_lt m _ _ _ hm
  have k2 := h2
  have lt2 : ∀ x ∈ p2, x.block < W.heap.size := by obtain ⟨m, hm⟩ := k2; exact DataW.trod_lt m _ _ _ hm
  obtain ⟨n0, rfl, hd0, hp0, w0⟩ := open_int Try.underlying5 (hval 0 5 v0 rfl rfl) h0
  obtain ⟨n1, rfl, hd1, hp1, w1⟩ := open_int Try.underlying51 (hval 1 51 v1 rfl rfl) h1
  obtain ⟨l2, rfl, hl2, w2⟩ := open_ints_array (k := .u8) Try.underlying45 Try.underlying5 (by kernel_rfl) (by kernel_rfl) (okWide_arr Try.underlying45 (hval 2 45 v2 rfl rfl)) h2
  clear hA0 hval0
  have hR0 : Ax.Rel (fun k => k < W.heap.size) M0 H0 W := rel0 W
  have hF0 := fro0
  refine (Px.calls_of_held (H := H0) (b := true) l9_held (x := (n0, (n1, (l2, ())))) (⟨⟨u8_of w0, u16_of w1⟩, mk_made hl2 w2⟩) rfl (Z := fun b => H0.t.get b) ⟨_, _, rfl, fun ν => Px.vs_int _ _ ν, ⟨_, _, rfl, fun ν => Px.vs_int _ _ ν, ⟨_, _, rfl, fun ν => Px.vs_ints _ hl2 ν, rfl⟩⟩⟩ (fun b y h => ⟨h, hF0.ce b y h⟩) hF0.gz (VRA.iff.2 (.cons (VR.self rfl) (.cons (VR.self rfl) (.cons (VR.self (flat_aggs _ _)) .nil)))) hR0).mono fun e W' ⟨he, bel⟩ => ?_
  subst he
  exact ⟨_, rfl, _, _, _, [], _, [], hW', trodAll_mk1 (shut_bool Try.underlying4 _), (trodAll_cons_mk (Below.trod laidOut (by kernel_rfl) (of_decide_eq_true (by kernel_rfl)) k0 bel lt0) (trodAll_cons_mk (Below.trod laidOut (by kernel_rfl) (of_decide_eq_true (by kernel_rfl)) k1 bel lt1) (trodAll_cons_mk (Below.trod laidOut (by kernel_rfl) (of_decide_eq_true (by kernel_rfl)) k2 bel lt2) trodAll_mk0))), rfl, bel.frame _, fun h => by cases h⟩
theorem over : Rows.blockRunsRow.holds Try.pinned (OpenSpec.ofChange Rows.blockRunsSpec) :=
  OpenClaim.holds_of_wide 9 Try.f9 rfl rfl rfl rfl rfl rfl rfl ⟨rfl, rfl, rfl, rfl, rfl⟩ rfl rfl rfl rfl rfl (by kernel_rfl) Try.func9 (by kernel_rfl)
    (of_decide_eq_true (by kernel_rfl)) (by unfold Func.isWrapper; first | (rw [if_pos (by decide +kernel)]; kernel_rfl) | (rw [if_neg (by decide +kernel)]; exact ⟨rfl, rfl⟩))
    (fun os started H enc _ => lifted os started H enc)
theorem proved : Rows.BlockRunsSaid := over
#print axioms proved
end Go.Proofs.Ytgffokpiklnpmaa.blockRuns
