/-
  Proved: for every input, BlockCovers returns true, and each argument reads afterwards as it read before. No condition of our own.
-/
import Derived.Test.YtpdhohkamhmjkaaRows
import Derived.Test.YtpdhohkamhmjkaaQ1
import Derived.Test.YtpdhohkamhmjkaaHD
import Derived.Test.YtpdhohkamhmjkaaGE
import Derived.WalkKit
import Derived.ProofKit
import Derived.OpenShut
import Derived.ChangeOld
import Derived.Below
namespace Go.Proofs.Ytpdhohkamhmjkaa.blockCovers
open Go.ChangeShapes Go.WideShapes Go.ChangeAt Go.RowKit Ax
set_option linter.unusedVariables false
theorem own : ownKnob Try.prog.godebug = none := by kernel_rfl
theorem laidOut : laidOutB Try.prog = true := by kernel_rfl
theorem fro0 : Px.Fro G0 H0 := ⟨fun i x h => by simp [G0, T.get] at h, fun i x h => by simp [G0, T.get] at h, fun i x h => by simp [G0, T.get] at h, fun g x h => by simp [G0, Px.lk] at h, fun g x h => by simp [G0, T.get] at h⟩
theorem rel0 (W : World) : Ax.Rel (fun k => k < W.heap.size) M0 H0 W := hG.start fun g vs e hg => by simp [G0, T.get] at hg

set_option maxRecDepth 100000 in
theorem lifted (os : Os) (started : os.Started) (H : Type) (enc : TypeId × Value → H) :
    ReturnsInHanded {} Try.checked os 4 .any (Rows.blockCoversSpec.pre6 enc Try.prog Try.f4 Rows.blockCoversRow.domain false) (Rows.blockCoversSpec.post enc Try.prog Try.f4 false true false false) := by
  refine returnsInHanded_of_change (C := Try.checked) own started (by kernel_rfl) Try.func4
    (ChangeSpec.witness6 (enc := enc) (C := Try.checked) false ⟨#[], #[.slice none 0 0, .agg #[.int .u8 0, .int .u8 0]], []⟩ 8 (by kernel_rfl) (by kernel_rfl) (by kernel_rfl) (by kernel_rfl)) ?_
  intro W base args ds gs before hval0 hW hcnd _
  have hval : ∀ (j : Nat) t v, Try.f4.params[j]? = some t → args[j]? = some v → Value.okWide Try.prog W .any base t v := hval0
  have hW' := hW
  obtain ⟨p, q, hA0, hV, rfl, hfz, hnd⟩ := hW
  have hA : DataW.TrodAll enc Try.prog W 0 (fun _ => true) true Try.f4.params.toList args.toList ds p := hA0
  rw [Try.params4] at hA hval
  obtain ⟨v0, vs0, d0, ds0, p0, q0, hargs, rfl, rfl, h0, r0⟩ := trodAll_cons hA
  obtain ⟨v1, vs1, d1, ds1, p1, q1, rfl, rfl, rfl, h1, r1⟩ := trodAll_cons r0
  obtain ⟨rfl, rfl, rfl⟩ := trodAll_nil r1
  obtain rfl : args = #[v0, v1] := by cases args; simp_all
  obtain ⟨rfl, rfl⟩ := trodVars_none hV
  have k0 := h0
  have lt0 : ∀ x ∈ p0, x.block < W.heap.size := by obtain ⟨m, hm⟩ := k0; exact DataW.trod_lt m _ _ _ hm
  have k1 := h1
  have lt1 : ∀ x ∈ p1, x.block < W.heap.size := by obtain ⟨m, hm⟩ := k1; exact DataW.trod_lt m _ _ _ hm
  obtain ⟨a0, len0, cap0, rfl⟩ := okWide_slice Try.underlying22 (hval 0 22 v0 rfl rfl)
  obtain ⟨z0, w0⟩ : ∃ zs, Px.RowKP .u8 W a0 len0 cap0 zs := by
    obtain ⟨fuel, hf⟩ := h0
    rcases open_ints Try.underlying22 Try.underlying5 (by kernel_rfl) hf with ⟨hcs, _⟩ | ⟨x, l, c, zs, hcs, _, hl, hm, hz, _, hcell, hwz⟩
    · simp [Value.cells] at hcs
      obtain ⟨rfl, rfl, rfl⟩ := hcs
      exact ⟨[], .inl ⟨rfl, rfl, rfl, rfl⟩⟩
    · simp [Value.cells] at hcs
      obtain ⟨rfl, rfl, rfl⟩ := hcs
      exact ⟨zs, .inr ⟨_, rfl, hl, hm, by simpa using hz, hcell, hwz⟩⟩
  obtain ⟨l1, rfl, hl1, w1⟩ := open_ints_array (k := .u8) Try.underlying45 Try.underlying5 (by kernel_rfl) (by kernel_rfl) (okWide_arr Try.underlying45 (hval 1 45 v1 rfl rfl)) h1
  clear hA0 hval0
  have hR0 : Ax.Rel (fun k => k < W.heap.size) M0 H0 W := rel0 W
  have hF0 := fro0
  obtain ⟨M1, H1, u0, l0, x1, hR1, hF1, zz1, nx1, hv0, vv0, b0, wf0⟩ := Px.sl_in hR0 hF0 (Nat.zero_le _) w0
  refine (Px.calls_of_held (H := H1) (b := true) l4_held (x := (l0, (l1, ()))) (⟨bytes_of wf0, mk_made hl1 w1⟩) rfl (Z := fun b => H1.t.get b) ⟨_, _, rfl, fun ν => vv0 _ (Px.ZLe.refl _) ν, ⟨_, _, rfl, fun ν => Px.vs_ints _ hl1 ν, rfl⟩⟩ (fun b y h => ⟨h, hF1.ce b y h⟩) hF1.gz (VRA.iff.2 (.cons hv0 (.cons (VR.self (flat_aggs _ _)) .nil))) hR1).mono fun e W' ⟨he, bel⟩ => ?_
  subst he
  exact ⟨_, rfl, _, _, _, [], _, [], hW', trodAll_mk1 (shut_bool Try.underlying4 _), (trodAll_cons_mk (Below.trod laidOut (by kernel_rfl) (of_decide_eq_true (by kernel_rfl)) k0 bel lt0) (trodAll_cons_mk (Below.trod laidOut (by kernel_rfl) (of_decide_eq_true (by kernel_rfl)) k1 bel lt1) trodAll_mk0)), rfl, bel.frame _, fun h => by cases h⟩
theorem over : Rows.blockCoversRow.holds Try.pinned (OpenSpec.ofChange Rows.blockCoversSpec) :=
  OpenClaim.holds_of_wide 4 Try.f4 rfl rfl rfl rfl rfl rfl rfl ⟨rfl, rfl, rfl, rfl, rfl⟩ rfl rfl rfl rfl rfl (by kernel_rfl) Try.func4 (by kernel_rfl)
    (of_decide_eq_true (by kernel_rfl)) (by unfold Func.isWrapper; first | (rw [if_pos (by decide +kernel)]; kernel_rfl) | (rw [if_neg (by decide +kernel)]; exact ⟨rfl, rfl⟩))
    (fun os started H enc _ => lifted os started H enc)
theorem proved : Rows.BlockCoversSaid := over
#print axioms proved
end Go.Proofs.Ytpdhohkamhmjkaa.blockCovers
