/-
  Proved: for every input, InstTexts returns true, and each argument reads afterwards as it read before. No condition of our own; the listed package variable is tied to the program's text by the given tie.
-/
import Derived.Test.YtjihaaibammbnaaDoorRows
import Derived.Test.YtjihaaibammbnaaDoorTie
import Derived.Test.YtjihaaibammbnaaDoorCards
import Derived.Test.YtjihaaibammbnaaDoorQ1
import Derived.Test.YtjihaaibammbnaaDoorGE
import Derived.Test.YtjihaaibammbnaaDoorHD
import Derived.WalkKit
import Derived.ProofKit
import Derived.OpenShut
import Derived.ChangeOld
import Derived.Below
import Derived.LaidMore
import Derived.SevenTiedAt
import Derived.Stop.Joined
namespace Go.Proofs.YtjihaaibammbnaaDoor.instTexts
open Go.ChangeShapes Go.WideShapes Go.ChangeAt Go.RowKit Ax
set_option linter.unusedVariables false
theorem own : ownKnob Tryd.prog.godebug = none := by kernel_rfl
theorem laidOut : laidOutB Tryd.prog = true := by kernel_rfl
abbrev L {H : Type} : List (String × DataW H) := [("inlay/inst.kinds", Rows.laid_inlay_inst_kinds)]
theorem gk : Tryd.prog.globalNamed "inlay/inst.kinds" = some 0 := by kernel_rfl
theorem tk : (Tryd.prog.globals[0]?).map (·.type) = some 60 := by kernel_rfl
theorem tie_cells : flatD Tryd.prog 4 60 Rows.laid_inlay_inst_kinds = some kindCells := by kernel_rfl
theorem rel_of {W : World} (h : laidMetH Tryd.prog L W) : Ax.Rel (fun k => k < W.heap.size) M0 H0 W := by
  rw [MakeChecks.laidMetH_plain _ _ _ (by kernel_rfl)] at h
  obtain ⟨ps, hv, _⟩ := h
  obtain ⟨hc, _⟩ := laid_cells hv gk tk tie_cells
  exact hG.start fun g vs e hg => by obtain ⟨rfl, e1⟩ := G_get hg; cases e1; exact hc
theorem door_met (os : Os) (args : Array Value) : laidMetH Tryd.prog L ((World.doorLaid Tryd.prog 400 os).forCall (fun _ _ => 0) ⟨#[], args, []⟩).memory :=
  laidMetH_of_parts3 (fuel := 8) (laidMet_of_run' 8 (by kernel_rfl) (by kernel_rfl)) (by kernel_rfl) (by kernel_rfl)
set_option maxRecDepth 100000 in
theorem lifted (os : Os) (started : os.Started) (H : Type) (enc : TypeId × Value → H) :
    ReturnsInHanded {} Tryd.checked os 9 .any (fun w args => (Rows.instTextsSpec.pre enc Tryd.prog Tryd.f9 [] false w args ∧ laidMetH Tryd.prog L w) ∧ sizedMet enc Tryd.prog Tryd.f9 (OpenSpec.ofChange Rows.instTextsSpec) false w args)
      (Rows.instTextsSpec.post enc Tryd.prog Tryd.f9 false true false false) := by
  refine returnsInHanded_of_change_and (C := Tryd.checked) (X := fun w _ => laidMetH Tryd.prog L w) (fun _ _ _ hh h => h.of_heap hh) own started (by kernel_rfl) Tryd.func9
    (ChangeSpec.witness_shaped (enc := enc) (C := Tryd.checked) (os := os) (X := fun w _ => laidMetH Tryd.prog L w) false (World.doorLaid Tryd.prog 400 os) #[.agg #[.int .u8 0, .int .u8 0, .int .u8 0, .int .u8 0], .agg #[.int .u8 0, .int .u8 0, .int .u8 0, .int .u8 0], .int .u16 0] 8 rfl (World.shaped_of_RefB (by kernel_rfl) (by kernel_rfl)) (by kernel_rfl) (by kernel_rfl) (by kernel_rfl) (door_met os _)) ?_
  intro W base args ds gs before hval0 hW _ _ hL _
  have hval : ∀ (j : Nat) t v, Tryd.f9.params[j]? = some t → args[j]? = some v → Value.okWide Tryd.prog W .any base t v := hval0
  have hW' := hW
  obtain ⟨p, q, hA0, hV, rfl, hfz, hnd⟩ := hW
  have hA : DataW.TrodAll enc Tryd.prog W 0 (fun _ => true) true Tryd.f9.params.toList args.toList ds p := hA0
  rw [Tryd.params9] at hA hval
  obtain ⟨v0, vs0, d0, ds0, p0, q0, hargs, rfl, rfl, h0, r0⟩ := trodAll_cons hA
  obtain ⟨v1, vs1, d1, ds1, p1, q1, rfl, rfl, rfl, h1, r1⟩ := trodAll_cons r0
  obtain ⟨v2, vs2, d2, ds2, p2, q2, rfl, rfl, rfl, h2, r2⟩ := trodAll_cons r1
  obtain ⟨rfl, rfl, rfl⟩ := trodAll_nil r2
  obtain rfl : args = #[v0, v1, v2] := by cases args; simp_all
  obtain ⟨rfl, rfl⟩ := trodVars_none hV
  have k0 := h0
  have lt0 : ∀ x ∈ p0, x.block < W.heap.size := by obtain ⟨m, hm⟩ := k0; exact DataW.trod_lt m _ _ _ hm
  have k1 := h1
  have lt1 : ∀ x ∈ p1, x.block < W.heap.size := by obtain ⟨m, hm⟩ := k1; exact DataW.trod_lt m _ _ _ hm
  have k2 := h2
  have lt2 : ∀ x ∈ p2, x.block < W.heap.size := by obtain ⟨m, hm⟩ := k2; exact DataW.trod_lt m _ _ _ hm
  obtain ⟨l0, rfl, hl0, w0⟩ := open_ints_array (k := .u8) Tryd.underlying24 Tryd.underlying5 (by kernel_rfl) (by kernel_rfl) (okWide_arr Tryd.underlying24 (hval 0 24 v0 rfl rfl)) h0
  obtain ⟨l1, rfl, hl1, w1⟩ := open_ints_array (k := .u8) Tryd.underlying24 Tryd.underlying5 (by kernel_rfl) (by kernel_rfl) (okWide_arr Tryd.underlying24 (hval 1 24 v1 rfl rfl)) h1
  obtain ⟨n2, rfl, hd2, hp2, w2⟩ := open_int Tryd.underlying25 (hval 2 25 v2 rfl rfl) h2
  refine (Px.calls_of_held (H := H0) (b := true) texts_ok (x := (l0, l1, n2, ())) (preP_of w2) rfl (Z := Z0) ⟨_, _, rfl, fun ν => Px.vs_ints _ hl0 ν, ⟨_, _, rfl, fun ν => Px.vs_ints _ hl1 ν, ⟨_, _, rfl, fun ν => Px.vs_int _ _ ν, rfl⟩⟩⟩ (fun b y h => ⟨h, by rw [(G_get h).2]; trivial⟩) gz0 (VRA.iff.2 (VRL.self ?_)) (rel_of hL)).mono fun e W' ⟨he, bel⟩ => ?_
  · repeat (first | exact (rfl : flatL [] = true) | refine flatL_one (flat_aggs _ _) ?_ | refine flatL_one rfl ?_)
  subst he
  exact ⟨_, rfl, _, _, _, [], _, [], hW', trodAll_mk1 (shut_bool Tryd.underlying4 _), (trodAll_cons_mk (Below.trod laidOut (by kernel_rfl) (of_decide_eq_true (by kernel_rfl)) k0 bel lt0) (trodAll_cons_mk (Below.trod laidOut (by kernel_rfl) (of_decide_eq_true (by kernel_rfl)) k1 bel lt1) (trodAll_cons_mk (Below.trod laidOut (by kernel_rfl) (of_decide_eq_true (by kernel_rfl)) k2 bel lt2) trodAll_mk0))), rfl, bel.frame _, fun h => by cases h⟩
theorem over : Rows.instTextsRow.holds Tryd.pinned (OpenSpec.ofChange Rows.instTextsSpec) :=
  OpenClaim.holds_of_wide 9 Tryd.f9 rfl rfl rfl rfl rfl rfl rfl ⟨rfl, rfl, rfl, rfl, rfl⟩ rfl rfl rfl rfl rfl (by kernel_rfl) Tryd.func9 (by kernel_rfl)
    (of_decide_eq_true (by kernel_rfl)) (by unfold Func.isWrapper; first | (rw [if_pos (by decide +kernel)]; kernel_rfl) | (rw [if_neg (by decide +kernel)]; exact ⟨rfl, rfl⟩))
    (fun os started H enc _ => lifted os started H enc)
theorem proved : Rows.InstTextsCardSaid :=
  Claim7.holds_tied_plain_at .later [] [.data] true (true, "00967da0d007a14231301268216922850b91336f72e61b2b1f3d44130e32698f") false
    over (fun _ h => by cases h) (by kernel_rfl) (fun _ h => by cases h) instTexts_row_tie rfl ⟨rfl, rfl⟩ (by kernel_rfl) rfl
    (fun f fn hf hfn => by
      obtain rfl : f = 9 := Option.some.inj ((show Tryd.prog.funcNamed "inlay/inlaylaw02.InstTexts" = some 9 by kernel_rfl).symm.trans hf) |>.symm
      obtain rfl : fn = Tryd.f9 := (Option.some.inj (Tryd.func9.symm.trans hfn)).symm
      exact ⟨by kernel_rfl, fun j t ht => by
        rw [Tryd.params9] at ht
        have hm : t ∈ [24, 24, 25] := by simpa using Array.mem_of_getElem? ht
        have hall : ([24, 24, 25].all fun u => !Tryd.prog.wantsStandIn u) = true := by kernel_rfl
        exact (show Tryd.prog.wantsStandIn t = false by simpa using List.all_eq_true.1 hall t hm)⟩)
    (by kernel_rfl)
#print axioms proved
end Go.Proofs.YtjihaaibammbnaaDoor.instTexts

