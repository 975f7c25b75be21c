/-
  Proved: for every input, InstBytes returns true, and each argument reads afterwards as it read before. No condition of our own; the listed package variable is tied to the program's text by the given tie.
-/
import Derived.Test.YtljpjeipgdeioaaDoorRows
import Derived.Test.YtljpjeipgdeioaaDoorTie
import Derived.Test.YtljpjeipgdeioaaDoorCards
import Derived.Test.YtljpjeipgdeioaaDoorW4
import Derived.Test.YtljpjeipgdeioaaDoorA44
import Derived.WalkKit
import Derived.ProofKit
import Derived.OpenShut
import Derived.ChangeOld
import Derived.Below
import Derived.LaidMore
import Derived.SevenTiedAt
import Derived.Stop.Joined
namespace Go.Proofs.YtljpjeipgdeioaaDoor.instBytes
open Go.ChangeShapes Go.WideShapes Go.ChangeAt Go.RowKit Ax
set_option linter.unusedVariables false
theorem own : ownKnob Tryd.prog.godebug = none := by kernel_rfl
theorem laidOut : laidOutB Tryd.prog = true := by kernel_rfl
abbrev L {H : Type} : List (String × DataW H) := [("inlay/inst.kinds", Rows.laid_inlay_inst_kinds)]
theorem gk : Tryd.prog.globalNamed "inlay/inst.kinds" = some 0 := by kernel_rfl
theorem tk : (Tryd.prog.globals[0]?).map (·.type) = some 60 := by kernel_rfl
theorem tie_cells : flatD Tryd.prog 4 60 Rows.laid_inlay_inst_kinds = some kindCells := by kernel_rfl
theorem rel_of {W : World} (h : laidMetH Tryd.prog L W) : Ax.Rel (fun k => k < W.heap.size) M0 H0 W := by
  rw [MakeChecks.laidMetH_plain _ _ _ (by kernel_rfl)] at h
  obtain ⟨ps, hv, _⟩ := h
  obtain ⟨hc, _⟩ := laid_cells hv gk tk tie_cells
  exact hG.start fun g vs e hg => by obtain ⟨rfl, e1⟩ := G_get hg; cases e1; exact hc
theorem door_met (os : Os) (args : Array Value) : laidMetH Tryd.prog L ((World.doorLaid Tryd.prog 400 os).forCall (fun _ _ => 0) ⟨#[], args, []⟩).memory :=
  laidMetH_of_parts3 (fuel := 8) (laidMet_of_run' 8 (by kernel_rfl) (by kernel_rfl)) (by kernel_rfl) (by kernel_rfl)
set_option maxRecDepth 100000 in
theorem lifted (os : Os) (started : os.Started) (H : Type) (enc : TypeId × Value → H) :
    ReturnsInHanded {} Tryd.checked os 8 .any (fun w args => (Rows.instBytesSpec.pre enc Tryd.prog Tryd.f8 [] false w args ∧ laidMetH Tryd.prog L w) ∧ sizedMet enc Tryd.prog Tryd.f8 (OpenSpec.ofChange Rows.instBytesSpec) false w args)
      (Rows.instBytesSpec.post enc Tryd.prog Tryd.f8 false true false false) := by
  refine returnsInHanded_of_change_and (C := Tryd.checked) (X := fun w _ => laidMetH Tryd.prog L w) (fun _ _ _ hh h => h.of_heap hh) own started (by kernel_rfl) Tryd.func8
    (ChangeSpec.witness_shaped (enc := enc) (C := Tryd.checked) (os := os) (X := fun w _ => laidMetH Tryd.prog L w) false (World.doorLaid Tryd.prog 400 os) #[.slice none 0 0, .slice none 0 0] 8 rfl (World.shaped_of_RefB (by kernel_rfl) (by kernel_rfl)) (by kernel_rfl) (by kernel_rfl) (by kernel_rfl) (door_met os _)) ?_
  intro W base args ds gs before hval0 hW _ _ hL _
  have hval : ∀ (j : Nat) t v, Tryd.f8.params[j]? = some t → args[j]? = some v → Value.okWide Tryd.prog W .any base t v := hval0
  have hW' := hW
  obtain ⟨p, q, hA0, hV, rfl, hfz, hnd⟩ := hW
  have hA : DataW.TrodAll enc Tryd.prog W 0 (fun _ => true) true Tryd.f8.params.toList args.toList ds p := hA0
  rw [Tryd.params8] at hA hval
  obtain ⟨v0, vs0, d0, ds0, p0, q0, hargs, rfl, rfl, h0, r0⟩ := trodAll_cons hA
  obtain ⟨v1, vs1, d1, ds1, p1, q1, rfl, rfl, rfl, h1, r1⟩ := trodAll_cons r0
  obtain ⟨rfl, rfl, rfl⟩ := trodAll_nil r1
  obtain rfl : args = #[v0, v1] := by cases args; simp_all
  obtain ⟨rfl, rfl⟩ := trodVars_none hV
  have k0 := h0
  have lt0 : ∀ x ∈ p0, x.block < W.heap.size := by obtain ⟨m, hm⟩ := k0; exact DataW.trod_lt m _ _ _ hm
  have k1 := h1
  have lt1 : ∀ x ∈ p1, x.block < W.heap.size := by obtain ⟨m, hm⟩ := k1; exact DataW.trod_lt m _ _ _ hm
  obtain ⟨a0, len0, cap0, rfl⟩ := okWide_slice Tryd.underlying46 (hval 0 46 v0 rfl rfl)
  obtain ⟨a1, len1, cap1, rfl⟩ := okWide_slice Tryd.underlying29 (hval 1 29 v1 rfl rfl)
  obtain ⟨z0, w0⟩ : ∃ zs, RowK .u8 W a0 len0 cap0 zs := by
    obtain ⟨fuel, hf⟩ := h0
    rcases open_ints Tryd.underlying46 Tryd.underlying5 (by kernel_rfl) hf with ⟨hcs, _⟩ | ⟨x, l, c, zs, hcs, _, hl, hm, hz, _, hcell, hwz⟩
    · simp [Value.cells] at hcs
      obtain ⟨rfl, rfl, rfl⟩ := hcs
      exact ⟨[], .inl ⟨rfl, rfl, rfl, rfl⟩⟩
    · simp [Value.cells] at hcs
      obtain ⟨rfl, rfl, rfl⟩ := hcs
      exact ⟨zs, .inr ⟨_, rfl, hl, hm, by simpa using hz, hcell, hwz⟩⟩
  obtain ⟨z1, w1⟩ : ∃ zs, RowK .u32 W a1 len1 cap1 zs := by
    obtain ⟨fuel, hf⟩ := h1
    rcases open_ints Tryd.underlying29 Tryd.underlying22 (by kernel_rfl) hf with ⟨hcs, _⟩ | ⟨x, l, c, zs, hcs, _, hl, hm, hz, _, hcell, hwz⟩
    · simp [Value.cells] at hcs
      obtain ⟨rfl, rfl, rfl⟩ := hcs
      exact ⟨[], .inl ⟨rfl, rfl, rfl, rfl⟩⟩
    · simp [Value.cells] at hcs
      obtain ⟨rfl, rfl, rfl⟩ := hcs
      exact ⟨zs, .inr ⟨_, rfl, hl, hm, by simpa using hz, hcell, hwz⟩⟩
  have hR0 := rel_of hL
  have hro0 : ROnly H0 := ⟨fun i x hx => by rw [(G_get hx).2]; rfl⟩
  obtain ⟨M1, H1, u0, bs, x1, hR1, hro1, K1, hv0, i0, hb0, hw0⟩ := row_in hR0 hro0 (by decide) w0
  have hn1 : H1.next ≤ 31 := K1.most
  have hmx : (2000 : Nat) < maxIds := by decide
  obtain ⟨M2, H2, u1, ws, x2, hR2, hro2, K2, hv1, i1, hb1, hw1⟩ := row_in hR1 hro1 (by omega) w1
  have hn2 : H2.next ≤ H1.next + 1 := K2.most
  have hle1 : 30 ≤ H1.next := K1.le
  have hle2 : H1.next ≤ H2.next := K2.le
  have hlay : Lay G H2 := lay_of (by omega) (by rw [K2.old 0 (by omega), K1.old 0 (by decide)]; rfl)
  obtain ⟨vr, H3, he, rfl⟩ := instBytes_ev hlay (i0.keep K2) i1 (fun n hn => Go.bounds_u8 (hw0 n hn)) (fun n hn => by have := Go.bounds_u32 (hw1 n hn); omega) (by omega) hb0 hb1
  refine (calls_of_ev rfl he (VRA.iff.2 (.cons (VR.mono x2 _ _ hv0) (.cons hv1 .nil))) hR2).mono fun e W' ⟨he, bel⟩ => ?_
  subst he
  exact ⟨_, rfl, _, _, _, [], _, [], hW', trodAll_mk1 (shut_bool Tryd.underlying4 _), (trodAll_cons_mk (Below.trod laidOut (by kernel_rfl) (of_decide_eq_true (by kernel_rfl)) k0 bel lt0) (trodAll_cons_mk (Below.trod laidOut (by kernel_rfl) (of_decide_eq_true (by kernel_rfl)) k1 bel lt1) trodAll_mk0)), rfl, bel.frame _, fun h => by cases h⟩
theorem over : Rows.instBytesRow.holds Tryd.pinned (OpenSpec.ofChange Rows.instBytesSpec) :=
  OpenClaim.holds_of_wide 8 Tryd.f8 rfl rfl rfl rfl rfl rfl rfl ⟨rfl, rfl, rfl, rfl, rfl⟩ rfl rfl rfl rfl rfl (by kernel_rfl) Tryd.func8 (by kernel_rfl)
    (of_decide_eq_true (by kernel_rfl)) (by unfold Func.isWrapper; first | (rw [if_pos (by decide +kernel)]; kernel_rfl) | (rw [if_neg (by decide +kernel)]; exact ⟨rfl, rfl⟩))
    (fun os started H enc _ => lifted os started H enc)
theorem proved : Rows.InstBytesCardSaid :=
  Claim7.holds_tied_plain_at .later [] [.data] true (true, "00967da0d007a14231301268216922850b91336f72e61b2b1f3d44130e32698f") false
    over (fun _ h => by cases h) (by kernel_rfl) (fun _ h => by cases h) instBytes_row_tie rfl ⟨rfl, rfl⟩ (by kernel_rfl) rfl
    (fun f fn hf hfn => by
      obtain rfl : f = 8 := Option.some.inj ((show Tryd.prog.funcNamed "inlay/inlaylaw02.InstBytes" = some 8 by kernel_rfl).symm.trans hf) |>.symm
      obtain rfl : fn = Tryd.f8 := (Option.some.inj (Tryd.func8.symm.trans hfn)).symm
      exact ⟨by kernel_rfl, fun j t ht => by
        rw [Tryd.params8] at ht
        have hm : t ∈ [46, 29] := by simpa using Array.mem_of_getElem? ht
        have hall : ([46, 29].all fun u => !Tryd.prog.wantsStandIn u) = true := by kernel_rfl
        exact (show Tryd.prog.wantsStandIn t = false by simpa using List.all_eq_true.1 hall t hm)⟩)
    (by kernel_rfl)
#print axioms proved
end Go.Proofs.YtljpjeipgdeioaaDoor.instBytes

