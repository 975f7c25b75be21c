/-
  Proved: for every input, SplitMatchesReference returns true, and each argument reads afterwards as it read before. No condition of our own; the listed package variable is tied to the program's text by the given tie.
-/
import Derived.Test.YtdeacfammdjajaaDoorRows
import Derived.Test.YtdeacfammdjajaaDoorTie
import Derived.Test.YtdeacfammdjajaaDoorCards
import Derived.Test.YtdeacfammdjajaaDoorQ5
import Derived.Test.YtdeacfammdjajaaDoorGE
import Derived.Test.YtdeacfammdjajaaDoorHD
import Derived.WalkKit
import Derived.ProofKit
import Derived.OpenShut
import Derived.ChangeOld
import Derived.Below
import Derived.LaidMore
import Derived.SevenTiedAt
import Derived.Stop.Joined
namespace Go.Proofs.YtdeacfammdjajaaDoor.splitMatchesReference
open Go.ChangeShapes Go.WideShapes Go.ChangeAt Go.RowKit Ax
set_option linter.unusedVariables false
theorem own:ownKnob Tryd.prog.godebug=none:=by kernel_rfl
theorem laidOut:laidOutB Tryd.prog=true:=by kernel_rfl
abbrev L {H : Type} : List (String × DataW H) := [("inlay/normal.costs", Rows.laid_inlay_normal_costs)]
theorem gk : Tryd.prog.globalNamed "inlay/normal.costs" = some 0 := by kernel_rfl
theorem tk:(Tryd.prog.globals[0]?).map (·.type)=some 138:=by kernel_rfl
theorem tie_cells:qcx Tryd.prog 4 138 Rows.laid_inlay_normal_costs=some qh6:=by kernel_rfl
theorem rel_of {W:World} (h:laidMetH Tryd.prog L W):Ax.Rel (λ k=>k<W.heap.size) M0 H0 W:=by
 rw[MakeChecks.laidMetH_plain _ _ _ (by kernel_rfl)] at h;obtain ⟨ps,hv,_⟩:=h;obtain ⟨hc,_⟩:=quh hv gk tk tie_cells;exact hG.start λ g vs e hg=>by obtain ⟨rfl,e1⟩:=qu3 hg;cases e1;exact hc
theorem door_met (os:Os) (args:Array Value):laidMetH Tryd.prog L ((World.doorLaid Tryd.prog 400 os).forCall (λ _ _=>0) ⟨#[],args,[]⟩).memory:=
 laidMetH_of_parts3 (fuel:=8) (laidMet_of_run' 8 (by kernel_rfl) (by kernel_rfl)) (by kernel_rfl) (by kernel_rfl)
set_option maxRecDepth 100000 in
theorem lifted (os:Os) (started:os.Started) (H:Type) (enc:TypeId × Value->H) :
  ReturnsInHanded {} Tryd.checked os 3 .any (λ w args=>(Rows.splitMatchesReferenceSpec.pre enc Tryd.prog Tryd.f3 [] false w args/\laidMetH Tryd.prog L w)/\sizedMet enc Tryd.prog Tryd.f3 (OpenSpec.ofChange Rows.splitMatchesReferenceSpec) false w args)
   (Rows.splitMatchesReferenceSpec.post enc Tryd.prog Tryd.f3 false true false false):=by
 refine returnsInHanded_of_change_and (C:=Tryd.checked) (X:=λ w _=>laidMetH Tryd.prog L w) (λ _ _ _ hh h=>h.of_heap hh) own started (by kernel_rfl) Tryd.func3
  (ChangeSpec.witness_shaped (enc:=enc) (C:=Tryd.checked) (os:=os) (X:=λ w _=>laidMetH Tryd.prog L w) false (World.doorLaid Tryd.prog 400 os) #[.slice none 0 0,.slice none 0 0,.agg #[.int .i8 0,.int .i8 0]] 8 rfl (World.shaped_of_RefB (by kernel_rfl) (by kernel_rfl)) (by kernel_rfl) (by kernel_rfl) (by kernel_rfl) (door_met os _)) ?_
 intro W base args ds gs before hval0 hW _ _ hL _;have hval:∀ (j:Nat) t v,Tryd.f3.params[j]?=some t->args[j]?=some v->Value.okWide Tryd.prog W .any base t v:=hval0;have hW':=hW;obtain ⟨p,q,hA0,hV,rfl,hfz,hnd⟩:=hW;have hA:DataW.TrodAll enc Tryd.prog W 0 (λ _=>true) true Tryd.f3.params.toList args.toList ds p:=hA0;rw[Tryd.params3] at hA hval;obtain ⟨v0,vs0,d0,ds0,p0,q0,hargs,rfl,rfl,h0,r0⟩:=trodAll_cons hA;obtain ⟨v1,vs1,d1,ds1,p1,q1,rfl,rfl,rfl,h1,r1⟩:=trodAll_cons r0;obtain ⟨v2,vs2,d2,ds2,p2,q2,rfl,rfl,rfl,h2,r2⟩:=trodAll_cons r1;obtain ⟨rfl,rfl,rfl⟩:=trodAll_nil r2;obtain rfl:args=#[v0,v1,v2]:=by cases args;simp_all
 obtain ⟨rfl,rfl⟩:=trodVars_none hV;have k0:=h0;have lt0:∀ x∈p0,x.block<W.heap.size:=by obtain ⟨m,hm⟩:=k0;exact DataW.trod_lt m _ _ _ hm
 have k1:=h1;have lt1:∀ x∈p1,x.block<W.heap.size:=by obtain ⟨m,hm⟩:=k1;exact DataW.trod_lt m _ _ _ hm
 have k2:=h2;have lt2:∀ x∈p2,x.block<W.heap.size:=by obtain ⟨m,hm⟩:=k2;exact DataW.trod_lt m _ _ _ hm
 clear hA0;have hR0:Ax.Rel (λ k=>k<W.heap.size) M0 H0 W:=rel_of hL;have hF0:=fro0;obtain ⟨M1,H1,u0,x0,e1,hR1,hF1,zz1,hv0,vv0,wd0⟩:=Px.arg_in (P:=Tryd.prog) (G:=G0) (.sl (.pair (.int .u8) (.sl (.arr 4 (.int .u8))))) (t:=22) (by kernel_rfl) (hval 0 22 v0 rfl rfl) h0 hR0 hF0;obtain ⟨M2,H2,u1,x1,e2,hR2,hF2,zz2,hv1,vv1,wd1⟩:=Px.arg_in (P:=Tryd.prog) (G:=G0) (.sl (.pair (.int .u8) (.pair (.int .u8) (.pair (.int .u8) .bool)))) (t:=23) (by kernel_rfl) (hval 1 23 v1 rfl rfl) h1 hR1 hF1;obtain ⟨M3,H3,u2,x2,e3,hR3,hF3,zz3,hv2,vv2,wd2⟩:=Px.arg_in (P:=Tryd.prog) (G:=G0) (.arr 2 (.int .i8)) (t:=25) (by kernel_rfl) (hval 2 25 v2 rfl rfl) h2 hR2 hF2;refine (Px.calls_of_held (H:=H3) (b:=true) q0f (x:=(x0,(x1,(x2,())))) (⟨x_of wd0.2,λ y hy=>⟨qv1 (wd1.2 y hy).1,qv1 (wd1.2 y hy).2.1,qv1 (wd1.2 y hy).2.2.1⟩⟩) rfl (Z:=λ b=>H3.t.get b) ⟨_,_,rfl,λ ν=>vv0 _ (zz2.trans (zz3.trans (Px.ZLe.refl _))) ν,⟨_,_,rfl,λ ν=>vv1 _ (zz3.trans (Px.ZLe.refl _)) ν,⟨_,_,rfl,λ ν=>vv2 _ (Px.ZLe.refl _) ν,rfl⟩⟩⟩ (λ b y h=>⟨h,hF3.ce b y h⟩) hF3.gz (VRA.iff.2 (.cons (VR.mono (e2.trans e3) _ _ hv0) (.cons (VR.mono e3 _ _ hv1) (.cons hv2 .nil)))) hR3).mono λ e W' ⟨he,bel⟩=>?_
 subst he;exact ⟨_,rfl,_,_,_,[],_,[],hW',trodAll_mk1 (shut_bool Tryd.underlying4 _),(trodAll_cons_mk (Below.trod laidOut (by kernel_rfl) (of_decide_eq_true (by kernel_rfl)) k0 bel lt0) (trodAll_cons_mk (Below.trod laidOut (by kernel_rfl) (of_decide_eq_true (by kernel_rfl)) k1 bel lt1) (trodAll_cons_mk (Below.trod laidOut (by kernel_rfl) (of_decide_eq_true (by kernel_rfl)) k2 bel lt2) trodAll_mk0))),rfl,bel.frame _,λ h=>by cases h⟩
theorem over:Rows.splitMatchesReferenceRow.holds Tryd.pinned (OpenSpec.ofChange Rows.splitMatchesReferenceSpec):=
 OpenClaim.holds_of_wide 3 Tryd.f3 rfl rfl rfl rfl rfl rfl rfl ⟨rfl,rfl,rfl,rfl,rfl⟩ rfl rfl rfl rfl rfl (by kernel_rfl) Tryd.func3 (by kernel_rfl)
  (of_decide_eq_true (by kernel_rfl)) (by unfold Func.isWrapper;first | (rw[if_pos (by decide +kernel)];kernel_rfl) | (rw[if_neg (by decide +kernel)];exact ⟨rfl,rfl⟩))
  (λ os started H enc _=>lifted os started H enc)
theorem proved:Rows.SplitMatchesReferenceCardSaid:=
 Claim7.holds_tied_plain_at .later [] [.data] true (true, "bd64fcc3cc6e580f378faaad8721e73331265035044e0f39e88cec771334d375") false
  over (λ _ h=>by cases h) (by kernel_rfl) (λ _ h=>by cases h) splitMatchesReference_row_tie rfl ⟨rfl,rfl⟩ (by kernel_rfl) rfl
  (λ f fn hf hfn=>by
   obtain rfl : f = 3 := Option.some.inj ((show Tryd.prog.funcNamed "inlay/inlaylaw12.SplitMatchesReference" = some 3 by kernel_rfl).symm.trans hf) |>.symm
   obtain rfl:fn=Tryd.f3:=(Option.some.inj (Tryd.func3.symm.trans hfn)).symm
   exact ⟨by kernel_rfl,λ j t ht=>by
    rw[Tryd.params3] at ht;have hm:t∈[22,23,25]:=by simpa using Array.mem_of_getElem? ht
    have hall:([22,23,25].all λ u => !Tryd.prog.wantsStandIn u)=true:=by kernel_rfl
    exact (show Tryd.prog.wantsStandIn t=false by simpa using List.all_eq_true.1 hall t hm)⟩)
  (by kernel_rfl)
#print axioms proved
end Go.Proofs.YtdeacfammdjajaaDoor.splitMatchesReference
