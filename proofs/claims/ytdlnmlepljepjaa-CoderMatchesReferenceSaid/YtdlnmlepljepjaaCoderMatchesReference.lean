/-
  Proved: for every input, CoderMatchesReference returns true, and each argument reads afterwards as it read before. No condition of our own.
-/
import Derived.Test.YtdlnmlepljepjaaRows
import Derived.Test.YtdlnmlepljepjaaQ3
import Derived.Test.YtdlnmlepljepjaaHD
import Derived.WalkKit
import Derived.ProofKit
import Derived.OpenShut
import Derived.ChangeOld
import Derived.Below
namespace Go.Proofs.Ytdlnmlepljepjaa.coderMatchesReference
open Go.ChangeShapes Go.WideShapes Go.ChangeAt Go.RowKit Ax
set_option linter.unusedVariables false
theorem own:ownKnob Try.prog.godebug=none:=by kernel_rfl
theorem laidOut:laidOutB Try.prog=true:=by kernel_rfl
theorem fro0:Px.Fro G0 H0:=⟨λ i x h=>by simp[G0,T.get] at h,λ i x h=>by simp[G0,T.get] at h,λ i x h=>by simp[G0,T.get] at h,λ g x h=>by simp[G0,Px.lk] at h,λ g x h=>by simp[G0,T.get] at h⟩
theorem rel0 (W:World):Ax.Rel (λ k=>k<W.heap.size) M0 H0 W:=hG.start λ g vs e hg=>by simp[G0,T.get] at hg

set_option maxRecDepth 100000 in
theorem lifted (os:Os) (started:os.Started) (H:Type) (enc:TypeId × Value->H) :
  ReturnsInHanded {} Try.checked os 3 .any (Rows.coderMatchesReferenceSpec.pre6 enc Try.prog Try.f3 Rows.coderMatchesReferenceRow.domain false) (Rows.coderMatchesReferenceSpec.post enc Try.prog Try.f3 false true false false):=by
 refine returnsInHanded_of_change (C:=Try.checked) own started (by kernel_rfl) Try.func3
  (ChangeSpec.witness6 (enc:=enc) (C:=Try.checked) false ⟨#[],#[.slice none 0 0,.slice none 0 0,.agg #[.int .u8 0,.int .u8 0,.int .u8 0]],[]⟩ 8 (by kernel_rfl) (by kernel_rfl) (by kernel_rfl) (by kernel_rfl)) ?_
 intro W base args ds gs before hval0 hW hcnd _;have hval:∀ (j:Nat) t v,Try.f3.params[j]?=some t->args[j]?=some v->Value.okWide Try.prog W .any base t v:=hval0;have hW':=hW;obtain ⟨p,q,hA0,hV,rfl,hfz,hnd⟩:=hW;have hA:DataW.TrodAll enc Try.prog W 0 (λ _=>true) true Try.f3.params.toList args.toList ds p:=hA0;rw[Try.params3] at hA hval;obtain ⟨v0,vs0,d0,ds0,p0,q0,hargs,rfl,rfl,h0,r0⟩:=trodAll_cons hA;obtain ⟨v1,vs1,d1,ds1,p1,q1,rfl,rfl,rfl,h1,r1⟩:=trodAll_cons r0;obtain ⟨v2,vs2,d2,ds2,p2,q2,rfl,rfl,rfl,h2,r2⟩:=trodAll_cons r1;obtain ⟨rfl,rfl,rfl⟩:=trodAll_nil r2;obtain rfl:args=#[v0,v1,v2]:=by cases args;simp_all
 obtain ⟨rfl,rfl⟩:=trodVars_none hV;have k0:=h0;have lt0:∀ x∈p0,x.block<W.heap.size:=by obtain ⟨m,hm⟩:=k0;exact DataW.trod_lt m _ _ _ hm
 have k1:=h1;have lt1:∀ x∈p1,x.block<W.heap.size:=by obtain ⟨m,hm⟩:=k1;exact DataW.trod_lt m _ _ _ hm
 have k2:=h2;have lt2:∀ x∈p2,x.block<W.heap.size:=by obtain ⟨m,hm⟩:=k2;exact DataW.trod_lt m _ _ _ hm
 clear hA0;have hR0:Ax.Rel (λ k=>k<W.heap.size) M0 H0 W:=rel0 W;have hF0:=fro0;obtain ⟨M1,H1,u0,x0,e1,hR1,hF1,zz1,hv0,vv0,wd0⟩:=Px.arg_in (P:=Try.prog) (G:=G0) (.sl (.int .u8)) (t:=22) (by kernel_rfl) (hval 0 22 v0 rfl rfl) h0 hR0 hF0;obtain ⟨M2,H2,u1,x1,e2,hR2,hF2,zz2,hv1,vv1,wd1⟩:=Px.arg_in (P:=Try.prog) (G:=G0) (.sl (.int .u8)) (t:=22) (by kernel_rfl) (hval 1 22 v1 rfl rfl) h1 hR1 hF1;obtain ⟨M3,H3,u2,x2,e3,hR3,hF3,zz3,hv2,vv2,wd2⟩:=Px.arg_in (P:=Try.prog) (G:=G0) (.arr 3 (.int .u8)) (t:=23) (by kernel_rfl) (hval 2 23 v2 rfl rfl) h2 hR2 hF2;refine (Px.calls_of_held (H:=H3) (b:=true) q2i (x:=(x0,(x1,(x2,())))) (⟨q5n wd0,q5n wd1,q5m wd2⟩) rfl (Z:=λ b=>H3.t.get b) ⟨_,_,rfl,λ ν=>vv0 _ (zz2.trans (zz3.trans (Px.ZLe.refl _))) ν,⟨_,_,rfl,λ ν=>vv1 _ (zz3.trans (Px.ZLe.refl _)) ν,⟨_,_,rfl,λ ν=>vv2 _ (Px.ZLe.refl _) ν,rfl⟩⟩⟩ (λ b y h=>⟨h,hF3.ce b y h⟩) hF3.gz (VRA.iff.2 (.cons (VR.mono (e2.trans e3) _ _ hv0) (.cons (VR.mono e3 _ _ hv1) (.cons hv2 .nil)))) hR3).mono λ e W' ⟨he,bel⟩=>?_
 subst he;exact ⟨_,rfl,_,_,_,[],_,[],hW',trodAll_mk1 (shut_bool Try.underlying4 _),(trodAll_cons_mk (Below.trod laidOut (by kernel_rfl) (of_decide_eq_true (by kernel_rfl)) k0 bel lt0) (trodAll_cons_mk (Below.trod laidOut (by kernel_rfl) (of_decide_eq_true (by kernel_rfl)) k1 bel lt1) (trodAll_cons_mk (Below.trod laidOut (by kernel_rfl) (of_decide_eq_true (by kernel_rfl)) k2 bel lt2) trodAll_mk0))),rfl,bel.frame _,λ h=>by cases h⟩
theorem over:Rows.coderMatchesReferenceRow.holds Try.pinned (OpenSpec.ofChange Rows.coderMatchesReferenceSpec):=
 OpenClaim.holds_of_wide 3 Try.f3 rfl rfl rfl rfl rfl rfl rfl ⟨rfl,rfl,rfl,rfl,rfl⟩ rfl rfl rfl rfl rfl (by kernel_rfl) Try.func3 (by kernel_rfl)
  (of_decide_eq_true (by kernel_rfl)) (by unfold Func.isWrapper;first | (rw[if_pos (by decide +kernel)];kernel_rfl) | (rw[if_neg (by decide +kernel)];exact ⟨rfl,rfl⟩))
  (λ os started H enc _=>lifted os started H enc)
theorem proved:Rows.CoderMatchesReferenceSaid:=over
#print axioms proved
end Go.Proofs.Ytdlnmlepljepjaa.coderMatchesReference
