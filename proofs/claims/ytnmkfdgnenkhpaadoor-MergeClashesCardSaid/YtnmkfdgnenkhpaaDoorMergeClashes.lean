/-
  Proved: for every input, MergeClashes returns true, and each argument reads afterwards as it read before. No condition of our own; the listed package variable is tied to the program's text by the given tie.
-/
import Derived.Test.YtnmkfdgnenkhpaaDoorRows
import Derived.Test.YtnmkfdgnenkhpaaDoorTie
import Derived.Test.YtnmkfdgnenkhpaaDoorCards
import Derived.Test.YtnmkfdgnenkhpaaDoorQ5
import Derived.Test.YtnmkfdgnenkhpaaDoorGE
import Derived.Test.YtnmkfdgnenkhpaaDoorHD
import Derived.WalkKit
import Derived.ProofKit
import Derived.OpenShut
import Derived.ChangeOld
import Derived.Below
import Derived.LaidMore
import Derived.SevenTiedAt
import Derived.Stop.Joined
namespace Go.Proofs.YtnmkfdgnenkhpaaDoor.mergeClashes
open Go.ChangeShapes Go.WideShapes Go.ChangeAt Go.RowKit Ax
set_option linter.unusedVariables false
theorem own:ownKnob Tryd.prog.godebug=none:=by kernel_rfl
theorem laidOut:laidOutB Tryd.prog=true:=by kernel_rfl
abbrev L {H : Type} : List (String × DataW H) := [("inlay/normal.costs", Rows.laid_inlay_normal_costs)]
theorem gk : Tryd.prog.globalNamed "inlay/normal.costs" = some 0 := by kernel_rfl
theorem tk:(Tryd.prog.globals[0]?).map (·.type)=some 129:=by kernel_rfl
theorem tie_cells:qct Tryd.prog 4 129 Rows.laid_inlay_normal_costs=some qhp:=by kernel_rfl
theorem rel_of {W:World} (h:laidMetH Tryd.prog L W):Ax.Rel (fun k=>k<W.heap.size) M0 H0 W:=by
 rw[MakeChecks.laidMetH_plain _ _ _ (by kernel_rfl)] at h;obtain ⟨ps,hv,_⟩:=h;obtain ⟨hc,_⟩:=qs5 hv gk tk tie_cells;exact hG.start fun g vs e hg=>by obtain ⟨rfl,e1⟩:=qts hg;cases e1;exact hc
theorem door_met (os:Os) (args:Array Value):laidMetH Tryd.prog L ((World.doorLaid Tryd.prog 400 os).forCall (fun _ _=>0) ⟨#[],args,[]⟩).memory:=
 laidMetH_of_parts3 (fuel:=8) (laidMet_of_run' 8 (by kernel_rfl) (by kernel_rfl)) (by kernel_rfl) (by kernel_rfl)
set_option maxRecDepth 100000 in
theorem lifted (os:Os) (started:os.Started) (H:Type) (enc:TypeId × Value->H) :
  ReturnsInHanded {} Tryd.checked os 4 .any (fun w args=>(Rows.mergeClashesSpec.pre enc Tryd.prog Tryd.f4 [] false w args/\laidMetH Tryd.prog L w)/\sizedMet enc Tryd.prog Tryd.f4 (OpenSpec.ofChange Rows.mergeClashesSpec) false w args)
   (Rows.mergeClashesSpec.post enc Tryd.prog Tryd.f4 false true false false):=by
 refine returnsInHanded_of_change_and (C:=Tryd.checked) (X:=fun w _=>laidMetH Tryd.prog L w) (fun _ _ _ hh h=>h.of_heap hh) own started (by kernel_rfl) Tryd.func4
  (ChangeSpec.witness_shaped (enc:=enc) (C:=Tryd.checked) (os:=os) (X:=fun w _=>laidMetH Tryd.prog L w) false (World.doorLaid Tryd.prog 400 os) #[.agg #[.int .u8 0,.slice none 0 0,.int .u8 0,.slice none 0 0]] 8 rfl (World.shaped_of_RefB (by kernel_rfl) (by kernel_rfl)) (by kernel_rfl) (by kernel_rfl) (by kernel_rfl) (door_met os _)) ?_
 intro W base args ds gs before hval0 hW _ _ hL _;have hval:∀ (j:Nat) t v,Tryd.f4.params[j]?=some t->args[j]?=some v->Value.okWide Tryd.prog W .any base t v:=hval0;have hW':=hW;obtain ⟨p,q,hA0,hV,rfl,hfz,hnd⟩:=hW;have hA:DataW.TrodAll enc Tryd.prog W 0 (fun _=>true) true Tryd.f4.params.toList args.toList ds p:=hA0;rw[Tryd.params4] at hA hval;obtain ⟨v0,vs0,d0,ds0,p0,q0,hargs,rfl,rfl,h0,r0⟩:=trodAll_cons hA;obtain ⟨rfl,rfl,rfl⟩:=trodAll_nil r0;obtain rfl:args=#[v0]:=by cases args;simp_all
 obtain ⟨rfl,rfl⟩:=trodVars_none hV;have k0:=h0;have lt0:∀ x∈p0,x.block<W.heap.size:=by obtain ⟨m,hm⟩:=k0;exact DataW.trod_lt m _ _ _ hm
 clear hA0;have hR0:Ax.Rel (fun k=>k<W.heap.size) M0 H0 W:=rel_of hL;have hF0:=fro0;obtain ⟨M1,H1,u0,x0,e1,hR1,hF1,zz1,hv0,vv0,wd0⟩:=Px.arg_in (P:=Tryd.prog) (G:=G0) (.arr 2 (.pair (.int .u8) (.sl (.arr 4 (.int .u8))))) (t:=39) (by kernel_rfl) (hval 0 39 v0 rfl rfl) h0 hR0 hF0;refine (Px.calls_of_held (H:=H1) (b:=true) qzi (x:=(x0,())) ((x_of wd0.2)) rfl (Z:=fun b=>H1.t.get b) ⟨_,_,rfl,fun ν=>vv0 _ (Px.ZLe.refl _) ν,rfl⟩ (fun b y h=>⟨h,hF1.ce b y h⟩) hF1.gz (VRA.iff.2 (.cons hv0 .nil)) hR1).mono fun e W' ⟨he,bel⟩=>?_
 subst he;exact ⟨_,rfl,_,_,_,[],_,[],hW',trodAll_mk1 (shut_bool Tryd.underlying4 _),(trodAll_cons_mk (Below.trod laidOut (by kernel_rfl) (of_decide_eq_true (by kernel_rfl)) k0 bel lt0) trodAll_mk0),rfl,bel.frame _,fun h=>by cases h⟩
theorem over:Rows.mergeClashesRow.holds Tryd.pinned (OpenSpec.ofChange Rows.mergeClashesSpec):=
 OpenClaim.holds_of_wide 4 Tryd.f4 rfl rfl rfl rfl rfl rfl rfl ⟨rfl,rfl,rfl,rfl,rfl⟩ rfl rfl rfl rfl rfl (by kernel_rfl) Tryd.func4 (by kernel_rfl)
  (of_decide_eq_true (by kernel_rfl)) (by unfold Func.isWrapper;first | (rw[if_pos (by decide +kernel)];kernel_rfl) | (rw[if_neg (by decide +kernel)];exact ⟨rfl,rfl⟩))
  (fun os started H enc _=>lifted os started H enc)
theorem proved:Rows.MergeClashesCardSaid:=
 Claim7.holds_tied_plain_at .later [] [.data] true (true, "de63ec5016c11dc8fd6ca349e490ef8681ce090f3e6054b2d0d4bd82c5c07536") false
  over (fun _ h=>by cases h) (by kernel_rfl) (fun _ h=>by cases h) mergeClashes_row_tie rfl ⟨rfl,rfl⟩ (by kernel_rfl) rfl
  (fun f fn hf hfn=>by
   obtain rfl : f = 4 := Option.some.inj ((show Tryd.prog.funcNamed "inlay/inlaylaw11.MergeClashes" = some 4 by kernel_rfl).symm.trans hf) |>.symm
   obtain rfl:fn=Tryd.f4:=(Option.some.inj (Tryd.func4.symm.trans hfn)).symm
   exact ⟨by kernel_rfl,fun j t ht=>by
    rw[Tryd.params4] at ht;have hm:t∈[39]:=by simpa using Array.mem_of_getElem? ht
    have hall:([39].all fun u => !Tryd.prog.wantsStandIn u)=true:=by kernel_rfl
    exact (show Tryd.prog.wantsStandIn t=false by simpa using List.all_eq_true.1 hall t hm)⟩)
  (by kernel_rfl)
#print axioms proved
end Go.Proofs.YtnmkfdgnenkhpaaDoor.mergeClashes
