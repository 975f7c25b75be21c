/-
  A part of the proof: what pieces of the program give; conditions: those of each theorem.
-/
import Derived.Test.YticpkibnhakgbaaDoorQ2
import Derived.Test.YticpkibnhakgbaaDoorQ1
import Derived.Test.YticpkibnhakgbaaDoorHD
import Derived.KernelRfl
set_option linter.unusedVariables false
set_option linter.unusedSimpArgs false
namespace Go.Proofs.YticpkibnhakgbaaDoor
open Go.Px Go.Ax
set_option maxRecDepth 100000
attribute [local irreducible] Go.Px.sy Go.Px.syE
def ctAl:Ctr:=⟨[.sl paS],fun x=>List.length x.1<1099511627776,fun x=>[paV (allV x.1).1,.int .i64 (allV x.1).2],fun _=>[]⟩
theorem al_err {l:List PaT} {z:Int} {bl:List (Nat × LB)} (h:allV l=(zP,z)):QC ctAl (l,()) [.agg [.bool false,.int .i64 0,.int .i64 0,.nils],.int .i64 z] bl:=
 QC.mt (by show MtL _ [paV (allV l).1,.int .i64 (allV l).2] _;rw[h];exact zero_mt _) rfl
theorem al_fin {l:List PaT} {r:PaT × Int} {bl:List (Nat × LB)} (h:allV l=r):QC ctAl (l,()) [paV r.1,.int .i64 r.2] bl:=
 QC.flat (by show [paV (allV l).1,.int .i64 (allV l).2]=_;rw[h]) rfl rfl
theorem all_run (l:List PaT) (hl:l.length<1099511627776) (R:List Item→PS→Prop):sy tt G0 CAl Tryd.f11.ntmps Tryd.f11.results.toList (QC ctAl (l,())) R 1000 [.code (bodyOf Tryd.f11)] (entry [.sl paS] (l,())):=by
 refine (vc_all l _ _).mpr (bc_of (fun h=>?_) (fun h=>?_))
 ·have h:(l.length:Int)=0:=of_decide_eq_true h
  have e:l=[]:=List.eq_nil_of_length_eq_zero (by omega)
  exact al_err (by rw[e];rfl)
 ·have h:¬ (l.length:Int)=0:=of_decide_eq_false h
  have e:l=gtP l 0::l.drop 1:=by
   have:=List.drop_eq_getElem_cons (l:=l) (i:=0) (by omega)
   rw[List.drop_zero] at this
   rw[gtP_at (by omega)];exact this
  have ha:allV l=if (foV (gtP l 0)).2≠0 then (zP,(foV (gtP l 0)).2) else alF (foV (gtP l 0)) (l.drop 1):=by
   rw[e];rfl
  refine ⟨by omega,by omega,trivial,bc_of (fun h2=>?_) (fun h2=>?_)⟩
  ·have h2:(foV (gtP l 0)).2≠0:=of_decide_eq_true h2
   rw[if_pos h2] at ha
   exact al_err ha
  ·have h2:¬ (foV (gtP l 0)).2≠0:=of_decide_eq_false h2
   rw[if_neg h2,show foV (gtP l 0)=((foV (gtP l 0)).1,0) from Prod.ext rfl (by omega)] at ha
   exact ⟨by omega,by omega,(show (l.drop 1).length<1099511627776 by rw[List.length_drop];omega),al_fin ha⟩
theorem all_held:Held Tryd.prog G0 11 ctAl:=Held.run cxAl (fn:=Tryd.f11) rfl rfl ⟨by decide,by decide⟩ fun ⟨l,_⟩ hp=>all_run l hp _
end Go.Proofs.YticpkibnhakgbaaDoor
namespace Go.Proofs.YticpkibnhakgbaaDoor
open Go.Px Go.Ax
set_option maxRecDepth 100000
abbrev RaT:Type:=Int × List (List Int)
abbrev gtR (l:List RaT) (i:Nat):RaT:=gt raS l i
set_option maxRecDepth 100000
end Go.Proofs.YticpkibnhakgbaaDoor
namespace Go.Proofs.YticpkibnhakgbaaDoor
open Go.Px Go.Ax
set_option maxRecDepth 100000
attribute [local irreducible] Go.Px.sy Go.Px.syE
theorem szV_out {l:List (List Int)} {m:Int} (hl:preL4 l) (h0:0≤m):0≤(szV l m).2.2.1∧(szV l m).2.2.1≤30:=szO_sum hl h0
theorem gtR_at {l:List RaT} {i:Nat} (h:i<l.length):gtR l i=l[i]:=by
 show gt raS l i=_
 unfold gt
 rw[List.getElem?_eq_getElem h];rfl
end Go.Proofs.YticpkibnhakgbaaDoor
namespace Go.Proofs.YticpkibnhakgbaaDoor
open Go.Px Go.Ax
set_option maxRecDepth 100000
def CSc:CV:=[(14,.inl ctCo),(11,.inl ctAl),(17,.inl ctTh),(13,.inl ctSm),(31,.inl ctRw)]
theorem cxSc:CxOK Tryd.prog tt G0 CSc:=((((cx0.cons rw_held (fn:=Tryd.f31) rfl rfl rfl).cons sm_held (fn:=Tryd.f13) rfl rfl rfl).cons th_held (fn:=Tryd.f17) rfl rfl rfl).cons all_held (fn:=Tryd.f11) rfl rfl rfl).cons co_held (fn:=Tryd.f14) rfl rfl rfl
set_option maxRecDepth 100000
theorem vc_csan  (Q:QT) (R:RT):sy tt G0 CSc Tryd.f9.ntmps Tryd.f9.results.toList Q R 1000 [.code (bodyOf Tryd.f9)] (entry [] ()) =
  (0+(2:Nat)≤(((List.replicate (2:Nat) uB.dflt).set (0:Nat) (1:Int)).set (1:Nat) (2:Int)).length ∧
 0+(2:Nat)≤(((List.replicate (2:Nat) uB.dflt).set (0:Nat) (1:Int)).set (1:Nat) (2:Int)).length ∧
 0+(2:Nat)≤(((List.replicate (2:Nat) uB.dflt).set (0:Nat) (255:Int)).set (1:Nat) (254:Int)).length ∧
 0+(2:Nat)≤(((List.replicate (2:Nat) uB.dflt).set (0:Nat) (255:Int)).set (1:Nat) (254:Int)).length ∧
 0+(1:Nat)≤([((1:Int),(1:Int),(2:Int),(0:Int),[])]:List opS.D).length ∧
 0+(1:Nat)≤([((1:Int),(1:Int),(2:Int),(0:Int),[])]:List opS.D).length ∧
 0+(1:Nat)≤([((1:Int),(1:Int),(2:Int),(0:Int),[])]:List opS.D).length ∧
 0+(1:Nat)≤([((1:Int),(1:Int),(2:Int),(0:Int),[])]:List opS.D).length ∧
 0+(2:Nat)≤(((List.replicate (2:Nat) opS.dflt).set (0:Nat) ((1:Int),(1:Int),(1:Int),(0:Int),[])).set (1:Nat) ((3:Int),(0:Int),(1:Int),(9:Int),[])).length ∧
 0+(2:Nat)≤(((List.replicate (2:Nat) opS.dflt).set (0:Nat) ((1:Int),(1:Int),(1:Int),(0:Int),[])).set (1:Nat) ((3:Int),(0:Int),(1:Int),(9:Int),[])).length ∧
 0+(2:Nat)≤(((List.replicate (2:Nat) opS.dflt).set (0:Nat) ((1:Int),(1:Int),(1:Int),(0:Int),[])).set (1:Nat) ((3:Int),(0:Int),(1:Int),(9:Int),[])).length ∧
 0+(2:Nat)≤(((List.replicate (2:Nat) opS.dflt).set (0:Nat) ((1:Int),(1:Int),(1:Int),(0:Int),[])).set (1:Nat) ((3:Int),(0:Int),(1:Int),(9:Int),[])).length ∧
 ctCo.pre ((false,(3:Int),(2:Int),([((1:Int),(1:Int),(2:Int),(0:Int),[])]:List opS.D)),(false,(2:Int),(2:Int),winL opS (0:Nat) (2:Nat) (((List.replicate (2:Nat) opS.dflt).set (0:Nat) ((1:Int),(1:Int),(1:Int),(0:Int),[])).set (1:Nat) ((3:Int),(0:Int),(1:Int),(9:Int),[]))),()) ∧
 0+(1:Nat)≤([((2:Int),(0:Int),(2:Int),(0:Int),winL uB (0:Nat) (2:Nat) (((List.replicate (2:Nat) uB.dflt).set (0:Nat) (1:Int)).set (1:Nat) (2:Int)))]:List opS.D).length ∧
 0+(1:Nat)≤([((2:Int),(0:Int),(2:Int),(0:Int),winL uB (0:Nat) (2:Nat) (((List.replicate (2:Nat) uB.dflt).set (0:Nat) (1:Int)).set (1:Nat) (2:Int)))]:List opS.D).length ∧
 0+(1:Nat)≤([((2:Int),(0:Int),(2:Int),(0:Int),winL uB (0:Nat) (2:Nat) (((List.replicate (2:Nat) uB.dflt).set (0:Nat) (1:Int)).set (1:Nat) (2:Int)))]:List opS.D).length ∧
 0+(1:Nat)≤([((2:Int),(0:Int),(2:Int),(0:Int),winL uB (0:Nat) (2:Nat) (((List.replicate (2:Nat) uB.dflt).set (0:Nat) (1:Int)).set (1:Nat) (2:Int)))]:List opS.D).length ∧
 0+(1:Nat)≤([((2:Int),(0:Int),(2:Int),(0:Int),winL uB (0:Nat) (2:Nat) (((List.replicate (2:Nat) uB.dflt).set (0:Nat) (255:Int)).set (1:Nat) (254:Int)))]:List opS.D).length ∧
 0+(1:Nat)≤([((2:Int),(0:Int),(2:Int),(0:Int),winL uB (0:Nat) (2:Nat) (((List.replicate (2:Nat) uB.dflt).set (0:Nat) (255:Int)).set (1:Nat) (254:Int)))]:List opS.D).length ∧
 0+(1:Nat)≤([((2:Int),(0:Int),(2:Int),(0:Int),winL uB (0:Nat) (2:Nat) (((List.replicate (2:Nat) uB.dflt).set (0:Nat) (255:Int)).set (1:Nat) (254:Int)))]:List opS.D).length ∧
 0+(1:Nat)≤([((2:Int),(0:Int),(2:Int),(0:Int),winL uB (0:Nat) (2:Nat) (((List.replicate (2:Nat) uB.dflt).set (0:Nat) (255:Int)).set (1:Nat) (254:Int)))]:List opS.D).length ∧
 ctCo.pre ((false,(2:Int),(2:Int),([((2:Int),(0:Int),(2:Int),(0:Int),winL uB (0:Nat) (2:Nat) (((List.replicate (2:Nat) uB.dflt).set (0:Nat) (1:Int)).set (1:Nat) (2:Int)))]:List opS.D)),(false,(2:Int),(2:Int),([((2:Int),(0:Int),(2:Int),(0:Int),winL uB (0:Nat) (2:Nat) (((List.replicate (2:Nat) uB.dflt).set (0:Nat) (255:Int)).set (1:Nat) (254:Int)))]:List opS.D)),()) ∧
 0+(1:Nat)≤([((3:Int),(0:Int),(4:Int),(5:Int),[])]:List opS.D).length ∧
 0+(1:Nat)≤([((3:Int),(0:Int),(4:Int),(5:Int),[])]:List opS.D).length ∧
 0+(1:Nat)≤([((3:Int),(0:Int),(4:Int),(5:Int),[])]:List opS.D).length ∧
 0+(1:Nat)≤([((3:Int),(0:Int),(4:Int),(5:Int),[])]:List opS.D).length ∧
 0+(1:Nat)≤([((1:Int),(0:Int),(2:Int),(0:Int),[])]:List opS.D).length ∧
 0+(1:Nat)≤([((1:Int),(0:Int),(2:Int),(0:Int),[])]:List opS.D).length ∧
 0+(1:Nat)≤([((1:Int),(0:Int),(2:Int),(0:Int),[])]:List opS.D).length ∧
 0+(1:Nat)≤([((1:Int),(0:Int),(2:Int),(0:Int),[])]:List opS.D).length ∧
 ctCo.pre ((false,(0:Int),(4:Int),([((3:Int),(0:Int),(4:Int),(5:Int),[])]:List opS.D)),(false,(4:Int),(2:Int),([((1:Int),(0:Int),(2:Int),(0:Int),[])]:List opS.D)),()) ∧
 ctCo.pre ((false,(3:Int),(2:Int),([((1:Int),(1:Int),(2:Int),(0:Int),[])]:List opS.D)),(false,(4:Int),(2:Int),([((1:Int),(0:Int),(2:Int),(0:Int),[])]:List opS.D)),()) ∧
 ctAl.pre ([],()) ∧
 ctCo.pre ((false,(3:Int),(2:Int),([((1:Int),(1:Int),(2:Int),(0:Int),[])]:List opS.D)),(true,(2:Int),(2:Int),winL opS (0:Nat) (2:Nat) (((List.replicate (2:Nat) opS.dflt).set (0:Nat) ((1:Int),(1:Int),(1:Int),(0:Int),[])).set (1:Nat) ((3:Int),(0:Int),(1:Int),(9:Int),[]))),()) ∧
 0+(1:Nat)≤([(true,(0:Int),(0:Int))]:List syS.D).length ∧
 ctTh.pre ([],([(true,(0:Int),(0:Int))]:List syS.D),()) ∧
 0+(1:Nat)≤([(9:Int)]:List uB.D).length ∧
 0+(2:Nat)≤(((List.replicate (2:Nat) opS.dflt).set (0:Nat) ((1:Int),(2:Int),(1:Int),(0:Int),[])).set (1:Nat) ((4:Int),(0:Int),(1:Int),(0:Int),([(9:Int)]:List uB.D))).length ∧
 ctSm.pre (((coV (false,(3:Int),(2:Int),([((1:Int),(1:Int),(2:Int),(0:Int),[])]:List opS.D)) (false,(2:Int),(2:Int),winL opS (0:Nat) (2:Nat) (((List.replicate (2:Nat) opS.dflt).set (0:Nat) ((1:Int),(1:Int),(1:Int),(0:Int),[])).set (1:Nat) ((3:Int),(0:Int),(1:Int),(9:Int),[])))).1),(false,(3:Int),(2:Int),winL opS (0:Nat) (2:Nat) (((List.replicate (2:Nat) opS.dflt).set (0:Nat) ((1:Int),(2:Int),(1:Int),(0:Int),[])).set (1:Nat) ((4:Int),(0:Int),(1:Int),(0:Int),([(9:Int)]:List uB.D)))),()) ∧
 ctRw.pre ((2:Int),()) ∧
 ctSm.pre (((coV (false,(2:Int),(2:Int),([((2:Int),(0:Int),(2:Int),(0:Int),winL uB (0:Nat) (2:Nat) (((List.replicate (2:Nat) uB.dflt).set (0:Nat) (1:Int)).set (1:Nat) (2:Int)))]:List opS.D)) (false,(2:Int),(2:Int),([((2:Int),(0:Int),(2:Int),(0:Int),winL uB (0:Nat) (2:Nat) (((List.replicate (2:Nat) uB.dflt).set (0:Nat) (255:Int)).set (1:Nat) (254:Int)))]:List opS.D))).1),(rwV (2:Int)),()) ∧
 0+(1:Nat)≤([((3:Int),(0:Int),(2:Int),(5:Int),[])]:List opS.D).length ∧
 ctSm.pre (((coV (false,(0:Int),(4:Int),([((3:Int),(0:Int),(4:Int),(5:Int),[])]:List opS.D)) (false,(4:Int),(2:Int),([((1:Int),(0:Int),(2:Int),(0:Int),[])]:List opS.D))).1),(false,(0:Int),(2:Int),([((3:Int),(0:Int),(2:Int),(5:Int),[])]:List opS.D)),()) ∧
 Q [.bool (decide ((thV [] (([(true,(0:Int),(0:Int))]:List syS.D))).2=(61:Int)))] [(1,.var [.bool false,.int .i64 3,.int .i64 2,.sl opS (([((1:Int),(1:Int),(2:Int),(0:Int),[])]:List opS.D))]),(2,.var [.bool false,.int .i64 2,.int .i64 2,.sl opS (winL opS (0:Nat) (2:Nat) (((List.replicate (2:Nat) opS.dflt).set (0:Nat) ((1:Int),(1:Int),(1:Int),(0:Int),[])).set (1:Nat) ((3:Int),(0:Int),(1:Int),(9:Int),[])))]),(3,.var [.bool false,.int .i64 2,.int .i64 2,.sl opS (([((2:Int),(0:Int),(2:Int),(0:Int),winL uB (0:Nat) (2:Nat) (((List.replicate (2:Nat) uB.dflt).set (0:Nat) (1:Int)).set (1:Nat) (2:Int)))]:List opS.D))]),(4,.var [.bool false,.int .i64 2,.int .i64 2,.sl opS (([((2:Int),(0:Int),(2:Int),(0:Int),winL uB (0:Nat) (2:Nat) (((List.replicate (2:Nat) uB.dflt).set (0:Nat) (255:Int)).set (1:Nat) (254:Int)))]:List opS.D))]),(5,.var [.bool false,.int .i64 0,.int .i64 4,.sl opS (([((3:Int),(0:Int),(4:Int),(5:Int),[])]:List opS.D))]),(6,.var [.bool false,.int .i64 4,.int .i64 2,.sl opS (([((1:Int),(0:Int),(2:Int),(0:Int),[])]:List opS.D))]),(7,.var [.bool (coV (false,(3:Int),(2:Int),([((1:Int),(1:Int),(2:Int),(0:Int),[])]:List opS.D)) (false,(2:Int),(2:Int),winL opS (0:Nat) (2:Nat) (((List.replicate (2:Nat) opS.dflt).set (0:Nat) ((1:Int),(1:Int),(1:Int),(0:Int),[])).set (1:Nat) ((3:Int),(0:Int),(1:Int),(9:Int),[])))).1.1,.int .i64 (coV (false,(3:Int),(2:Int),([((1:Int),(1:Int),(2:Int),(0:Int),[])]:List opS.D)) (false,(2:Int),(2:Int),winL opS (0:Nat) (2:Nat) (((List.replicate (2:Nat) opS.dflt).set (0:Nat) ((1:Int),(1:Int),(1:Int),(0:Int),[])).set (1:Nat) ((3:Int),(0:Int),(1:Int),(9:Int),[])))).1.2.1,.int .i64 (coV (false,(3:Int),(2:Int),([((1:Int),(1:Int),(2:Int),(0:Int),[])]:List opS.D)) (false,(2:Int),(2:Int),winL opS (0:Nat) (2:Nat) (((List.replicate (2:Nat) opS.dflt).set (0:Nat) ((1:Int),(1:Int),(1:Int),(0:Int),[])).set (1:Nat) ((3:Int),(0:Int),(1:Int),(9:Int),[])))).1.2.2.1,.sl opS (coV (false,(3:Int),(2:Int),([((1:Int),(1:Int),(2:Int),(0:Int),[])]:List opS.D)) (false,(2:Int),(2:Int),winL opS (0:Nat) (2:Nat) (((List.replicate (2:Nat) opS.dflt).set (0:Nat) ((1:Int),(1:Int),(1:Int),(0:Int),[])).set (1:Nat) ((3:Int),(0:Int),(1:Int),(9:Int),[])))).1.2.2.2]),(9,.var [.bool (coV (false,(2:Int),(2:Int),([((2:Int),(0:Int),(2:Int),(0:Int),winL uB (0:Nat) (2:Nat) (((List.replicate (2:Nat) uB.dflt).set (0:Nat) (1:Int)).set (1:Nat) (2:Int)))]:List opS.D)) (false,(2:Int),(2:Int),([((2:Int),(0:Int),(2:Int),(0:Int),winL uB (0:Nat) (2:Nat) (((List.replicate (2:Nat) uB.dflt).set (0:Nat) (255:Int)).set (1:Nat) (254:Int)))]:List opS.D))).1.1,.int .i64 (coV (false,(2:Int),(2:Int),([((2:Int),(0:Int),(2:Int),(0:Int),winL uB (0:Nat) (2:Nat) (((List.replicate (2:Nat) uB.dflt).set (0:Nat) (1:Int)).set (1:Nat) (2:Int)))]:List opS.D)) (false,(2:Int),(2:Int),([((2:Int),(0:Int),(2:Int),(0:Int),winL uB (0:Nat) (2:Nat) (((List.replicate (2:Nat) uB.dflt).set (0:Nat) (255:Int)).set (1:Nat) (254:Int)))]:List opS.D))).1.2.1,.int .i64 (coV (false,(2:Int),(2:Int),([((2:Int),(0:Int),(2:Int),(0:Int),winL uB (0:Nat) (2:Nat) (((List.replicate (2:Nat) uB.dflt).set (0:Nat) (1:Int)).set (1:Nat) (2:Int)))]:List opS.D)) (false,(2:Int),(2:Int),([((2:Int),(0:Int),(2:Int),(0:Int),winL uB (0:Nat) (2:Nat) (((List.replicate (2:Nat) uB.dflt).set (0:Nat) (255:Int)).set (1:Nat) (254:Int)))]:List opS.D))).1.2.2.1,.sl opS (coV (false,(2:Int),(2:Int),([((2:Int),(0:Int),(2:Int),(0:Int),winL uB (0:Nat) (2:Nat) (((List.replicate (2:Nat) uB.dflt).set (0:Nat) (1:Int)).set (1:Nat) (2:Int)))]:List opS.D)) (false,(2:Int),(2:Int),([((2:Int),(0:Int),(2:Int),(0:Int),winL uB (0:Nat) (2:Nat) (((List.replicate (2:Nat) uB.dflt).set (0:Nat) (255:Int)).set (1:Nat) (254:Int)))]:List opS.D))).1.2.2.2]),(11,.var [.bool (coV (false,(0:Int),(4:Int),([((3:Int),(0:Int),(4:Int),(5:Int),[])]:List opS.D)) (false,(4:Int),(2:Int),([((1:Int),(0:Int),(2:Int),(0:Int),[])]:List opS.D))).1.1,.int .i64 (coV (false,(0:Int),(4:Int),([((3:Int),(0:Int),(4:Int),(5:Int),[])]:List opS.D)) (false,(4:Int),(2:Int),([((1:Int),(0:Int),(2:Int),(0:Int),[])]:List opS.D))).1.2.1,.int .i64 (coV (false,(0:Int),(4:Int),([((3:Int),(0:Int),(4:Int),(5:Int),[])]:List opS.D)) (false,(4:Int),(2:Int),([((1:Int),(0:Int),(2:Int),(0:Int),[])]:List opS.D))).1.2.2.1,.sl opS (coV (false,(0:Int),(4:Int),([((3:Int),(0:Int),(4:Int),(5:Int),[])]:List opS.D)) (false,(4:Int),(2:Int),([((1:Int),(0:Int),(2:Int),(0:Int),[])]:List opS.D))).1.2.2.2]),(13,.var [.bool (coV (false,(3:Int),(2:Int),([((1:Int),(1:Int),(2:Int),(0:Int),[])]:List opS.D)) (false,(4:Int),(2:Int),([((1:Int),(0:Int),(2:Int),(0:Int),[])]:List opS.D))).1.1,.int .i64 (coV (false,(3:Int),(2:Int),([((1:Int),(1:Int),(2:Int),(0:Int),[])]:List opS.D)) (false,(4:Int),(2:Int),([((1:Int),(0:Int),(2:Int),(0:Int),[])]:List opS.D))).1.2.1,.int .i64 (coV (false,(3:Int),(2:Int),([((1:Int),(1:Int),(2:Int),(0:Int),[])]:List opS.D)) (false,(4:Int),(2:Int),([((1:Int),(0:Int),(2:Int),(0:Int),[])]:List opS.D))).1.2.2.1,.sl opS (coV (false,(3:Int),(2:Int),([((1:Int),(1:Int),(2:Int),(0:Int),[])]:List opS.D)) (false,(4:Int),(2:Int),([((1:Int),(0:Int),(2:Int),(0:Int),[])]:List opS.D))).1.2.2.2]),(15,.var [.bool (allV []).1.1,.int .i64 (allV []).1.2.1,.int .i64 (allV []).1.2.2.1,.sl opS (allV []).1.2.2.2]),(17,.var [.bool true,.int .i64 2,.int .i64 2,.sl opS (winL opS (0:Nat) (2:Nat) (((List.replicate (2:Nat) opS.dflt).set (0:Nat) ((1:Int),(1:Int),(1:Int),(0:Int),[])).set (1:Nat) ((3:Int),(0:Int),(1:Int),(9:Int),[])))]),(18,.var [.bool (coV (false,(3:Int),(2:Int),([((1:Int),(1:Int),(2:Int),(0:Int),[])]:List opS.D)) (true,(2:Int),(2:Int),winL opS (0:Nat) (2:Nat) (((List.replicate (2:Nat) opS.dflt).set (0:Nat) ((1:Int),(1:Int),(1:Int),(0:Int),[])).set (1:Nat) ((3:Int),(0:Int),(1:Int),(9:Int),[])))).1.1,.int .i64 (coV (false,(3:Int),(2:Int),([((1:Int),(1:Int),(2:Int),(0:Int),[])]:List opS.D)) (true,(2:Int),(2:Int),winL opS (0:Nat) (2:Nat) (((List.replicate (2:Nat) opS.dflt).set (0:Nat) ((1:Int),(1:Int),(1:Int),(0:Int),[])).set (1:Nat) ((3:Int),(0:Int),(1:Int),(9:Int),[])))).1.2.1,.int .i64 (coV (false,(3:Int),(2:Int),([((1:Int),(1:Int),(2:Int),(0:Int),[])]:List opS.D)) (true,(2:Int),(2:Int),winL opS (0:Nat) (2:Nat) (((List.replicate (2:Nat) opS.dflt).set (0:Nat) ((1:Int),(1:Int),(1:Int),(0:Int),[])).set (1:Nat) ((3:Int),(0:Int),(1:Int),(9:Int),[])))).1.2.2.1,.sl opS (coV (false,(3:Int),(2:Int),([((1:Int),(1:Int),(2:Int),(0:Int),[])]:List opS.D)) (true,(2:Int),(2:Int),winL opS (0:Nat) (2:Nat) (((List.replicate (2:Nat) opS.dflt).set (0:Nat) ((1:Int),(1:Int),(1:Int),(0:Int),[])).set (1:Nat) ((3:Int),(0:Int),(1:Int),(9:Int),[])))).1.2.2.2]),(82,.row 66 syS ([(true,(0:Int),(0:Int))]:List syS.D)),(114,.row 69 opS ([((3:Int),(0:Int),(2:Int),(5:Int),[])]:List opS.D)),(1339968,.row 66 syS (thV [] (([(true,(0:Int),(0:Int))]:List syS.D))).1)]):=by kernel_rfl
end Go.Proofs.YticpkibnhakgbaaDoor
namespace Go.Proofs.YticpkibnhakgbaaDoor
open Go.Px Go.Ax
set_option maxRecDepth 100000
attribute [local irreducible] Go.Px.sy Go.Px.syE
def ctSn9:Ctr:=⟨[],fun _=>True,fun _=>[.bool true],fun _=>[]⟩
theorem csan_run (R:List Item→PS→Prop):sy tt G0 CSc Tryd.f9.ntmps Tryd.f9.results.toList (QC ctSn9 ()) R 1000 [.code (bodyOf Tryd.f9)] (entry [] ()):=by
 refine (vc_csan _ _).mpr ?_
 repeat' first
  | exact trivial
  | (show List.length _<1000000;decide +kernel)
  | (show List.length _<16777216;decide +kernel)
  | (show List.length _<1099511627776;decide +kernel)
  | decide +kernel
  | refine And.intro ?_ ?_
  | (refine QC.flat ?_ rfl rfl)
  | (refine congrArg (fun b=>[SV.bool b]) ?_;decide +kernel)
theorem csan_held:Held Tryd.prog G0 9 ctSn9:=Held.run cxSc (fn:=Tryd.f9) rfl rfl ⟨by decide,by decide⟩ fun x _=>csan_run _
end Go.Proofs.YticpkibnhakgbaaDoor
namespace Go.Proofs.YticpkibnhakgbaaDoor
open Go.Px Go.Ax
set_option maxRecDepth 100000
set_option maxRecDepth 100000
end Go.Proofs.YticpkibnhakgbaaDoor
namespace Go.Proofs.YticpkibnhakgbaaDoor
open Go.Px Go.Ax
set_option maxRecDepth 100000
structure Fit (p:PaT) (t:List PaT):Prop where
 ok:(chkV p).2=0
 li:p.1=false
 out:p.2.2.1≤4096
 ch:chn false p.2.2.1 t
 by0:byL (symF p.2.2.2)
 by1:∀ q∈t,byL (symF q.2.2.2)
 len:t.length≤3
 in_:0≤p.2.1∧p.2.1≤12
theorem ch_ops {m:Int} {s:List SyT} (hr:∀ x∈s,sOK m x=true) (h0:0≤m) (h1:m≤65536) (hl:s.length≤4096):(chL s).length≤4096:=(poV_ok hr h0 h1 hl).2.2.2.2.1
theorem Fit.all {p:PaT} {t:List PaT} (h:Fit p t):allV (p::t)=(nfP false p.2.1 (syC (symF p.2.2.2) t),0)∧(∀ x∈syC (symF p.2.2.2) t,sOK p.2.1 x=true)∧(syC (symF p.2.2.2) t).length≤4096∧(chL (syC (symF p.2.2.2) t)).length≤4096:=by
 have ha:=all_nf h.ok h.out (by rw[h.li];exact h.ch)
 obtain ⟨r1,r2,r3⟩:=sy_right h.ok
 have ho:=h.out
 obtain ⟨k1,k2⟩:=syC_ok (m:=p.2.1) (li:=false) (l:=t) r1 (by omega) (by rw[r3];exact h.ch)
 rw[h.li] at ha
 exact ⟨ha,k1,k2,ch_ops k1 r2.1 r2.2 k2⟩
end Go.Proofs.YticpkibnhakgbaaDoor
namespace Go.Proofs.YticpkibnhakgbaaDoor
open Go.Px Go.Ax
def u8L (b:List Int):Prop:=∀ j,0≤gtB b j∧gtB b j<256
theorem u8_wf {n:Int} (h:wfD uB n):0≤n∧n<256:=by
 have h:(Lit.int IntKind.u8 n).wf=true:=h
 simp[Lit.wf,IntKind.min,IntKind.max,IntKind.signed,IntKind.bits] at h
 omega
theorem u8_of {l:List Int} (h:∀ x∈l,wfD uB x):u8L l:=fun j=>by
 by_cases hj:j<l.length
 ·rw[gtB_at hj];exact u8_wf (h _ (List.getElem_mem hj))
 ·have:gtB l j=0:=by
   show gt uB _ _=_
   unfold gt
   rw[List.getElem?_eq_none (by omega)];rfl
  rw[this];decide
theorem l4_of {l:List (List Int)} (h:∀ x∈l,wfD a4S x):preL4 l:=fun j=>by
 by_cases hj:j<l.length
 ·have e:gt a4S l j=l[j]:=gtE (e:=a4S) hj
  rw[e]
  exact u8_of (h _ (List.getElem_mem hj)).2
 ·have:gt a4S l j=List.replicate 4 (0:Int):=by
   unfold gt
   rw[List.getElem?_eq_none (by omega)];rfl
  rw[this]
  exact u8_of fun x hx=>by
   rw[List.eq_of_mem_replicate hx];rfl
theorem m6_of {x:Int × List (List Int)} (h:wfD raS x):preM6 x.1 x.2:=⟨u8_wf h.1,l4_of h.2.2,h.2.1⟩
theorem G_get {g:Nat} {x:ABlk} (h:rawG.get g=some x):g=0∧x=.cells costCells 118 2:=by
 unfold rawG T.get at h
 split at h
 ·rename_i e;cases h;exact ⟨e,rfl⟩
 ·split at h <;> (simp[T.get] at h)
theorem hG:Glob G0.raw:=⟨fun g x h=>by rw[(G_get h).1];decide,fun g x h=>by rw[(G_get h).2];decide⟩
abbrev H0:AHeap:=⟨nglob,G0.raw⟩
def Z0:Nat→Option ABlk:=fun g=>rawG.get g
theorem gz0:GZ Z0 G0:=by
 refine ⟨fun g x e=>?_,fun g x e=>e⟩
 simp only[G0,lk] at e
 split at e
 ·rename_i h;subst h;cases e
  refine ⟨by decide,fun ν=>⟨0,0,costCells,118,2,rfl,rfl,by decide,?_⟩⟩
  exact rv_of (.arr 5 coS) costsL ⟨rfl,fun x _=>⟨trivial,trivial⟩⟩
 ·cases e
theorem fro0:Px.Fro G0 H0:=⟨fun i x h=>by rw[(G_get h).2];rfl,fun i x h=>by rw[(G_get h).2];trivial,fun i x h=>by rw[(G_get h).1];decide,gz0⟩
end Go.Proofs.YticpkibnhakgbaaDoor
namespace Go.Proofs.YticpkibnhakgbaaDoor
open Go.Px Go.Ax
end Go.Proofs.YticpkibnhakgbaaDoor
namespace Go.Proofs.YticpkibnhakgbaaDoor
open Go.Px Go.Ax
set_option maxRecDepth 100000
attribute [local irreducible] Go.Px.sy Go.Px.syE
end Go.Proofs.YticpkibnhakgbaaDoor
namespace Go.Proofs.YticpkibnhakgbaaDoor
open Go.Px Go.Ax
set_option maxRecDepth 100000
def preLe (m:Nat) (l:List SyT):Prop:=l.length<m∧l.length≤65536∧∃ a:Int,a<16777216∧∀ s∈l,sOK a s=true
def ctLe (m:Nat):Ctr:=⟨[.sl syS],fun x=>preLe m x.1,fun x=>[.int .i64 (cst x.1)],fun _=>[]⟩
def CLe (m:Nat):CV:=[(44,.inl ctFt),(45,.inl ctPr),(27,.inl (ctLe m))]
set_option maxRecDepth 100000
end Go.Proofs.YticpkibnhakgbaaDoor
namespace Go.Proofs.YticpkibnhakgbaaDoor
open Go.Px Go.Ax
set_option maxRecDepth 100000
attribute [local irreducible] Go.Px.sy Go.Px.syE
section
variable (m:Nat) (cx:CxOK Tryd.prog tt G0 (CLe m)) (l:List SyT) (hp:preLe (m+1) l) (h0:l≠[])
include cx hp h0
end
end Go.Proofs.YticpkibnhakgbaaDoor
namespace Go.Proofs.YticpkibnhakgbaaDoor
open Go.Px Go.Ax
set_option maxRecDepth 100000
def CL8:CV:=[(9,.inl ctSn9),(21,.inl ctM6),(23,.inl ctSz),(14,.inl ctCo),(11,.inl ctAl),(17,.inl ctTh)]
theorem cxL8:CxOK Tryd.prog tt G0 CL8:=(((((cx0.cons th_held (fn:=Tryd.f17) rfl rfl rfl).cons all_held (fn:=Tryd.f11) rfl rfl rfl).cons co_held (fn:=Tryd.f14) rfl rfl rfl).cons sz_held (fn:=Tryd.f23) rfl rfl rfl).cons made6_held (fn:=Tryd.f21) rfl rfl rfl).cons csan_held (fn:=Tryd.f9) rfl rfl rfl
abbrev w3B:Sh:=.arr 3 .bool
set_option maxRecDepth 100000
def mem_l8_000_m0 (x:List RaT) (k:Int):List (Nat × LB):=[(3,.var [.arr (2:Nat) raS x]),(4,.var [.arr (3:Nat) Sh.bool [false,false,false]]),(8,.var [.bool (szV (gtR x (0)).2 ((gtR x (0)).1 % (13:Int))).1,.int .i64 (szV (gtR x (0)).2 ((gtR x (0)).1 % (13:Int))).2.1,.int .i64 (szV (gtR x (0)).2 ((gtR x (0)).1 % (13:Int))).2.2.1,.sl opS (szV (gtR x (0)).2 ((gtR x (0)).1 % (13:Int))).2.2.2]),(9,.var [.bool (szV (gtR x (1)).2 (szV (gtR x (0)).2 ((gtR x (0)).1 % (13:Int))).2.2.1).1,.int .i64 (szV (gtR x (1)).2 (szV (gtR x (0)).2 ((gtR x (0)).1 % (13:Int))).2.2.1).2.1,.int .i64 (szV (gtR x (1)).2 (szV (gtR x (0)).2 ((gtR x (0)).1 % (13:Int))).2.2.1).2.2.1,.sl opS (szV (gtR x (1)).2 (szV (gtR x (0)).2 ((gtR x (0)).1 % (13:Int))).2.2.1).2.2.2]),(11,.var [.bool (coV (szV (gtR x (0)).2 ((gtR x (0)).1 % (13:Int))) (szV (gtR x (1)).2 (szV (gtR x (0)).2 ((gtR x (0)).1 % (13:Int))).2.2.1)).1.1,.int .i64 (coV (szV (gtR x (0)).2 ((gtR x (0)).1 % (13:Int))) (szV (gtR x (1)).2 (szV (gtR x (0)).2 ((gtR x (0)).1 % (13:Int))).2.2.1)).1.2.1,.int .i64 (coV (szV (gtR x (0)).2 ((gtR x (0)).1 % (13:Int))) (szV (gtR x (1)).2 (szV (gtR x (0)).2 ((gtR x (0)).1 % (13:Int))).2.2.1)).1.2.2.1,.sl opS (coV (szV (gtR x (0)).2 ((gtR x (0)).1 % (13:Int))) (szV (gtR x (1)).2 (szV (gtR x (0)).2 ((gtR x (0)).1 % (13:Int))).2.2.1)).1.2.2.2]),(13,.var [.bool (allV (winL paS (0:Nat) (2:Nat) (((List.replicate (2:Nat) paS.dflt).set (0:Nat) (szV (gtR x (0)).2 ((gtR x (0)).1 % (13:Int)))).set (1:Nat) (szV (gtR x (1)).2 (szV (gtR x (0)).2 ((gtR x (0)).1 % (13:Int))).2.2.1)))).1.1,.int .i64 (allV (winL paS (0:Nat) (2:Nat) (((List.replicate (2:Nat) paS.dflt).set (0:Nat) (szV (gtR x (0)).2 ((gtR x (0)).1 % (13:Int)))).set (1:Nat) (szV (gtR x (1)).2 (szV (gtR x (0)).2 ((gtR x (0)).1 % (13:Int))).2.2.1)))).1.2.1,.int .i64 (allV (winL paS (0:Nat) (2:Nat) (((List.replicate (2:Nat) paS.dflt).set (0:Nat) (szV (gtR x (0)).2 ((gtR x (0)).1 % (13:Int)))).set (1:Nat) (szV (gtR x (1)).2 (szV (gtR x (0)).2 ((gtR x (0)).1 % (13:Int))).2.2.1)))).1.2.2.1,.sl opS (allV (winL paS (0:Nat) (2:Nat) (((List.replicate (2:Nat) paS.dflt).set (0:Nat) (szV (gtR x (0)).2 ((gtR x (0)).1 % (13:Int)))).set (1:Nat) (szV (gtR x (1)).2 (szV (gtR x (0)).2 ((gtR x (0)).1 % (13:Int))).2.2.1)))).1.2.2.2]),(57,.row 66 syS (List.replicate (9) syS.dflt)),(62,.row 66 syS (((List.replicate (2:Nat) syS.dflt).set (0:Nat) (false,(0:Int),(1:Int))).set (1:Nat) (true,IntKind.i64.wrap k,(0:Int)))),(1258048,.row 66 syS (thV (winL syS 0 (9) (List.replicate (9) syS.dflt)) (winL syS (0:Nat) (2:Nat) (((List.replicate (2:Nat) syS.dflt).set (0:Nat) (false,(0:Int),(1:Int))).set (1:Nat) (true,IntKind.i64.wrap k,(0:Int))))).1)]
theorem vc_l8_000 (x:List RaT) (k:Int) (Q:QT) (R:RT):sy tt G0 CL8 Tryd.f8.ntmps Tryd.f8.results.toList Q R 1000 [.code (bodyOf Tryd.f8)] (entry [.arr 2 raS,w3B,.int .i8] (x,[false,false,false],k,())) =
  (ctSn9.pre () ∧
 (0:Int)≤(0:Int) ∧
 (0:Int)<(↑(2:Nat):Int) ∧
 0<(2:Nat) ∧
 ctM6.pre (((gtR x (0)).1,(gtR x (0)).2),()) ∧
 (0:Int)≤(1:Int) ∧
 (1:Int)<(↑(2:Nat):Int) ∧
 1<(2:Nat) ∧
 ctSz.pre (((gtR x (1)).1,(gtR x (1)).2),(szV (gtR x (0)).2 ((gtR x (0)).1 % (13:Int))).2.2.1,()) ∧
 (0:Int)≤(2:Int) ∧
 (2:Int)<(↑(3:Nat):Int) ∧
 2<(3:Nat) ∧
 (0:Int)≤(1:Int) ∧
 (1:Int)<(↑(3:Nat):Int) ∧
 1<(3:Nat) ∧
 (0:Int)≤(0:Int) ∧
 (0:Int)<(↑(3:Nat):Int) ∧
 0<(3:Nat) ∧
 ctCo.pre ((szV (gtR x (0)).2 ((gtR x (0)).1 % (13:Int))),(szV (gtR x (1)).2 (szV (gtR x (0)).2 ((gtR x (0)).1 % (13:Int))).2.2.1),()) ∧
 0+(2:Nat)≤(((List.replicate (2:Nat) paS.dflt).set (0:Nat) (szV (gtR x (0)).2 ((gtR x (0)).1 % (13:Int)))).set (1:Nat) (szV (gtR x (1)).2 (szV (gtR x (0)).2 ((gtR x (0)).1 % (13:Int))).2.2.1)).length ∧
 ctAl.pre (winL paS (0:Nat) (2:Nat) (((List.replicate (2:Nat) paS.dflt).set (0:Nat) (szV (gtR x (0)).2 ((gtR x (0)).1 % (13:Int)))).set (1:Nat) (szV (gtR x (1)).2 (szV (gtR x (0)).2 ((gtR x (0)).1 % (13:Int))).2.2.1)),()) ∧
 (0:Int)≤(9:Int) ∧
 (9:Int)≤(9:Int) ∧
 (9:Int)<(2:Int) ^ (24:Nat) ∧
 (↑(24:Nat):Int)*(9:Int)≤(2:Int) ^ (48:Nat) ∧
 0+9≤(List.replicate (9) syS.dflt).length ∧
 0+(2:Nat)≤(((List.replicate (2:Nat) syS.dflt).set (0:Nat) (false,(0:Int),(1:Int))).set (1:Nat) (true,IntKind.i64.wrap k,(0:Int))).length ∧
 ctTh.pre (winL syS 0 (9) (List.replicate (9) syS.dflt),winL syS (0:Nat) (2:Nat) (((List.replicate (2:Nat) syS.dflt).set (0:Nat) (false,(0:Int),(1:Int))).set (1:Nat) (true,IntKind.i64.wrap k,(0:Int))),()) ∧
 bc (decide ((coV (szV (gtR x (0)).2 ((gtR x (0)).1 % (13:Int))) (szV (gtR x (1)).2 (szV (gtR x (0)).2 ((gtR x (0)).1 % (13:Int))).2.2.1)).2=(0:Int))) (bc (decide ((allV (winL paS (0:Nat) (2:Nat) (((List.replicate (2:Nat) paS.dflt).set (0:Nat) (szV (gtR x (0)).2 ((gtR x (0)).1 % (13:Int)))).set (1:Nat) (szV (gtR x (1)).2 (szV (gtR x (0)).2 ((gtR x (0)).1 % (13:Int))).2.2.1)))).2=(0:Int))) (bc (decide ((0:Int)≤k)) (bc (bif true then decide ((thV (winL syS 0 (9) (List.replicate (9) syS.dflt)) (winL syS (0:Nat) (2:Nat) (((List.replicate (2:Nat) syS.dflt).set (0:Nat) (false,(0:Int),(1:Int))).set (1:Nat) (true,IntKind.i64.wrap k,(0:Int))))).2=(0:Int)) == bif true then decide (k<(9:Int)) else false else false) (bc (decide ((thV (winL syS 0 (9) (List.replicate (9) syS.dflt)) (winL syS (0:Nat) (2:Nat) (((List.replicate (2:Nat) syS.dflt).set (0:Nat) (false,(0:Int),(1:Int))).set (1:Nat) (true,IntKind.i64.wrap k,(0:Int))))).2=(0:Int))) (true=true ∧
 Q [.bool true] (mem_l8_000_m0 x k)) (bc (decide ((thV (winL syS 0 (9) (List.replicate (9) syS.dflt)) (winL syS (0:Nat) (2:Nat) (((List.replicate (2:Nat) syS.dflt).set (0:Nat) (false,(0:Int),(1:Int))).set (1:Nat) (true,IntKind.i64.wrap k,(0:Int))))).2=(61:Int))) (Q [.bool true] (mem_l8_000_m0 x k)) (false=false ∧
 Q [.bool false] (mem_l8_000_m0 x k)))) (false=false ∧
 false=false ∧
 Q [.bool false] (mem_l8_000_m0 x k))) (false=false ∧
 bc (bif true then decide ((thV (winL syS 0 (9) (List.replicate (9) syS.dflt)) (winL syS (0:Nat) (2:Nat) (((List.replicate (2:Nat) syS.dflt).set (0:Nat) (false,(0:Int),(1:Int))).set (1:Nat) (true,IntKind.i64.wrap k,(0:Int))))).2=(0:Int)) == false else false) (bc (decide ((thV (winL syS 0 (9) (List.replicate (9) syS.dflt)) (winL syS (0:Nat) (2:Nat) (((List.replicate (2:Nat) syS.dflt).set (0:Nat) (false,(0:Int),(1:Int))).set (1:Nat) (true,IntKind.i64.wrap k,(0:Int))))).2=(0:Int))) (true=true ∧
 Q [.bool true] (mem_l8_000_m0 x k)) (bc (decide ((thV (winL syS 0 (9) (List.replicate (9) syS.dflt)) (winL syS (0:Nat) (2:Nat) (((List.replicate (2:Nat) syS.dflt).set (0:Nat) (false,(0:Int),(1:Int))).set (1:Nat) (true,IntKind.i64.wrap k,(0:Int))))).2=(61:Int))) (Q [.bool true] (mem_l8_000_m0 x k)) (false=false ∧
 Q [.bool false] (mem_l8_000_m0 x k)))) (false=false ∧
 false=false ∧
 Q [.bool false] (mem_l8_000_m0 x k)))) (false=false ∧
 false=false ∧
 false=false ∧
 Q [.bool false] (mem_l8_000_m0 x k))) (false=false ∧
 false=false ∧
 false=false ∧
 false=false ∧
 Q [.bool false] (mem_l8_000_m0 x k))):=by kernel_rfl
def mem_l8_001_m0 (x:List RaT) (k:Int):List (Nat × LB):=[(3,.var [.arr (2:Nat) raS x]),(4,.var [.arr (3:Nat) Sh.bool [false,false,true]]),(8,.var [.bool (szV (gtR x (0)).2 ((gtR x (0)).1 % (13:Int))).1,.int .i64 (szV (gtR x (0)).2 ((gtR x (0)).1 % (13:Int))).2.1,.int .i64 (szV (gtR x (0)).2 ((gtR x (0)).1 % (13:Int))).2.2.1,.sl opS (szV (gtR x (0)).2 ((gtR x (0)).1 % (13:Int))).2.2.2]),(9,.var [.bool (szV (gtR x (1)).2 (IntKind.i64.wrap ((szV (gtR x (0)).2 ((gtR x (0)).1 % (13:Int))).2.2.1+(1:Int)))).1,.int .i64 (szV (gtR x (1)).2 (IntKind.i64.wrap ((szV (gtR x (0)).2 ((gtR x (0)).1 % (13:Int))).2.2.1+(1:Int)))).2.1,.int .i64 (szV (gtR x (1)).2 (IntKind.i64.wrap ((szV (gtR x (0)).2 ((gtR x (0)).1 % (13:Int))).2.2.1+(1:Int)))).2.2.1,.sl opS (szV (gtR x (1)).2 (IntKind.i64.wrap ((szV (gtR x (0)).2 ((gtR x (0)).1 % (13:Int))).2.2.1+(1:Int)))).2.2.2]),(11,.var [.bool (coV (szV (gtR x (0)).2 ((gtR x (0)).1 % (13:Int))) (szV (gtR x (1)).2 (IntKind.i64.wrap ((szV (gtR x (0)).2 ((gtR x (0)).1 % (13:Int))).2.2.1+(1:Int))))).1.1,.int .i64 (coV (szV (gtR x (0)).2 ((gtR x (0)).1 % (13:Int))) (szV (gtR x (1)).2 (IntKind.i64.wrap ((szV (gtR x (0)).2 ((gtR x (0)).1 % (13:Int))).2.2.1+(1:Int))))).1.2.1,.int .i64 (coV (szV (gtR x (0)).2 ((gtR x (0)).1 % (13:Int))) (szV (gtR x (1)).2 (IntKind.i64.wrap ((szV (gtR x (0)).2 ((gtR x (0)).1 % (13:Int))).2.2.1+(1:Int))))).1.2.2.1,.sl opS (coV (szV (gtR x (0)).2 ((gtR x (0)).1 % (13:Int))) (szV (gtR x (1)).2 (IntKind.i64.wrap ((szV (gtR x (0)).2 ((gtR x (0)).1 % (13:Int))).2.2.1+(1:Int))))).1.2.2.2]),(13,.var [.bool (allV (winL paS (0:Nat) (2:Nat) (((List.replicate (2:Nat) paS.dflt).set (0:Nat) (szV (gtR x (0)).2 ((gtR x (0)).1 % (13:Int)))).set (1:Nat) (szV (gtR x (1)).2 (IntKind.i64.wrap ((szV (gtR x (0)).2 ((gtR x (0)).1 % (13:Int))).2.2.1+(1:Int))))))).1.1,.int .i64 (allV (winL paS (0:Nat) (2:Nat) (((List.replicate (2:Nat) paS.dflt).set (0:Nat) (szV (gtR x (0)).2 ((gtR x (0)).1 % (13:Int)))).set (1:Nat) (szV (gtR x (1)).2 (IntKind.i64.wrap ((szV (gtR x (0)).2 ((gtR x (0)).1 % (13:Int))).2.2.1+(1:Int))))))).1.2.1,.int .i64 (allV (winL paS (0:Nat) (2:Nat) (((List.replicate (2:Nat) paS.dflt).set (0:Nat) (szV (gtR x (0)).2 ((gtR x (0)).1 % (13:Int)))).set (1:Nat) (szV (gtR x (1)).2 (IntKind.i64.wrap ((szV (gtR x (0)).2 ((gtR x (0)).1 % (13:Int))).2.2.1+(1:Int))))))).1.2.2.1,.sl opS (allV (winL paS (0:Nat) (2:Nat) (((List.replicate (2:Nat) paS.dflt).set (0:Nat) (szV (gtR x (0)).2 ((gtR x (0)).1 % (13:Int)))).set (1:Nat) (szV (gtR x (1)).2 (IntKind.i64.wrap ((szV (gtR x (0)).2 ((gtR x (0)).1 % (13:Int))).2.2.1+(1:Int))))))).1.2.2.2]),(57,.row 66 syS (List.replicate (9) syS.dflt)),(62,.row 66 syS (((List.replicate (2:Nat) syS.dflt).set (0:Nat) (false,(0:Int),(1:Int))).set (1:Nat) (true,IntKind.i64.wrap k,(0:Int)))),(1258048,.row 66 syS (thV (winL syS 0 (9) (List.replicate (9) syS.dflt)) (winL syS (0:Nat) (2:Nat) (((List.replicate (2:Nat) syS.dflt).set (0:Nat) (false,(0:Int),(1:Int))).set (1:Nat) (true,IntKind.i64.wrap k,(0:Int))))).1)]
theorem vc_l8_001 (x:List RaT) (k:Int) (Q:QT) (R:RT):sy tt G0 CL8 Tryd.f8.ntmps Tryd.f8.results.toList Q R 1000 [.code (bodyOf Tryd.f8)] (entry [.arr 2 raS,w3B,.int .i8] (x,[false,false,true],k,())) =
  (ctSn9.pre () ∧
 (0:Int)≤(0:Int) ∧
 (0:Int)<(↑(2:Nat):Int) ∧
 0<(2:Nat) ∧
 ctM6.pre (((gtR x (0)).1,(gtR x (0)).2),()) ∧
 (0:Int)≤(1:Int) ∧
 (1:Int)<(↑(2:Nat):Int) ∧
 1<(2:Nat) ∧
 ctSz.pre (((gtR x (1)).1,(gtR x (1)).2),(szV (gtR x (0)).2 ((gtR x (0)).1 % (13:Int))).2.2.1,()) ∧
 (0:Int)≤(2:Int) ∧
 (2:Int)<(↑(3:Nat):Int) ∧
 2<(3:Nat) ∧
 (0:Int)≤(1:Int) ∧
 (1:Int)<(↑(2:Nat):Int) ∧
 1<(2:Nat) ∧
 ctSz.pre (((gtR x (1)).1,(gtR x (1)).2),IntKind.i64.wrap ((szV (gtR x (0)).2 ((gtR x (0)).1 % (13:Int))).2.2.1+(1:Int)),()) ∧
 (0:Int)≤(1:Int) ∧
 (1:Int)<(↑(3:Nat):Int) ∧
 1<(3:Nat) ∧
 (0:Int)≤(0:Int) ∧
 (0:Int)<(↑(3:Nat):Int) ∧
 0<(3:Nat) ∧
 ctCo.pre ((szV (gtR x (0)).2 ((gtR x (0)).1 % (13:Int))),(szV (gtR x (1)).2 (IntKind.i64.wrap ((szV (gtR x (0)).2 ((gtR x (0)).1 % (13:Int))).2.2.1+(1:Int)))),()) ∧
 0+(2:Nat)≤(((List.replicate (2:Nat) paS.dflt).set (0:Nat) (szV (gtR x (0)).2 ((gtR x (0)).1 % (13:Int)))).set (1:Nat) (szV (gtR x (1)).2 (IntKind.i64.wrap ((szV (gtR x (0)).2 ((gtR x (0)).1 % (13:Int))).2.2.1+(1:Int))))).length ∧
 ctAl.pre (winL paS (0:Nat) (2:Nat) (((List.replicate (2:Nat) paS.dflt).set (0:Nat) (szV (gtR x (0)).2 ((gtR x (0)).1 % (13:Int)))).set (1:Nat) (szV (gtR x (1)).2 (IntKind.i64.wrap ((szV (gtR x (0)).2 ((gtR x (0)).1 % (13:Int))).2.2.1+(1:Int))))),()) ∧
 (0:Int)≤(9:Int) ∧
 (9:Int)≤(9:Int) ∧
 (9:Int)<(2:Int) ^ (24:Nat) ∧
 (↑(24:Nat):Int)*(9:Int)≤(2:Int) ^ (48:Nat) ∧
 0+9≤(List.replicate (9) syS.dflt).length ∧
 0+(2:Nat)≤(((List.replicate (2:Nat) syS.dflt).set (0:Nat) (false,(0:Int),(1:Int))).set (1:Nat) (true,IntKind.i64.wrap k,(0:Int))).length ∧
 ctTh.pre (winL syS 0 (9) (List.replicate (9) syS.dflt),winL syS (0:Nat) (2:Nat) (((List.replicate (2:Nat) syS.dflt).set (0:Nat) (false,(0:Int),(1:Int))).set (1:Nat) (true,IntKind.i64.wrap k,(0:Int))),()) ∧
 bc (decide ((coV (szV (gtR x (0)).2 ((gtR x (0)).1 % (13:Int))) (szV (gtR x (1)).2 (IntKind.i64.wrap ((szV (gtR x (0)).2 ((gtR x (0)).1 % (13:Int))).2.2.1+(1:Int))))).2=(61:Int))) (bc (decide ((allV (winL paS (0:Nat) (2:Nat) (((List.replicate (2:Nat) paS.dflt).set (0:Nat) (szV (gtR x (0)).2 ((gtR x (0)).1 % (13:Int)))).set (1:Nat) (szV (gtR x (1)).2 (IntKind.i64.wrap ((szV (gtR x (0)).2 ((gtR x (0)).1 % (13:Int))).2.2.1+(1:Int))))))).2=(61:Int))) (bc (decide ((0:Int)≤k)) (bc (bif true then decide ((thV (winL syS 0 (9) (List.replicate (9) syS.dflt)) (winL syS (0:Nat) (2:Nat) (((List.replicate (2:Nat) syS.dflt).set (0:Nat) (false,(0:Int),(1:Int))).set (1:Nat) (true,IntKind.i64.wrap k,(0:Int))))).2=(0:Int)) == bif true then decide (k<(9:Int)) else false else false) (bc (decide ((thV (winL syS 0 (9) (List.replicate (9) syS.dflt)) (winL syS (0:Nat) (2:Nat) (((List.replicate (2:Nat) syS.dflt).set (0:Nat) (false,(0:Int),(1:Int))).set (1:Nat) (true,IntKind.i64.wrap k,(0:Int))))).2=(0:Int))) (true=true ∧
 Q [.bool true] (mem_l8_001_m0 x k)) (bc (decide ((thV (winL syS 0 (9) (List.replicate (9) syS.dflt)) (winL syS (0:Nat) (2:Nat) (((List.replicate (2:Nat) syS.dflt).set (0:Nat) (false,(0:Int),(1:Int))).set (1:Nat) (true,IntKind.i64.wrap k,(0:Int))))).2=(61:Int))) (Q [.bool true] (mem_l8_001_m0 x k)) (false=false ∧
 Q [.bool false] (mem_l8_001_m0 x k)))) (false=false ∧
 false=false ∧
 Q [.bool false] (mem_l8_001_m0 x k))) (false=false ∧
 bc (bif true then decide ((thV (winL syS 0 (9) (List.replicate (9) syS.dflt)) (winL syS (0:Nat) (2:Nat) (((List.replicate (2:Nat) syS.dflt).set (0:Nat) (false,(0:Int),(1:Int))).set (1:Nat) (true,IntKind.i64.wrap k,(0:Int))))).2=(0:Int)) == false else false) (bc (decide ((thV (winL syS 0 (9) (List.replicate (9) syS.dflt)) (winL syS (0:Nat) (2:Nat) (((List.replicate (2:Nat) syS.dflt).set (0:Nat) (false,(0:Int),(1:Int))).set (1:Nat) (true,IntKind.i64.wrap k,(0:Int))))).2=(0:Int))) (true=true ∧
 Q [.bool true] (mem_l8_001_m0 x k)) (bc (decide ((thV (winL syS 0 (9) (List.replicate (9) syS.dflt)) (winL syS (0:Nat) (2:Nat) (((List.replicate (2:Nat) syS.dflt).set (0:Nat) (false,(0:Int),(1:Int))).set (1:Nat) (true,IntKind.i64.wrap k,(0:Int))))).2=(61:Int))) (Q [.bool true] (mem_l8_001_m0 x k)) (false=false ∧
 Q [.bool false] (mem_l8_001_m0 x k)))) (false=false ∧
 false=false ∧
 Q [.bool false] (mem_l8_001_m0 x k)))) (false=false ∧
 false=false ∧
 false=false ∧
 Q [.bool false] (mem_l8_001_m0 x k))) (false=false ∧
 false=false ∧
 false=false ∧
 false=false ∧
 Q [.bool false] (mem_l8_001_m0 x k))):=by kernel_rfl
def mem_l8_010_m0 (x:List RaT) (k:Int):List (Nat × LB):=[(3,.var [.arr (2:Nat) raS x]),(4,.var [.arr (3:Nat) Sh.bool [false,true,false]]),(8,.var [.bool (szV (gtR x (0)).2 ((gtR x (0)).1 % (13:Int))).1,.int .i64 (szV (gtR x (0)).2 ((gtR x (0)).1 % (13:Int))).2.1,.int .i64 (szV (gtR x (0)).2 ((gtR x (0)).1 % (13:Int))).2.2.1,.sl opS (szV (gtR x (0)).2 ((gtR x (0)).1 % (13:Int))).2.2.2]),(9,.var [.bool true,.int .i64 (szV (gtR x (1)).2 (szV (gtR x (0)).2 ((gtR x (0)).1 % (13:Int))).2.2.1).2.1,.int .i64 (szV (gtR x (1)).2 (szV (gtR x (0)).2 ((gtR x (0)).1 % (13:Int))).2.2.1).2.2.1,.sl opS (szV (gtR x (1)).2 (szV (gtR x (0)).2 ((gtR x (0)).1 % (13:Int))).2.2.1).2.2.2]),(11,.var [.bool (coV (szV (gtR x (0)).2 ((gtR x (0)).1 % (13:Int))) (true,(szV (gtR x (1)).2 (szV (gtR x (0)).2 ((gtR x (0)).1 % (13:Int))).2.2.1).2.1,(szV (gtR x (1)).2 (szV (gtR x (0)).2 ((gtR x (0)).1 % (13:Int))).2.2.1).2.2.1,(szV (gtR x (1)).2 (szV (gtR x (0)).2 ((gtR x (0)).1 % (13:Int))).2.2.1).2.2.2)).1.1,.int .i64 (coV (szV (gtR x (0)).2 ((gtR x (0)).1 % (13:Int))) (true,(szV (gtR x (1)).2 (szV (gtR x (0)).2 ((gtR x (0)).1 % (13:Int))).2.2.1).2.1,(szV (gtR x (1)).2 (szV (gtR x (0)).2 ((gtR x (0)).1 % (13:Int))).2.2.1).2.2.1,(szV (gtR x (1)).2 (szV (gtR x (0)).2 ((gtR x (0)).1 % (13:Int))).2.2.1).2.2.2)).1.2.1,.int .i64 (coV (szV (gtR x (0)).2 ((gtR x (0)).1 % (13:Int))) (true,(szV (gtR x (1)).2 (szV (gtR x (0)).2 ((gtR x (0)).1 % (13:Int))).2.2.1).2.1,(szV (gtR x (1)).2 (szV (gtR x (0)).2 ((gtR x (0)).1 % (13:Int))).2.2.1).2.2.1,(szV (gtR x (1)).2 (szV (gtR x (0)).2 ((gtR x (0)).1 % (13:Int))).2.2.1).2.2.2)).1.2.2.1,.sl opS (coV (szV (gtR x (0)).2 ((gtR x (0)).1 % (13:Int))) (true,(szV (gtR x (1)).2 (szV (gtR x (0)).2 ((gtR x (0)).1 % (13:Int))).2.2.1).2.1,(szV (gtR x (1)).2 (szV (gtR x (0)).2 ((gtR x (0)).1 % (13:Int))).2.2.1).2.2.1,(szV (gtR x (1)).2 (szV (gtR x (0)).2 ((gtR x (0)).1 % (13:Int))).2.2.1).2.2.2)).1.2.2.2]),(13,.var [.bool (allV (winL paS (0:Nat) (2:Nat) (((List.replicate (2:Nat) paS.dflt).set (0:Nat) (szV (gtR x (0)).2 ((gtR x (0)).1 % (13:Int)))).set (1:Nat) (true,(szV (gtR x (1)).2 (szV (gtR x (0)).2 ((gtR x (0)).1 % (13:Int))).2.2.1).2.1,(szV (gtR x (1)).2 (szV (gtR x (0)).2 ((gtR x (0)).1 % (13:Int))).2.2.1).2.2.1,(szV (gtR x (1)).2 (szV (gtR x (0)).2 ((gtR x (0)).1 % (13:Int))).2.2.1).2.2.2)))).1.1,.int .i64 (allV (winL paS (0:Nat) (2:Nat) (((List.replicate (2:Nat) paS.dflt).set (0:Nat) (szV (gtR x (0)).2 ((gtR x (0)).1 % (13:Int)))).set (1:Nat) (true,(szV (gtR x (1)).2 (szV (gtR x (0)).2 ((gtR x (0)).1 % (13:Int))).2.2.1).2.1,(szV (gtR x (1)).2 (szV (gtR x (0)).2 ((gtR x (0)).1 % (13:Int))).2.2.1).2.2.1,(szV (gtR x (1)).2 (szV (gtR x (0)).2 ((gtR x (0)).1 % (13:Int))).2.2.1).2.2.2)))).1.2.1,.int .i64 (allV (winL paS (0:Nat) (2:Nat) (((List.replicate (2:Nat) paS.dflt).set (0:Nat) (szV (gtR x (0)).2 ((gtR x (0)).1 % (13:Int)))).set (1:Nat) (true,(szV (gtR x (1)).2 (szV (gtR x (0)).2 ((gtR x (0)).1 % (13:Int))).2.2.1).2.1,(szV (gtR x (1)).2 (szV (gtR x (0)).2 ((gtR x (0)).1 % (13:Int))).2.2.1).2.2.1,(szV (gtR x (1)).2 (szV (gtR x (0)).2 ((gtR x (0)).1 % (13:Int))).2.2.1).2.2.2)))).1.2.2.1,.sl opS (allV (winL paS (0:Nat) (2:Nat) (((List.replicate (2:Nat) paS.dflt).set (0:Nat) (szV (gtR x (0)).2 ((gtR x (0)).1 % (13:Int)))).set (1:Nat) (true,(szV (gtR x (1)).2 (szV (gtR x (0)).2 ((gtR x (0)).1 % (13:Int))).2.2.1).2.1,(szV (gtR x (1)).2 (szV (gtR x (0)).2 ((gtR x (0)).1 % (13:Int))).2.2.1).2.2.1,(szV (gtR x (1)).2 (szV (gtR x (0)).2 ((gtR x (0)).1 % (13:Int))).2.2.1).2.2.2)))).1.2.2.2]),(57,.row 66 syS (List.replicate (9) syS.dflt)),(62,.row 66 syS (((List.replicate (2:Nat) syS.dflt).set (0:Nat) (false,(0:Int),(1:Int))).set (1:Nat) (true,IntKind.i64.wrap k,(0:Int)))),(1258048,.row 66 syS (thV (winL syS 0 (9) (List.replicate (9) syS.dflt)) (winL syS (0:Nat) (2:Nat) (((List.replicate (2:Nat) syS.dflt).set (0:Nat) (false,(0:Int),(1:Int))).set (1:Nat) (true,IntKind.i64.wrap k,(0:Int))))).1)]
theorem vc_l8_010 (x:List RaT) (k:Int) (Q:QT) (R:RT):sy tt G0 CL8 Tryd.f8.ntmps Tryd.f8.results.toList Q R 1000 [.code (bodyOf Tryd.f8)] (entry [.arr 2 raS,w3B,.int .i8] (x,[false,true,false],k,())) =
  (ctSn9.pre () ∧
 (0:Int)≤(0:Int) ∧
 (0:Int)<(↑(2:Nat):Int) ∧
 0<(2:Nat) ∧
 ctM6.pre (((gtR x (0)).1,(gtR x (0)).2),()) ∧
 (0:Int)≤(1:Int) ∧
 (1:Int)<(↑(2:Nat):Int) ∧
 1<(2:Nat) ∧
 ctSz.pre (((gtR x (1)).1,(gtR x (1)).2),(szV (gtR x (0)).2 ((gtR x (0)).1 % (13:Int))).2.2.1,()) ∧
 (0:Int)≤(2:Int) ∧
 (2:Int)<(↑(3:Nat):Int) ∧
 2<(3:Nat) ∧
 (0:Int)≤(1:Int) ∧
 (1:Int)<(↑(3:Nat):Int) ∧
 1<(3:Nat) ∧
 (0:Int)≤(0:Int) ∧
 (0:Int)<(↑(3:Nat):Int) ∧
 0<(3:Nat) ∧
 ctCo.pre ((szV (gtR x (0)).2 ((gtR x (0)).1 % (13:Int))),(true,(szV (gtR x (1)).2 (szV (gtR x (0)).2 ((gtR x (0)).1 % (13:Int))).2.2.1).2.1,(szV (gtR x (1)).2 (szV (gtR x (0)).2 ((gtR x (0)).1 % (13:Int))).2.2.1).2.2.1,(szV (gtR x (1)).2 (szV (gtR x (0)).2 ((gtR x (0)).1 % (13:Int))).2.2.1).2.2.2),()) ∧
 0+(2:Nat)≤(((List.replicate (2:Nat) paS.dflt).set (0:Nat) (szV (gtR x (0)).2 ((gtR x (0)).1 % (13:Int)))).set (1:Nat) (true,(szV (gtR x (1)).2 (szV (gtR x (0)).2 ((gtR x (0)).1 % (13:Int))).2.2.1).2.1,(szV (gtR x (1)).2 (szV (gtR x (0)).2 ((gtR x (0)).1 % (13:Int))).2.2.1).2.2.1,(szV (gtR x (1)).2 (szV (gtR x (0)).2 ((gtR x (0)).1 % (13:Int))).2.2.1).2.2.2)).length ∧
 ctAl.pre (winL paS (0:Nat) (2:Nat) (((List.replicate (2:Nat) paS.dflt).set (0:Nat) (szV (gtR x (0)).2 ((gtR x (0)).1 % (13:Int)))).set (1:Nat) (true,(szV (gtR x (1)).2 (szV (gtR x (0)).2 ((gtR x (0)).1 % (13:Int))).2.2.1).2.1,(szV (gtR x (1)).2 (szV (gtR x (0)).2 ((gtR x (0)).1 % (13:Int))).2.2.1).2.2.1,(szV (gtR x (1)).2 (szV (gtR x (0)).2 ((gtR x (0)).1 % (13:Int))).2.2.1).2.2.2)),()) ∧
 (0:Int)≤(9:Int) ∧
 (9:Int)≤(9:Int) ∧
 (9:Int)<(2:Int) ^ (24:Nat) ∧
 (↑(24:Nat):Int)*(9:Int)≤(2:Int) ^ (48:Nat) ∧
 0+9≤(List.replicate (9) syS.dflt).length ∧
 0+(2:Nat)≤(((List.replicate (2:Nat) syS.dflt).set (0:Nat) (false,(0:Int),(1:Int))).set (1:Nat) (true,IntKind.i64.wrap k,(0:Int))).length ∧
 ctTh.pre (winL syS 0 (9) (List.replicate (9) syS.dflt),winL syS (0:Nat) (2:Nat) (((List.replicate (2:Nat) syS.dflt).set (0:Nat) (false,(0:Int),(1:Int))).set (1:Nat) (true,IntKind.i64.wrap k,(0:Int))),()) ∧
 bc (decide ((coV (szV (gtR x (0)).2 ((gtR x (0)).1 % (13:Int))) (true,(szV (gtR x (1)).2 (szV (gtR x (0)).2 ((gtR x (0)).1 % (13:Int))).2.2.1).2.1,(szV (gtR x (1)).2 (szV (gtR x (0)).2 ((gtR x (0)).1 % (13:Int))).2.2.1).2.2.1,(szV (gtR x (1)).2 (szV (gtR x (0)).2 ((gtR x (0)).1 % (13:Int))).2.2.1).2.2.2)).2=(62:Int))) (bc (decide ((allV (winL paS (0:Nat) (2:Nat) (((List.replicate (2:Nat) paS.dflt).set (0:Nat) (szV (gtR x (0)).2 ((gtR x (0)).1 % (13:Int)))).set (1:Nat) (true,(szV (gtR x (1)).2 (szV (gtR x (0)).2 ((gtR x (0)).1 % (13:Int))).2.2.1).2.1,(szV (gtR x (1)).2 (szV (gtR x (0)).2 ((gtR x (0)).1 % (13:Int))).2.2.1).2.2.1,(szV (gtR x (1)).2 (szV (gtR x (0)).2 ((gtR x (0)).1 % (13:Int))).2.2.1).2.2.2)))).2=(62:Int))) (bc (decide ((0:Int)≤k)) (bc (bif true then decide ((thV (winL syS 0 (9) (List.replicate (9) syS.dflt)) (winL syS (0:Nat) (2:Nat) (((List.replicate (2:Nat) syS.dflt).set (0:Nat) (false,(0:Int),(1:Int))).set (1:Nat) (true,IntKind.i64.wrap k,(0:Int))))).2=(0:Int)) == bif true then decide (k<(9:Int)) else false else false) (bc (decide ((thV (winL syS 0 (9) (List.replicate (9) syS.dflt)) (winL syS (0:Nat) (2:Nat) (((List.replicate (2:Nat) syS.dflt).set (0:Nat) (false,(0:Int),(1:Int))).set (1:Nat) (true,IntKind.i64.wrap k,(0:Int))))).2=(0:Int))) (true=true ∧
 Q [.bool true] (mem_l8_010_m0 x k)) (bc (decide ((thV (winL syS 0 (9) (List.replicate (9) syS.dflt)) (winL syS (0:Nat) (2:Nat) (((List.replicate (2:Nat) syS.dflt).set (0:Nat) (false,(0:Int),(1:Int))).set (1:Nat) (true,IntKind.i64.wrap k,(0:Int))))).2=(61:Int))) (Q [.bool true] (mem_l8_010_m0 x k)) (false=false ∧
 Q [.bool false] (mem_l8_010_m0 x k)))) (false=false ∧
 false=false ∧
 Q [.bool false] (mem_l8_010_m0 x k))) (false=false ∧
 bc (bif true then decide ((thV (winL syS 0 (9) (List.replicate (9) syS.dflt)) (winL syS (0:Nat) (2:Nat) (((List.replicate (2:Nat) syS.dflt).set (0:Nat) (false,(0:Int),(1:Int))).set (1:Nat) (true,IntKind.i64.wrap k,(0:Int))))).2=(0:Int)) == false else false) (bc (decide ((thV (winL syS 0 (9) (List.replicate (9) syS.dflt)) (winL syS (0:Nat) (2:Nat) (((List.replicate (2:Nat) syS.dflt).set (0:Nat) (false,(0:Int),(1:Int))).set (1:Nat) (true,IntKind.i64.wrap k,(0:Int))))).2=(0:Int))) (true=true ∧
 Q [.bool true] (mem_l8_010_m0 x k)) (bc (decide ((thV (winL syS 0 (9) (List.replicate (9) syS.dflt)) (winL syS (0:Nat) (2:Nat) (((List.replicate (2:Nat) syS.dflt).set (0:Nat) (false,(0:Int),(1:Int))).set (1:Nat) (true,IntKind.i64.wrap k,(0:Int))))).2=(61:Int))) (Q [.bool true] (mem_l8_010_m0 x k)) (false=false ∧
 Q [.bool false] (mem_l8_010_m0 x k)))) (false=false ∧
 false=false ∧
 Q [.bool false] (mem_l8_010_m0 x k)))) (false=false ∧
 false=false ∧
 false=false ∧
 Q [.bool false] (mem_l8_010_m0 x k))) (false=false ∧
 false=false ∧
 false=false ∧
 false=false ∧
 Q [.bool false] (mem_l8_010_m0 x k))):=by kernel_rfl
def mem_l8_011_m0 (x:List RaT) (k:Int):List (Nat × LB):=[(3,.var [.arr (2:Nat) raS x]),(4,.var [.arr (3:Nat) Sh.bool [false,true,true]]),(8,.var [.bool (szV (gtR x (0)).2 ((gtR x (0)).1 % (13:Int))).1,.int .i64 (szV (gtR x (0)).2 ((gtR x (0)).1 % (13:Int))).2.1,.int .i64 (szV (gtR x (0)).2 ((gtR x (0)).1 % (13:Int))).2.2.1,.sl opS (szV (gtR x (0)).2 ((gtR x (0)).1 % (13:Int))).2.2.2]),(9,.var [.bool true,.int .i64 (szV (gtR x (1)).2 (IntKind.i64.wrap ((szV (gtR x (0)).2 ((gtR x (0)).1 % (13:Int))).2.2.1+(1:Int)))).2.1,.int .i64 (szV (gtR x (1)).2 (IntKind.i64.wrap ((szV (gtR x (0)).2 ((gtR x (0)).1 % (13:Int))).2.2.1+(1:Int)))).2.2.1,.sl opS (szV (gtR x (1)).2 (IntKind.i64.wrap ((szV (gtR x (0)).2 ((gtR x (0)).1 % (13:Int))).2.2.1+(1:Int)))).2.2.2]),(11,.var [.bool (coV (szV (gtR x (0)).2 ((gtR x (0)).1 % (13:Int))) (true,(szV (gtR x (1)).2 (IntKind.i64.wrap ((szV (gtR x (0)).2 ((gtR x (0)).1 % (13:Int))).2.2.1+(1:Int)))).2.1,(szV (gtR x (1)).2 (IntKind.i64.wrap ((szV (gtR x (0)).2 ((gtR x (0)).1 % (13:Int))).2.2.1+(1:Int)))).2.2.1,(szV (gtR x (1)).2 (IntKind.i64.wrap ((szV (gtR x (0)).2 ((gtR x (0)).1 % (13:Int))).2.2.1+(1:Int)))).2.2.2)).1.1,.int .i64 (coV (szV (gtR x (0)).2 ((gtR x (0)).1 % (13:Int))) (true,(szV (gtR x (1)).2 (IntKind.i64.wrap ((szV (gtR x (0)).2 ((gtR x (0)).1 % (13:Int))).2.2.1+(1:Int)))).2.1,(szV (gtR x (1)).2 (IntKind.i64.wrap ((szV (gtR x (0)).2 ((gtR x (0)).1 % (13:Int))).2.2.1+(1:Int)))).2.2.1,(szV (gtR x (1)).2 (IntKind.i64.wrap ((szV (gtR x (0)).2 ((gtR x (0)).1 % (13:Int))).2.2.1+(1:Int)))).2.2.2)).1.2.1,.int .i64 (coV (szV (gtR x (0)).2 ((gtR x (0)).1 % (13:Int))) (true,(szV (gtR x (1)).2 (IntKind.i64.wrap ((szV (gtR x (0)).2 ((gtR x (0)).1 % (13:Int))).2.2.1+(1:Int)))).2.1,(szV (gtR x (1)).2 (IntKind.i64.wrap ((szV (gtR x (0)).2 ((gtR x (0)).1 % (13:Int))).2.2.1+(1:Int)))).2.2.1,(szV (gtR x (1)).2 (IntKind.i64.wrap ((szV (gtR x (0)).2 ((gtR x (0)).1 % (13:Int))).2.2.1+(1:Int)))).2.2.2)).1.2.2.1,.sl opS (coV (szV (gtR x (0)).2 ((gtR x (0)).1 % (13:Int))) (true,(szV (gtR x (1)).2 (IntKind.i64.wrap ((szV (gtR x (0)).2 ((gtR x (0)).1 % (13:Int))).2.2.1+(1:Int)))).2.1,(szV (gtR x (1)).2 (IntKind.i64.wrap ((szV (gtR x (0)).2 ((gtR x (0)).1 % (13:Int))).2.2.1+(1:Int)))).2.2.1,(szV (gtR x (1)).2 (IntKind.i64.wrap ((szV (gtR x (0)).2 ((gtR x (0)).1 % (13:Int))).2.2.1+(1:Int)))).2.2.2)).1.2.2.2]),(13,.var [.bool (allV (winL paS (0:Nat) (2:Nat) (((List.replicate (2:Nat) paS.dflt).set (0:Nat) (szV (gtR x (0)).2 ((gtR x (0)).1 % (13:Int)))).set (1:Nat) (true,(szV (gtR x (1)).2 (IntKind.i64.wrap ((szV (gtR x (0)).2 ((gtR x (0)).1 % (13:Int))).2.2.1+(1:Int)))).2.1,(szV (gtR x (1)).2 (IntKind.i64.wrap ((szV (gtR x (0)).2 ((gtR x (0)).1 % (13:Int))).2.2.1+(1:Int)))).2.2.1,(szV (gtR x (1)).2 (IntKind.i64.wrap ((szV (gtR x (0)).2 ((gtR x (0)).1 % (13:Int))).2.2.1+(1:Int)))).2.2.2)))).1.1,.int .i64 (allV (winL paS (0:Nat) (2:Nat) (((List.replicate (2:Nat) paS.dflt).set (0:Nat) (szV (gtR x (0)).2 ((gtR x (0)).1 % (13:Int)))).set (1:Nat) (true,(szV (gtR x (1)).2 (IntKind.i64.wrap ((szV (gtR x (0)).2 ((gtR x (0)).1 % (13:Int))).2.2.1+(1:Int)))).2.1,(szV (gtR x (1)).2 (IntKind.i64.wrap ((szV (gtR x (0)).2 ((gtR x (0)).1 % (13:Int))).2.2.1+(1:Int)))).2.2.1,(szV (gtR x (1)).2 (IntKind.i64.wrap ((szV (gtR x (0)).2 ((gtR x (0)).1 % (13:Int))).2.2.1+(1:Int)))).2.2.2)))).1.2.1,.int .i64 (allV (winL paS (0:Nat) (2:Nat) (((List.replicate (2:Nat) paS.dflt).set (0:Nat) (szV (gtR x (0)).2 ((gtR x (0)).1 % (13:Int)))).set (1:Nat) (true,(szV (gtR x (1)).2 (IntKind.i64.wrap ((szV (gtR x (0)).2 ((gtR x (0)).1 % (13:Int))).2.2.1+(1:Int)))).2.1,(szV (gtR x (1)).2 (IntKind.i64.wrap ((szV (gtR x (0)).2 ((gtR x (0)).1 % (13:Int))).2.2.1+(1:Int)))).2.2.1,(szV (gtR x (1)).2 (IntKind.i64.wrap ((szV (gtR x (0)).2 ((gtR x (0)).1 % (13:Int))).2.2.1+(1:Int)))).2.2.2)))).1.2.2.1,.sl opS (allV (winL paS (0:Nat) (2:Nat) (((List.replicate (2:Nat) paS.dflt).set (0:Nat) (szV (gtR x (0)).2 ((gtR x (0)).1 % (13:Int)))).set (1:Nat) (true,(szV (gtR x (1)).2 (IntKind.i64.wrap ((szV (gtR x (0)).2 ((gtR x (0)).1 % (13:Int))).2.2.1+(1:Int)))).2.1,(szV (gtR x (1)).2 (IntKind.i64.wrap ((szV (gtR x (0)).2 ((gtR x (0)).1 % (13:Int))).2.2.1+(1:Int)))).2.2.1,(szV (gtR x (1)).2 (IntKind.i64.wrap ((szV (gtR x (0)).2 ((gtR x (0)).1 % (13:Int))).2.2.1+(1:Int)))).2.2.2)))).1.2.2.2]),(57,.row 66 syS (List.replicate (9) syS.dflt)),(62,.row 66 syS (((List.replicate (2:Nat) syS.dflt).set (0:Nat) (false,(0:Int),(1:Int))).set (1:Nat) (true,IntKind.i64.wrap k,(0:Int)))),(1258048,.row 66 syS (thV (winL syS 0 (9) (List.replicate (9) syS.dflt)) (winL syS (0:Nat) (2:Nat) (((List.replicate (2:Nat) syS.dflt).set (0:Nat) (false,(0:Int),(1:Int))).set (1:Nat) (true,IntKind.i64.wrap k,(0:Int))))).1)]
theorem vc_l8_011 (x:List RaT) (k:Int) (Q:QT) (R:RT):sy tt G0 CL8 Tryd.f8.ntmps Tryd.f8.results.toList Q R 1000 [.code (bodyOf Tryd.f8)] (entry [.arr 2 raS,w3B,.int .i8] (x,[false,true,true],k,())) =
  (ctSn9.pre () ∧
 (0:Int)≤(0:Int) ∧
 (0:Int)<(↑(2:Nat):Int) ∧
 0<(2:Nat) ∧
 ctM6.pre (((gtR x (0)).1,(gtR x (0)).2),()) ∧
 (0:Int)≤(1:Int) ∧
 (1:Int)<(↑(2:Nat):Int) ∧
 1<(2:Nat) ∧
 ctSz.pre (((gtR x (1)).1,(gtR x (1)).2),(szV (gtR x (0)).2 ((gtR x (0)).1 % (13:Int))).2.2.1,()) ∧
 (0:Int)≤(2:Int) ∧
 (2:Int)<(↑(3:Nat):Int) ∧
 2<(3:Nat) ∧
 (0:Int)≤(1:Int) ∧
 (1:Int)<(↑(2:Nat):Int) ∧
 1<(2:Nat) ∧
 ctSz.pre (((gtR x (1)).1,(gtR x (1)).2),IntKind.i64.wrap ((szV (gtR x (0)).2 ((gtR x (0)).1 % (13:Int))).2.2.1+(1:Int)),()) ∧
 (0:Int)≤(1:Int) ∧
 (1:Int)<(↑(3:Nat):Int) ∧
 1<(3:Nat) ∧
 (0:Int)≤(0:Int) ∧
 (0:Int)<(↑(3:Nat):Int) ∧
 0<(3:Nat) ∧
 ctCo.pre ((szV (gtR x (0)).2 ((gtR x (0)).1 % (13:Int))),(true,(szV (gtR x (1)).2 (IntKind.i64.wrap ((szV (gtR x (0)).2 ((gtR x (0)).1 % (13:Int))).2.2.1+(1:Int)))).2.1,(szV (gtR x (1)).2 (IntKind.i64.wrap ((szV (gtR x (0)).2 ((gtR x (0)).1 % (13:Int))).2.2.1+(1:Int)))).2.2.1,(szV (gtR x (1)).2 (IntKind.i64.wrap ((szV (gtR x (0)).2 ((gtR x (0)).1 % (13:Int))).2.2.1+(1:Int)))).2.2.2),()) ∧
 0+(2:Nat)≤(((List.replicate (2:Nat) paS.dflt).set (0:Nat) (szV (gtR x (0)).2 ((gtR x (0)).1 % (13:Int)))).set (1:Nat) (true,(szV (gtR x (1)).2 (IntKind.i64.wrap ((szV (gtR x (0)).2 ((gtR x (0)).1 % (13:Int))).2.2.1+(1:Int)))).2.1,(szV (gtR x (1)).2 (IntKind.i64.wrap ((szV (gtR x (0)).2 ((gtR x (0)).1 % (13:Int))).2.2.1+(1:Int)))).2.2.1,(szV (gtR x (1)).2 (IntKind.i64.wrap ((szV (gtR x (0)).2 ((gtR x (0)).1 % (13:Int))).2.2.1+(1:Int)))).2.2.2)).length ∧
 ctAl.pre (winL paS (0:Nat) (2:Nat) (((List.replicate (2:Nat) paS.dflt).set (0:Nat) (szV (gtR x (0)).2 ((gtR x (0)).1 % (13:Int)))).set (1:Nat) (true,(szV (gtR x (1)).2 (IntKind.i64.wrap ((szV (gtR x (0)).2 ((gtR x (0)).1 % (13:Int))).2.2.1+(1:Int)))).2.1,(szV (gtR x (1)).2 (IntKind.i64.wrap ((szV (gtR x (0)).2 ((gtR x (0)).1 % (13:Int))).2.2.1+(1:Int)))).2.2.1,(szV (gtR x (1)).2 (IntKind.i64.wrap ((szV (gtR x (0)).2 ((gtR x (0)).1 % (13:Int))).2.2.1+(1:Int)))).2.2.2)),()) ∧
 (0:Int)≤(9:Int) ∧
 (9:Int)≤(9:Int) ∧
 (9:Int)<(2:Int) ^ (24:Nat) ∧
 (↑(24:Nat):Int)*(9:Int)≤(2:Int) ^ (48:Nat) ∧
 0+9≤(List.replicate (9) syS.dflt).length ∧
 0+(2:Nat)≤(((List.replicate (2:Nat) syS.dflt).set (0:Nat) (false,(0:Int),(1:Int))).set (1:Nat) (true,IntKind.i64.wrap k,(0:Int))).length ∧
 ctTh.pre (winL syS 0 (9) (List.replicate (9) syS.dflt),winL syS (0:Nat) (2:Nat) (((List.replicate (2:Nat) syS.dflt).set (0:Nat) (false,(0:Int),(1:Int))).set (1:Nat) (true,IntKind.i64.wrap k,(0:Int))),()) ∧
 bc (decide ((coV (szV (gtR x (0)).2 ((gtR x (0)).1 % (13:Int))) (true,(szV (gtR x (1)).2 (IntKind.i64.wrap ((szV (gtR x (0)).2 ((gtR x (0)).1 % (13:Int))).2.2.1+(1:Int)))).2.1,(szV (gtR x (1)).2 (IntKind.i64.wrap ((szV (gtR x (0)).2 ((gtR x (0)).1 % (13:Int))).2.2.1+(1:Int)))).2.2.1,(szV (gtR x (1)).2 (IntKind.i64.wrap ((szV (gtR x (0)).2 ((gtR x (0)).1 % (13:Int))).2.2.1+(1:Int)))).2.2.2)).2=(62:Int))) (bc (decide ((allV (winL paS (0:Nat) (2:Nat) (((List.replicate (2:Nat) paS.dflt).set (0:Nat) (szV (gtR x (0)).2 ((gtR x (0)).1 % (13:Int)))).set (1:Nat) (true,(szV (gtR x (1)).2 (IntKind.i64.wrap ((szV (gtR x (0)).2 ((gtR x (0)).1 % (13:Int))).2.2.1+(1:Int)))).2.1,(szV (gtR x (1)).2 (IntKind.i64.wrap ((szV (gtR x (0)).2 ((gtR x (0)).1 % (13:Int))).2.2.1+(1:Int)))).2.2.1,(szV (gtR x (1)).2 (IntKind.i64.wrap ((szV (gtR x (0)).2 ((gtR x (0)).1 % (13:Int))).2.2.1+(1:Int)))).2.2.2)))).2=(62:Int))) (bc (decide ((0:Int)≤k)) (bc (bif true then decide ((thV (winL syS 0 (9) (List.replicate (9) syS.dflt)) (winL syS (0:Nat) (2:Nat) (((List.replicate (2:Nat) syS.dflt).set (0:Nat) (false,(0:Int),(1:Int))).set (1:Nat) (true,IntKind.i64.wrap k,(0:Int))))).2=(0:Int)) == bif true then decide (k<(9:Int)) else false else false) (bc (decide ((thV (winL syS 0 (9) (List.replicate (9) syS.dflt)) (winL syS (0:Nat) (2:Nat) (((List.replicate (2:Nat) syS.dflt).set (0:Nat) (false,(0:Int),(1:Int))).set (1:Nat) (true,IntKind.i64.wrap k,(0:Int))))).2=(0:Int))) (true=true ∧
 Q [.bool true] (mem_l8_011_m0 x k)) (bc (decide ((thV (winL syS 0 (9) (List.replicate (9) syS.dflt)) (winL syS (0:Nat) (2:Nat) (((List.replicate (2:Nat) syS.dflt).set (0:Nat) (false,(0:Int),(1:Int))).set (1:Nat) (true,IntKind.i64.wrap k,(0:Int))))).2=(61:Int))) (Q [.bool true] (mem_l8_011_m0 x k)) (false=false ∧
 Q [.bool false] (mem_l8_011_m0 x k)))) (false=false ∧
 false=false ∧
 Q [.bool false] (mem_l8_011_m0 x k))) (false=false ∧
 bc (bif true then decide ((thV (winL syS 0 (9) (List.replicate (9) syS.dflt)) (winL syS (0:Nat) (2:Nat) (((List.replicate (2:Nat) syS.dflt).set (0:Nat) (false,(0:Int),(1:Int))).set (1:Nat) (true,IntKind.i64.wrap k,(0:Int))))).2=(0:Int)) == false else false) (bc (decide ((thV (winL syS 0 (9) (List.replicate (9) syS.dflt)) (winL syS (0:Nat) (2:Nat) (((List.replicate (2:Nat) syS.dflt).set (0:Nat) (false,(0:Int),(1:Int))).set (1:Nat) (true,IntKind.i64.wrap k,(0:Int))))).2=(0:Int))) (true=true ∧
 Q [.bool true] (mem_l8_011_m0 x k)) (bc (decide ((thV (winL syS 0 (9) (List.replicate (9) syS.dflt)) (winL syS (0:Nat) (2:Nat) (((List.replicate (2:Nat) syS.dflt).set (0:Nat) (false,(0:Int),(1:Int))).set (1:Nat) (true,IntKind.i64.wrap k,(0:Int))))).2=(61:Int))) (Q [.bool true] (mem_l8_011_m0 x k)) (false=false ∧
 Q [.bool false] (mem_l8_011_m0 x k)))) (false=false ∧
 false=false ∧
 Q [.bool false] (mem_l8_011_m0 x k)))) (false=false ∧
 false=false ∧
 false=false ∧
 Q [.bool false] (mem_l8_011_m0 x k))) (false=false ∧
 false=false ∧
 false=false ∧
 false=false ∧
 Q [.bool false] (mem_l8_011_m0 x k))):=by kernel_rfl
end Go.Proofs.YticpkibnhakgbaaDoor
namespace Go.Proofs.YticpkibnhakgbaaDoor
open Go.Px Go.Ax
set_option maxRecDepth 100000
def mem_l8_100_m0 (x:List RaT) (k:Int):List (Nat × LB):=[(3,.var [.arr (2:Nat) raS x]),(4,.var [.arr (3:Nat) Sh.bool [true,false,false]]),(8,.var [.bool (szV (gtR x (0)).2 ((gtR x (0)).1 % (13:Int))).1,.int .i64 (szV (gtR x (0)).2 ((gtR x (0)).1 % (13:Int))).2.1,.int .i64 (IntKind.i64.wrap ((szV (gtR x (0)).2 ((gtR x (0)).1 % (13:Int))).2.2.1+(1:Int))),.sl opS (szV (gtR x (0)).2 ((gtR x (0)).1 % (13:Int))).2.2.2]),(9,.var [.bool (szV (gtR x (1)).2 (szV (gtR x (0)).2 ((gtR x (0)).1 % (13:Int))).2.2.1).1,.int .i64 (szV (gtR x (1)).2 (szV (gtR x (0)).2 ((gtR x (0)).1 % (13:Int))).2.2.1).2.1,.int .i64 (szV (gtR x (1)).2 (szV (gtR x (0)).2 ((gtR x (0)).1 % (13:Int))).2.2.1).2.2.1,.sl opS (szV (gtR x (1)).2 (szV (gtR x (0)).2 ((gtR x (0)).1 % (13:Int))).2.2.1).2.2.2]),(11,.var [.bool (coV ((szV (gtR x (0)).2 ((gtR x (0)).1 % (13:Int))).1,(szV (gtR x (0)).2 ((gtR x (0)).1 % (13:Int))).2.1,IntKind.i64.wrap ((szV (gtR x (0)).2 ((gtR x (0)).1 % (13:Int))).2.2.1+(1:Int)),(szV (gtR x (0)).2 ((gtR x (0)).1 % (13:Int))).2.2.2) (szV (gtR x (1)).2 (szV (gtR x (0)).2 ((gtR x (0)).1 % (13:Int))).2.2.1)).1.1,.int .i64 (coV ((szV (gtR x (0)).2 ((gtR x (0)).1 % (13:Int))).1,(szV (gtR x (0)).2 ((gtR x (0)).1 % (13:Int))).2.1,IntKind.i64.wrap ((szV (gtR x (0)).2 ((gtR x (0)).1 % (13:Int))).2.2.1+(1:Int)),(szV (gtR x (0)).2 ((gtR x (0)).1 % (13:Int))).2.2.2) (szV (gtR x (1)).2 (szV (gtR x (0)).2 ((gtR x (0)).1 % (13:Int))).2.2.1)).1.2.1,.int .i64 (coV ((szV (gtR x (0)).2 ((gtR x (0)).1 % (13:Int))).1,(szV (gtR x (0)).2 ((gtR x (0)).1 % (13:Int))).2.1,IntKind.i64.wrap ((szV (gtR x (0)).2 ((gtR x (0)).1 % (13:Int))).2.2.1+(1:Int)),(szV (gtR x (0)).2 ((gtR x (0)).1 % (13:Int))).2.2.2) (szV (gtR x (1)).2 (szV (gtR x (0)).2 ((gtR x (0)).1 % (13:Int))).2.2.1)).1.2.2.1,.sl opS (coV ((szV (gtR x (0)).2 ((gtR x (0)).1 % (13:Int))).1,(szV (gtR x (0)).2 ((gtR x (0)).1 % (13:Int))).2.1,IntKind.i64.wrap ((szV (gtR x (0)).2 ((gtR x (0)).1 % (13:Int))).2.2.1+(1:Int)),(szV (gtR x (0)).2 ((gtR x (0)).1 % (13:Int))).2.2.2) (szV (gtR x (1)).2 (szV (gtR x (0)).2 ((gtR x (0)).1 % (13:Int))).2.2.1)).1.2.2.2]),(13,.var [.bool (allV (winL paS (0:Nat) (2:Nat) (((List.replicate (2:Nat) paS.dflt).set (0:Nat) ((szV (gtR x (0)).2 ((gtR x (0)).1 % (13:Int))).1,(szV (gtR x (0)).2 ((gtR x (0)).1 % (13:Int))).2.1,IntKind.i64.wrap ((szV (gtR x (0)).2 ((gtR x (0)).1 % (13:Int))).2.2.1+(1:Int)),(szV (gtR x (0)).2 ((gtR x (0)).1 % (13:Int))).2.2.2)).set (1:Nat) (szV (gtR x (1)).2 (szV (gtR x (0)).2 ((gtR x (0)).1 % (13:Int))).2.2.1)))).1.1,.int .i64 (allV (winL paS (0:Nat) (2:Nat) (((List.replicate (2:Nat) paS.dflt).set (0:Nat) ((szV (gtR x (0)).2 ((gtR x (0)).1 % (13:Int))).1,(szV (gtR x (0)).2 ((gtR x (0)).1 % (13:Int))).2.1,IntKind.i64.wrap ((szV (gtR x (0)).2 ((gtR x (0)).1 % (13:Int))).2.2.1+(1:Int)),(szV (gtR x (0)).2 ((gtR x (0)).1 % (13:Int))).2.2.2)).set (1:Nat) (szV (gtR x (1)).2 (szV (gtR x (0)).2 ((gtR x (0)).1 % (13:Int))).2.2.1)))).1.2.1,.int .i64 (allV (winL paS (0:Nat) (2:Nat) (((List.replicate (2:Nat) paS.dflt).set (0:Nat) ((szV (gtR x (0)).2 ((gtR x (0)).1 % (13:Int))).1,(szV (gtR x (0)).2 ((gtR x (0)).1 % (13:Int))).2.1,IntKind.i64.wrap ((szV (gtR x (0)).2 ((gtR x (0)).1 % (13:Int))).2.2.1+(1:Int)),(szV (gtR x (0)).2 ((gtR x (0)).1 % (13:Int))).2.2.2)).set (1:Nat) (szV (gtR x (1)).2 (szV (gtR x (0)).2 ((gtR x (0)).1 % (13:Int))).2.2.1)))).1.2.2.1,.sl opS (allV (winL paS (0:Nat) (2:Nat) (((List.replicate (2:Nat) paS.dflt).set (0:Nat) ((szV (gtR x (0)).2 ((gtR x (0)).1 % (13:Int))).1,(szV (gtR x (0)).2 ((gtR x (0)).1 % (13:Int))).2.1,IntKind.i64.wrap ((szV (gtR x (0)).2 ((gtR x (0)).1 % (13:Int))).2.2.1+(1:Int)),(szV (gtR x (0)).2 ((gtR x (0)).1 % (13:Int))).2.2.2)).set (1:Nat) (szV (gtR x (1)).2 (szV (gtR x (0)).2 ((gtR x (0)).1 % (13:Int))).2.2.1)))).1.2.2.2]),(57,.row 66 syS (List.replicate (9) syS.dflt)),(62,.row 66 syS (((List.replicate (2:Nat) syS.dflt).set (0:Nat) (false,(0:Int),(1:Int))).set (1:Nat) (true,IntKind.i64.wrap k,(0:Int)))),(1258048,.row 66 syS (thV (winL syS 0 (9) (List.replicate (9) syS.dflt)) (winL syS (0:Nat) (2:Nat) (((List.replicate (2:Nat) syS.dflt).set (0:Nat) (false,(0:Int),(1:Int))).set (1:Nat) (true,IntKind.i64.wrap k,(0:Int))))).1)]
theorem vc_l8_100 (x:List RaT) (k:Int) (Q:QT) (R:RT):sy tt G0 CL8 Tryd.f8.ntmps Tryd.f8.results.toList Q R 1000 [.code (bodyOf Tryd.f8)] (entry [.arr 2 raS,w3B,.int .i8] (x,[true,false,false],k,())) =
  (ctSn9.pre () ∧
 (0:Int)≤(0:Int) ∧
 (0:Int)<(↑(2:Nat):Int) ∧
 0<(2:Nat) ∧
 ctM6.pre (((gtR x (0)).1,(gtR x (0)).2),()) ∧
 (0:Int)≤(1:Int) ∧
 (1:Int)<(↑(2:Nat):Int) ∧
 1<(2:Nat) ∧
 ctSz.pre (((gtR x (1)).1,(gtR x (1)).2),(szV (gtR x (0)).2 ((gtR x (0)).1 % (13:Int))).2.2.1,()) ∧
 (0:Int)≤(2:Int) ∧
 (2:Int)<(↑(3:Nat):Int) ∧
 2<(3:Nat) ∧
 (0:Int)≤(1:Int) ∧
 (1:Int)<(↑(3:Nat):Int) ∧
 1<(3:Nat) ∧
 (0:Int)≤(0:Int) ∧
 (0:Int)<(↑(3:Nat):Int) ∧
 0<(3:Nat) ∧
 ctCo.pre (((szV (gtR x (0)).2 ((gtR x (0)).1 % (13:Int))).1,(szV (gtR x (0)).2 ((gtR x (0)).1 % (13:Int))).2.1,IntKind.i64.wrap ((szV (gtR x (0)).2 ((gtR x (0)).1 % (13:Int))).2.2.1+(1:Int)),(szV (gtR x (0)).2 ((gtR x (0)).1 % (13:Int))).2.2.2),(szV (gtR x (1)).2 (szV (gtR x (0)).2 ((gtR x (0)).1 % (13:Int))).2.2.1),()) ∧
 0+(2:Nat)≤(((List.replicate (2:Nat) paS.dflt).set (0:Nat) ((szV (gtR x (0)).2 ((gtR x (0)).1 % (13:Int))).1,(szV (gtR x (0)).2 ((gtR x (0)).1 % (13:Int))).2.1,IntKind.i64.wrap ((szV (gtR x (0)).2 ((gtR x (0)).1 % (13:Int))).2.2.1+(1:Int)),(szV (gtR x (0)).2 ((gtR x (0)).1 % (13:Int))).2.2.2)).set (1:Nat) (szV (gtR x (1)).2 (szV (gtR x (0)).2 ((gtR x (0)).1 % (13:Int))).2.2.1)).length ∧
 ctAl.pre (winL paS (0:Nat) (2:Nat) (((List.replicate (2:Nat) paS.dflt).set (0:Nat) ((szV (gtR x (0)).2 ((gtR x (0)).1 % (13:Int))).1,(szV (gtR x (0)).2 ((gtR x (0)).1 % (13:Int))).2.1,IntKind.i64.wrap ((szV (gtR x (0)).2 ((gtR x (0)).1 % (13:Int))).2.2.1+(1:Int)),(szV (gtR x (0)).2 ((gtR x (0)).1 % (13:Int))).2.2.2)).set (1:Nat) (szV (gtR x (1)).2 (szV (gtR x (0)).2 ((gtR x (0)).1 % (13:Int))).2.2.1)),()) ∧
 (0:Int)≤(9:Int) ∧
 (9:Int)≤(9:Int) ∧
 (9:Int)<(2:Int) ^ (24:Nat) ∧
 (↑(24:Nat):Int)*(9:Int)≤(2:Int) ^ (48:Nat) ∧
 0+9≤(List.replicate (9) syS.dflt).length ∧
 0+(2:Nat)≤(((List.replicate (2:Nat) syS.dflt).set (0:Nat) (false,(0:Int),(1:Int))).set (1:Nat) (true,IntKind.i64.wrap k,(0:Int))).length ∧
 ctTh.pre (winL syS 0 (9) (List.replicate (9) syS.dflt),winL syS (0:Nat) (2:Nat) (((List.replicate (2:Nat) syS.dflt).set (0:Nat) (false,(0:Int),(1:Int))).set (1:Nat) (true,IntKind.i64.wrap k,(0:Int))),()) ∧
 bc (decide ((coV ((szV (gtR x (0)).2 ((gtR x (0)).1 % (13:Int))).1,(szV (gtR x (0)).2 ((gtR x (0)).1 % (13:Int))).2.1,IntKind.i64.wrap ((szV (gtR x (0)).2 ((gtR x (0)).1 % (13:Int))).2.2.1+(1:Int)),(szV (gtR x (0)).2 ((gtR x (0)).1 % (13:Int))).2.2.2) (szV (gtR x (1)).2 (szV (gtR x (0)).2 ((gtR x (0)).1 % (13:Int))).2.2.1)).2=(60:Int))) (bc (decide ((allV (winL paS (0:Nat) (2:Nat) (((List.replicate (2:Nat) paS.dflt).set (0:Nat) ((szV (gtR x (0)).2 ((gtR x (0)).1 % (13:Int))).1,(szV (gtR x (0)).2 ((gtR x (0)).1 % (13:Int))).2.1,IntKind.i64.wrap ((szV (gtR x (0)).2 ((gtR x (0)).1 % (13:Int))).2.2.1+(1:Int)),(szV (gtR x (0)).2 ((gtR x (0)).1 % (13:Int))).2.2.2)).set (1:Nat) (szV (gtR x (1)).2 (szV (gtR x (0)).2 ((gtR x (0)).1 % (13:Int))).2.2.1)))).2=(60:Int))) (bc (decide ((0:Int)≤k)) (bc (bif true then decide ((thV (winL syS 0 (9) (List.replicate (9) syS.dflt)) (winL syS (0:Nat) (2:Nat) (((List.replicate (2:Nat) syS.dflt).set (0:Nat) (false,(0:Int),(1:Int))).set (1:Nat) (true,IntKind.i64.wrap k,(0:Int))))).2=(0:Int)) == bif true then decide (k<(9:Int)) else false else false) (bc (decide ((thV (winL syS 0 (9) (List.replicate (9) syS.dflt)) (winL syS (0:Nat) (2:Nat) (((List.replicate (2:Nat) syS.dflt).set (0:Nat) (false,(0:Int),(1:Int))).set (1:Nat) (true,IntKind.i64.wrap k,(0:Int))))).2=(0:Int))) (true=true ∧
 Q [.bool true] (mem_l8_100_m0 x k)) (bc (decide ((thV (winL syS 0 (9) (List.replicate (9) syS.dflt)) (winL syS (0:Nat) (2:Nat) (((List.replicate (2:Nat) syS.dflt).set (0:Nat) (false,(0:Int),(1:Int))).set (1:Nat) (true,IntKind.i64.wrap k,(0:Int))))).2=(61:Int))) (Q [.bool true] (mem_l8_100_m0 x k)) (false=false ∧
 Q [.bool false] (mem_l8_100_m0 x k)))) (false=false ∧
 false=false ∧
 Q [.bool false] (mem_l8_100_m0 x k))) (false=false ∧
 bc (bif true then decide ((thV (winL syS 0 (9) (List.replicate (9) syS.dflt)) (winL syS (0:Nat) (2:Nat) (((List.replicate (2:Nat) syS.dflt).set (0:Nat) (false,(0:Int),(1:Int))).set (1:Nat) (true,IntKind.i64.wrap k,(0:Int))))).2=(0:Int)) == false else false) (bc (decide ((thV (winL syS 0 (9) (List.replicate (9) syS.dflt)) (winL syS (0:Nat) (2:Nat) (((List.replicate (2:Nat) syS.dflt).set (0:Nat) (false,(0:Int),(1:Int))).set (1:Nat) (true,IntKind.i64.wrap k,(0:Int))))).2=(0:Int))) (true=true ∧
 Q [.bool true] (mem_l8_100_m0 x k)) (bc (decide ((thV (winL syS 0 (9) (List.replicate (9) syS.dflt)) (winL syS (0:Nat) (2:Nat) (((List.replicate (2:Nat) syS.dflt).set (0:Nat) (false,(0:Int),(1:Int))).set (1:Nat) (true,IntKind.i64.wrap k,(0:Int))))).2=(61:Int))) (Q [.bool true] (mem_l8_100_m0 x k)) (false=false ∧
 Q [.bool false] (mem_l8_100_m0 x k)))) (false=false ∧
 false=false ∧
 Q [.bool false] (mem_l8_100_m0 x k)))) (false=false ∧
 false=false ∧
 false=false ∧
 Q [.bool false] (mem_l8_100_m0 x k))) (false=false ∧
 false=false ∧
 false=false ∧
 false=false ∧
 Q [.bool false] (mem_l8_100_m0 x k))):=by kernel_rfl
def mem_l8_101_m0 (x:List RaT) (k:Int):List (Nat × LB):=[(3,.var [.arr (2:Nat) raS x]),(4,.var [.arr (3:Nat) Sh.bool [true,false,true]]),(8,.var [.bool (szV (gtR x (0)).2 ((gtR x (0)).1 % (13:Int))).1,.int .i64 (szV (gtR x (0)).2 ((gtR x (0)).1 % (13:Int))).2.1,.int .i64 (IntKind.i64.wrap ((szV (gtR x (0)).2 ((gtR x (0)).1 % (13:Int))).2.2.1+(1:Int))),.sl opS (szV (gtR x (0)).2 ((gtR x (0)).1 % (13:Int))).2.2.2]),(9,.var [.bool (szV (gtR x (1)).2 (IntKind.i64.wrap ((szV (gtR x (0)).2 ((gtR x (0)).1 % (13:Int))).2.2.1+(1:Int)))).1,.int .i64 (szV (gtR x (1)).2 (IntKind.i64.wrap ((szV (gtR x (0)).2 ((gtR x (0)).1 % (13:Int))).2.2.1+(1:Int)))).2.1,.int .i64 (szV (gtR x (1)).2 (IntKind.i64.wrap ((szV (gtR x (0)).2 ((gtR x (0)).1 % (13:Int))).2.2.1+(1:Int)))).2.2.1,.sl opS (szV (gtR x (1)).2 (IntKind.i64.wrap ((szV (gtR x (0)).2 ((gtR x (0)).1 % (13:Int))).2.2.1+(1:Int)))).2.2.2]),(11,.var [.bool (coV ((szV (gtR x (0)).2 ((gtR x (0)).1 % (13:Int))).1,(szV (gtR x (0)).2 ((gtR x (0)).1 % (13:Int))).2.1,IntKind.i64.wrap ((szV (gtR x (0)).2 ((gtR x (0)).1 % (13:Int))).2.2.1+(1:Int)),(szV (gtR x (0)).2 ((gtR x (0)).1 % (13:Int))).2.2.2) (szV (gtR x (1)).2 (IntKind.i64.wrap ((szV (gtR x (0)).2 ((gtR x (0)).1 % (13:Int))).2.2.1+(1:Int))))).1.1,.int .i64 (coV ((szV (gtR x (0)).2 ((gtR x (0)).1 % (13:Int))).1,(szV (gtR x (0)).2 ((gtR x (0)).1 % (13:Int))).2.1,IntKind.i64.wrap ((szV (gtR x (0)).2 ((gtR x (0)).1 % (13:Int))).2.2.1+(1:Int)),(szV (gtR x (0)).2 ((gtR x (0)).1 % (13:Int))).2.2.2) (szV (gtR x (1)).2 (IntKind.i64.wrap ((szV (gtR x (0)).2 ((gtR x (0)).1 % (13:Int))).2.2.1+(1:Int))))).1.2.1,.int .i64 (coV ((szV (gtR x (0)).2 ((gtR x (0)).1 % (13:Int))).1,(szV (gtR x (0)).2 ((gtR x (0)).1 % (13:Int))).2.1,IntKind.i64.wrap ((szV (gtR x (0)).2 ((gtR x (0)).1 % (13:Int))).2.2.1+(1:Int)),(szV (gtR x (0)).2 ((gtR x (0)).1 % (13:Int))).2.2.2) (szV (gtR x (1)).2 (IntKind.i64.wrap ((szV (gtR x (0)).2 ((gtR x (0)).1 % (13:Int))).2.2.1+(1:Int))))).1.2.2.1,.sl opS (coV ((szV (gtR x (0)).2 ((gtR x (0)).1 % (13:Int))).1,(szV (gtR x (0)).2 ((gtR x (0)).1 % (13:Int))).2.1,IntKind.i64.wrap ((szV (gtR x (0)).2 ((gtR x (0)).1 % (13:Int))).2.2.1+(1:Int)),(szV (gtR x (0)).2 ((gtR x (0)).1 % (13:Int))).2.2.2) (szV (gtR x (1)).2 (IntKind.i64.wrap ((szV (gtR x (0)).2 ((gtR x (0)).1 % (13:Int))).2.2.1+(1:Int))))).1.2.2.2]),(13,.var [.bool (allV (winL paS (0:Nat) (2:Nat) (((List.replicate (2:Nat) paS.dflt).set (0:Nat) ((szV (gtR x (0)).2 ((gtR x (0)).1 % (13:Int))).1,(szV (gtR x (0)).2 ((gtR x (0)).1 % (13:Int))).2.1,IntKind.i64.wrap ((szV (gtR x (0)).2 ((gtR x (0)).1 % (13:Int))).2.2.1+(1:Int)),(szV (gtR x (0)).2 ((gtR x (0)).1 % (13:Int))).2.2.2)).set (1:Nat) (szV (gtR x (1)).2 (IntKind.i64.wrap ((szV (gtR x (0)).2 ((gtR x (0)).1 % (13:Int))).2.2.1+(1:Int))))))).1.1,.int .i64 (allV (winL paS (0:Nat) (2:Nat) (((List.replicate (2:Nat) paS.dflt).set (0:Nat) ((szV (gtR x (0)).2 ((gtR x (0)).1 % (13:Int))).1,(szV (gtR x (0)).2 ((gtR x (0)).1 % (13:Int))).2.1,IntKind.i64.wrap ((szV (gtR x (0)).2 ((gtR x (0)).1 % (13:Int))).2.2.1+(1:Int)),(szV (gtR x (0)).2 ((gtR x (0)).1 % (13:Int))).2.2.2)).set (1:Nat) (szV (gtR x (1)).2 (IntKind.i64.wrap ((szV (gtR x (0)).2 ((gtR x (0)).1 % (13:Int))).2.2.1+(1:Int))))))).1.2.1,.int .i64 (allV (winL paS (0:Nat) (2:Nat) (((List.replicate (2:Nat) paS.dflt).set (0:Nat) ((szV (gtR x (0)).2 ((gtR x (0)).1 % (13:Int))).1,(szV (gtR x (0)).2 ((gtR x (0)).1 % (13:Int))).2.1,IntKind.i64.wrap ((szV (gtR x (0)).2 ((gtR x (0)).1 % (13:Int))).2.2.1+(1:Int)),(szV (gtR x (0)).2 ((gtR x (0)).1 % (13:Int))).2.2.2)).set (1:Nat) (szV (gtR x (1)).2 (IntKind.i64.wrap ((szV (gtR x (0)).2 ((gtR x (0)).1 % (13:Int))).2.2.1+(1:Int))))))).1.2.2.1,.sl opS (allV (winL paS (0:Nat) (2:Nat) (((List.replicate (2:Nat) paS.dflt).set (0:Nat) ((szV (gtR x (0)).2 ((gtR x (0)).1 % (13:Int))).1,(szV (gtR x (0)).2 ((gtR x (0)).1 % (13:Int))).2.1,IntKind.i64.wrap ((szV (gtR x (0)).2 ((gtR x (0)).1 % (13:Int))).2.2.1+(1:Int)),(szV (gtR x (0)).2 ((gtR x (0)).1 % (13:Int))).2.2.2)).set (1:Nat) (szV (gtR x (1)).2 (IntKind.i64.wrap ((szV (gtR x (0)).2 ((gtR x (0)).1 % (13:Int))).2.2.1+(1:Int))))))).1.2.2.2]),(57,.row 66 syS (List.replicate (9) syS.dflt)),(62,.row 66 syS (((List.replicate (2:Nat) syS.dflt).set (0:Nat) (false,(0:Int),(1:Int))).set (1:Nat) (true,IntKind.i64.wrap k,(0:Int)))),(1258048,.row 66 syS (thV (winL syS 0 (9) (List.replicate (9) syS.dflt)) (winL syS (0:Nat) (2:Nat) (((List.replicate (2:Nat) syS.dflt).set (0:Nat) (false,(0:Int),(1:Int))).set (1:Nat) (true,IntKind.i64.wrap k,(0:Int))))).1)]
theorem vc_l8_101 (x:List RaT) (k:Int) (Q:QT) (R:RT):sy tt G0 CL8 Tryd.f8.ntmps Tryd.f8.results.toList Q R 1000 [.code (bodyOf Tryd.f8)] (entry [.arr 2 raS,w3B,.int .i8] (x,[true,false,true],k,())) =
  (ctSn9.pre () ∧
 (0:Int)≤(0:Int) ∧
 (0:Int)<(↑(2:Nat):Int) ∧
 0<(2:Nat) ∧
 ctM6.pre (((gtR x (0)).1,(gtR x (0)).2),()) ∧
 (0:Int)≤(1:Int) ∧
 (1:Int)<(↑(2:Nat):Int) ∧
 1<(2:Nat) ∧
 ctSz.pre (((gtR x (1)).1,(gtR x (1)).2),(szV (gtR x (0)).2 ((gtR x (0)).1 % (13:Int))).2.2.1,()) ∧
 (0:Int)≤(2:Int) ∧
 (2:Int)<(↑(3:Nat):Int) ∧
 2<(3:Nat) ∧
 (0:Int)≤(1:Int) ∧
 (1:Int)<(↑(2:Nat):Int) ∧
 1<(2:Nat) ∧
 ctSz.pre (((gtR x (1)).1,(gtR x (1)).2),IntKind.i64.wrap ((szV (gtR x (0)).2 ((gtR x (0)).1 % (13:Int))).2.2.1+(1:Int)),()) ∧
 (0:Int)≤(1:Int) ∧
 (1:Int)<(↑(3:Nat):Int) ∧
 1<(3:Nat) ∧
 (0:Int)≤(0:Int) ∧
 (0:Int)<(↑(3:Nat):Int) ∧
 0<(3:Nat) ∧
 ctCo.pre (((szV (gtR x (0)).2 ((gtR x (0)).1 % (13:Int))).1,(szV (gtR x (0)).2 ((gtR x (0)).1 % (13:Int))).2.1,IntKind.i64.wrap ((szV (gtR x (0)).2 ((gtR x (0)).1 % (13:Int))).2.2.1+(1:Int)),(szV (gtR x (0)).2 ((gtR x (0)).1 % (13:Int))).2.2.2),(szV (gtR x (1)).2 (IntKind.i64.wrap ((szV (gtR x (0)).2 ((gtR x (0)).1 % (13:Int))).2.2.1+(1:Int)))),()) ∧
 0+(2:Nat)≤(((List.replicate (2:Nat) paS.dflt).set (0:Nat) ((szV (gtR x (0)).2 ((gtR x (0)).1 % (13:Int))).1,(szV (gtR x (0)).2 ((gtR x (0)).1 % (13:Int))).2.1,IntKind.i64.wrap ((szV (gtR x (0)).2 ((gtR x (0)).1 % (13:Int))).2.2.1+(1:Int)),(szV (gtR x (0)).2 ((gtR x (0)).1 % (13:Int))).2.2.2)).set (1:Nat) (szV (gtR x (1)).2 (IntKind.i64.wrap ((szV (gtR x (0)).2 ((gtR x (0)).1 % (13:Int))).2.2.1+(1:Int))))).length ∧
 ctAl.pre (winL paS (0:Nat) (2:Nat) (((List.replicate (2:Nat) paS.dflt).set (0:Nat) ((szV (gtR x (0)).2 ((gtR x (0)).1 % (13:Int))).1,(szV (gtR x (0)).2 ((gtR x (0)).1 % (13:Int))).2.1,IntKind.i64.wrap ((szV (gtR x (0)).2 ((gtR x (0)).1 % (13:Int))).2.2.1+(1:Int)),(szV (gtR x (0)).2 ((gtR x (0)).1 % (13:Int))).2.2.2)).set (1:Nat) (szV (gtR x (1)).2 (IntKind.i64.wrap ((szV (gtR x (0)).2 ((gtR x (0)).1 % (13:Int))).2.2.1+(1:Int))))),()) ∧
 (0:Int)≤(9:Int) ∧
 (9:Int)≤(9:Int) ∧
 (9:Int)<(2:Int) ^ (24:Nat) ∧
 (↑(24:Nat):Int)*(9:Int)≤(2:Int) ^ (48:Nat) ∧
 0+9≤(List.replicate (9) syS.dflt).length ∧
 0+(2:Nat)≤(((List.replicate (2:Nat) syS.dflt).set (0:Nat) (false,(0:Int),(1:Int))).set (1:Nat) (true,IntKind.i64.wrap k,(0:Int))).length ∧
 ctTh.pre (winL syS 0 (9) (List.replicate (9) syS.dflt),winL syS (0:Nat) (2:Nat) (((List.replicate (2:Nat) syS.dflt).set (0:Nat) (false,(0:Int),(1:Int))).set (1:Nat) (true,IntKind.i64.wrap k,(0:Int))),()) ∧
 bc (decide ((coV ((szV (gtR x (0)).2 ((gtR x (0)).1 % (13:Int))).1,(szV (gtR x (0)).2 ((gtR x (0)).1 % (13:Int))).2.1,IntKind.i64.wrap ((szV (gtR x (0)).2 ((gtR x (0)).1 % (13:Int))).2.2.1+(1:Int)),(szV (gtR x (0)).2 ((gtR x (0)).1 % (13:Int))).2.2.2) (szV (gtR x (1)).2 (IntKind.i64.wrap ((szV (gtR x (0)).2 ((gtR x (0)).1 % (13:Int))).2.2.1+(1:Int))))).2=(60:Int))) (bc (decide ((allV (winL paS (0:Nat) (2:Nat) (((List.replicate (2:Nat) paS.dflt).set (0:Nat) ((szV (gtR x (0)).2 ((gtR x (0)).1 % (13:Int))).1,(szV (gtR x (0)).2 ((gtR x (0)).1 % (13:Int))).2.1,IntKind.i64.wrap ((szV (gtR x (0)).2 ((gtR x (0)).1 % (13:Int))).2.2.1+(1:Int)),(szV (gtR x (0)).2 ((gtR x (0)).1 % (13:Int))).2.2.2)).set (1:Nat) (szV (gtR x (1)).2 (IntKind.i64.wrap ((szV (gtR x (0)).2 ((gtR x (0)).1 % (13:Int))).2.2.1+(1:Int))))))).2=(60:Int))) (bc (decide ((0:Int)≤k)) (bc (bif true then decide ((thV (winL syS 0 (9) (List.replicate (9) syS.dflt)) (winL syS (0:Nat) (2:Nat) (((List.replicate (2:Nat) syS.dflt).set (0:Nat) (false,(0:Int),(1:Int))).set (1:Nat) (true,IntKind.i64.wrap k,(0:Int))))).2=(0:Int)) == bif true then decide (k<(9:Int)) else false else false) (bc (decide ((thV (winL syS 0 (9) (List.replicate (9) syS.dflt)) (winL syS (0:Nat) (2:Nat) (((List.replicate (2:Nat) syS.dflt).set (0:Nat) (false,(0:Int),(1:Int))).set (1:Nat) (true,IntKind.i64.wrap k,(0:Int))))).2=(0:Int))) (true=true ∧
 Q [.bool true] (mem_l8_101_m0 x k)) (bc (decide ((thV (winL syS 0 (9) (List.replicate (9) syS.dflt)) (winL syS (0:Nat) (2:Nat) (((List.replicate (2:Nat) syS.dflt).set (0:Nat) (false,(0:Int),(1:Int))).set (1:Nat) (true,IntKind.i64.wrap k,(0:Int))))).2=(61:Int))) (Q [.bool true] (mem_l8_101_m0 x k)) (false=false ∧
 Q [.bool false] (mem_l8_101_m0 x k)))) (false=false ∧
 false=false ∧
 Q [.bool false] (mem_l8_101_m0 x k))) (false=false ∧
 bc (bif true then decide ((thV (winL syS 0 (9) (List.replicate (9) syS.dflt)) (winL syS (0:Nat) (2:Nat) (((List.replicate (2:Nat) syS.dflt).set (0:Nat) (false,(0:Int),(1:Int))).set (1:Nat) (true,IntKind.i64.wrap k,(0:Int))))).2=(0:Int)) == false else false) (bc (decide ((thV (winL syS 0 (9) (List.replicate (9) syS.dflt)) (winL syS (0:Nat) (2:Nat) (((List.replicate (2:Nat) syS.dflt).set (0:Nat) (false,(0:Int),(1:Int))).set (1:Nat) (true,IntKind.i64.wrap k,(0:Int))))).2=(0:Int))) (true=true ∧
 Q [.bool true] (mem_l8_101_m0 x k)) (bc (decide ((thV (winL syS 0 (9) (List.replicate (9) syS.dflt)) (winL syS (0:Nat) (2:Nat) (((List.replicate (2:Nat) syS.dflt).set (0:Nat) (false,(0:Int),(1:Int))).set (1:Nat) (true,IntKind.i64.wrap k,(0:Int))))).2=(61:Int))) (Q [.bool true] (mem_l8_101_m0 x k)) (false=false ∧
 Q [.bool false] (mem_l8_101_m0 x k)))) (false=false ∧
 false=false ∧
 Q [.bool false] (mem_l8_101_m0 x k)))) (false=false ∧
 false=false ∧
 false=false ∧
 Q [.bool false] (mem_l8_101_m0 x k))) (false=false ∧
 false=false ∧
 false=false ∧
 false=false ∧
 Q [.bool false] (mem_l8_101_m0 x k))):=by kernel_rfl
def mem_l8_110_m0 (x:List RaT) (k:Int):List (Nat × LB):=[(3,.var [.arr (2:Nat) raS x]),(4,.var [.arr (3:Nat) Sh.bool [true,true,false]]),(8,.var [.bool (szV (gtR x (0)).2 ((gtR x (0)).1 % (13:Int))).1,.int .i64 (szV (gtR x (0)).2 ((gtR x (0)).1 % (13:Int))).2.1,.int .i64 (IntKind.i64.wrap ((szV (gtR x (0)).2 ((gtR x (0)).1 % (13:Int))).2.2.1+(1:Int))),.sl opS (szV (gtR x (0)).2 ((gtR x (0)).1 % (13:Int))).2.2.2]),(9,.var [.bool true,.int .i64 (szV (gtR x (1)).2 (szV (gtR x (0)).2 ((gtR x (0)).1 % (13:Int))).2.2.1).2.1,.int .i64 (szV (gtR x (1)).2 (szV (gtR x (0)).2 ((gtR x (0)).1 % (13:Int))).2.2.1).2.2.1,.sl opS (szV (gtR x (1)).2 (szV (gtR x (0)).2 ((gtR x (0)).1 % (13:Int))).2.2.1).2.2.2]),(11,.var [.bool (coV ((szV (gtR x (0)).2 ((gtR x (0)).1 % (13:Int))).1,(szV (gtR x (0)).2 ((gtR x (0)).1 % (13:Int))).2.1,IntKind.i64.wrap ((szV (gtR x (0)).2 ((gtR x (0)).1 % (13:Int))).2.2.1+(1:Int)),(szV (gtR x (0)).2 ((gtR x (0)).1 % (13:Int))).2.2.2) (true,(szV (gtR x (1)).2 (szV (gtR x (0)).2 ((gtR x (0)).1 % (13:Int))).2.2.1).2.1,(szV (gtR x (1)).2 (szV (gtR x (0)).2 ((gtR x (0)).1 % (13:Int))).2.2.1).2.2.1,(szV (gtR x (1)).2 (szV (gtR x (0)).2 ((gtR x (0)).1 % (13:Int))).2.2.1).2.2.2)).1.1,.int .i64 (coV ((szV (gtR x (0)).2 ((gtR x (0)).1 % (13:Int))).1,(szV (gtR x (0)).2 ((gtR x (0)).1 % (13:Int))).2.1,IntKind.i64.wrap ((szV (gtR x (0)).2 ((gtR x (0)).1 % (13:Int))).2.2.1+(1:Int)),(szV (gtR x (0)).2 ((gtR x (0)).1 % (13:Int))).2.2.2) (true,(szV (gtR x (1)).2 (szV (gtR x (0)).2 ((gtR x (0)).1 % (13:Int))).2.2.1).2.1,(szV (gtR x (1)).2 (szV (gtR x (0)).2 ((gtR x (0)).1 % (13:Int))).2.2.1).2.2.1,(szV (gtR x (1)).2 (szV (gtR x (0)).2 ((gtR x (0)).1 % (13:Int))).2.2.1).2.2.2)).1.2.1,.int .i64 (coV ((szV (gtR x (0)).2 ((gtR x (0)).1 % (13:Int))).1,(szV (gtR x (0)).2 ((gtR x (0)).1 % (13:Int))).2.1,IntKind.i64.wrap ((szV (gtR x (0)).2 ((gtR x (0)).1 % (13:Int))).2.2.1+(1:Int)),(szV (gtR x (0)).2 ((gtR x (0)).1 % (13:Int))).2.2.2) (true,(szV (gtR x (1)).2 (szV (gtR x (0)).2 ((gtR x (0)).1 % (13:Int))).2.2.1).2.1,(szV (gtR x (1)).2 (szV (gtR x (0)).2 ((gtR x (0)).1 % (13:Int))).2.2.1).2.2.1,(szV (gtR x (1)).2 (szV (gtR x (0)).2 ((gtR x (0)).1 % (13:Int))).2.2.1).2.2.2)).1.2.2.1,.sl opS (coV ((szV (gtR x (0)).2 ((gtR x (0)).1 % (13:Int))).1,(szV (gtR x (0)).2 ((gtR x (0)).1 % (13:Int))).2.1,IntKind.i64.wrap ((szV (gtR x (0)).2 ((gtR x (0)).1 % (13:Int))).2.2.1+(1:Int)),(szV (gtR x (0)).2 ((gtR x (0)).1 % (13:Int))).2.2.2) (true,(szV (gtR x (1)).2 (szV (gtR x (0)).2 ((gtR x (0)).1 % (13:Int))).2.2.1).2.1,(szV (gtR x (1)).2 (szV (gtR x (0)).2 ((gtR x (0)).1 % (13:Int))).2.2.1).2.2.1,(szV (gtR x (1)).2 (szV (gtR x (0)).2 ((gtR x (0)).1 % (13:Int))).2.2.1).2.2.2)).1.2.2.2]),(13,.var [.bool (allV (winL paS (0:Nat) (2:Nat) (((List.replicate (2:Nat) paS.dflt).set (0:Nat) ((szV (gtR x (0)).2 ((gtR x (0)).1 % (13:Int))).1,(szV (gtR x (0)).2 ((gtR x (0)).1 % (13:Int))).2.1,IntKind.i64.wrap ((szV (gtR x (0)).2 ((gtR x (0)).1 % (13:Int))).2.2.1+(1:Int)),(szV (gtR x (0)).2 ((gtR x (0)).1 % (13:Int))).2.2.2)).set (1:Nat) (true,(szV (gtR x (1)).2 (szV (gtR x (0)).2 ((gtR x (0)).1 % (13:Int))).2.2.1).2.1,(szV (gtR x (1)).2 (szV (gtR x (0)).2 ((gtR x (0)).1 % (13:Int))).2.2.1).2.2.1,(szV (gtR x (1)).2 (szV (gtR x (0)).2 ((gtR x (0)).1 % (13:Int))).2.2.1).2.2.2)))).1.1,.int .i64 (allV (winL paS (0:Nat) (2:Nat) (((List.replicate (2:Nat) paS.dflt).set (0:Nat) ((szV (gtR x (0)).2 ((gtR x (0)).1 % (13:Int))).1,(szV (gtR x (0)).2 ((gtR x (0)).1 % (13:Int))).2.1,IntKind.i64.wrap ((szV (gtR x (0)).2 ((gtR x (0)).1 % (13:Int))).2.2.1+(1:Int)),(szV (gtR x (0)).2 ((gtR x (0)).1 % (13:Int))).2.2.2)).set (1:Nat) (true,(szV (gtR x (1)).2 (szV (gtR x (0)).2 ((gtR x (0)).1 % (13:Int))).2.2.1).2.1,(szV (gtR x (1)).2 (szV (gtR x (0)).2 ((gtR x (0)).1 % (13:Int))).2.2.1).2.2.1,(szV (gtR x (1)).2 (szV (gtR x (0)).2 ((gtR x (0)).1 % (13:Int))).2.2.1).2.2.2)))).1.2.1,.int .i64 (allV (winL paS (0:Nat) (2:Nat) (((List.replicate (2:Nat) paS.dflt).set (0:Nat) ((szV (gtR x (0)).2 ((gtR x (0)).1 % (13:Int))).1,(szV (gtR x (0)).2 ((gtR x (0)).1 % (13:Int))).2.1,IntKind.i64.wrap ((szV (gtR x (0)).2 ((gtR x (0)).1 % (13:Int))).2.2.1+(1:Int)),(szV (gtR x (0)).2 ((gtR x (0)).1 % (13:Int))).2.2.2)).set (1:Nat) (true,(szV (gtR x (1)).2 (szV (gtR x (0)).2 ((gtR x (0)).1 % (13:Int))).2.2.1).2.1,(szV (gtR x (1)).2 (szV (gtR x (0)).2 ((gtR x (0)).1 % (13:Int))).2.2.1).2.2.1,(szV (gtR x (1)).2 (szV (gtR x (0)).2 ((gtR x (0)).1 % (13:Int))).2.2.1).2.2.2)))).1.2.2.1,.sl opS (allV (winL paS (0:Nat) (2:Nat) (((List.replicate (2:Nat) paS.dflt).set (0:Nat) ((szV (gtR x (0)).2 ((gtR x (0)).1 % (13:Int))).1,(szV (gtR x (0)).2 ((gtR x (0)).1 % (13:Int))).2.1,IntKind.i64.wrap ((szV (gtR x (0)).2 ((gtR x (0)).1 % (13:Int))).2.2.1+(1:Int)),(szV (gtR x (0)).2 ((gtR x (0)).1 % (13:Int))).2.2.2)).set (1:Nat) (true,(szV (gtR x (1)).2 (szV (gtR x (0)).2 ((gtR x (0)).1 % (13:Int))).2.2.1).2.1,(szV (gtR x (1)).2 (szV (gtR x (0)).2 ((gtR x (0)).1 % (13:Int))).2.2.1).2.2.1,(szV (gtR x (1)).2 (szV (gtR x (0)).2 ((gtR x (0)).1 % (13:Int))).2.2.1).2.2.2)))).1.2.2.2]),(57,.row 66 syS (List.replicate (9) syS.dflt)),(62,.row 66 syS (((List.replicate (2:Nat) syS.dflt).set (0:Nat) (false,(0:Int),(1:Int))).set (1:Nat) (true,IntKind.i64.wrap k,(0:Int)))),(1258048,.row 66 syS (thV (winL syS 0 (9) (List.replicate (9) syS.dflt)) (winL syS (0:Nat) (2:Nat) (((List.replicate (2:Nat) syS.dflt).set (0:Nat) (false,(0:Int),(1:Int))).set (1:Nat) (true,IntKind.i64.wrap k,(0:Int))))).1)]
theorem vc_l8_110 (x:List RaT) (k:Int) (Q:QT) (R:RT):sy tt G0 CL8 Tryd.f8.ntmps Tryd.f8.results.toList Q R 1000 [.code (bodyOf Tryd.f8)] (entry [.arr 2 raS,w3B,.int .i8] (x,[true,true,false],k,())) =
  (ctSn9.pre () ∧
 (0:Int)≤(0:Int) ∧
 (0:Int)<(↑(2:Nat):Int) ∧
 0<(2:Nat) ∧
 ctM6.pre (((gtR x (0)).1,(gtR x (0)).2),()) ∧
 (0:Int)≤(1:Int) ∧
 (1:Int)<(↑(2:Nat):Int) ∧
 1<(2:Nat) ∧
 ctSz.pre (((gtR x (1)).1,(gtR x (1)).2),(szV (gtR x (0)).2 ((gtR x (0)).1 % (13:Int))).2.2.1,()) ∧
 (0:Int)≤(2:Int) ∧
 (2:Int)<(↑(3:Nat):Int) ∧
 2<(3:Nat) ∧
 (0:Int)≤(1:Int) ∧
 (1:Int)<(↑(3:Nat):Int) ∧
 1<(3:Nat) ∧
 (0:Int)≤(0:Int) ∧
 (0:Int)<(↑(3:Nat):Int) ∧
 0<(3:Nat) ∧
 ctCo.pre (((szV (gtR x (0)).2 ((gtR x (0)).1 % (13:Int))).1,(szV (gtR x (0)).2 ((gtR x (0)).1 % (13:Int))).2.1,IntKind.i64.wrap ((szV (gtR x (0)).2 ((gtR x (0)).1 % (13:Int))).2.2.1+(1:Int)),(szV (gtR x (0)).2 ((gtR x (0)).1 % (13:Int))).2.2.2),(true,(szV (gtR x (1)).2 (szV (gtR x (0)).2 ((gtR x (0)).1 % (13:Int))).2.2.1).2.1,(szV (gtR x (1)).2 (szV (gtR x (0)).2 ((gtR x (0)).1 % (13:Int))).2.2.1).2.2.1,(szV (gtR x (1)).2 (szV (gtR x (0)).2 ((gtR x (0)).1 % (13:Int))).2.2.1).2.2.2),()) ∧
 0+(2:Nat)≤(((List.replicate (2:Nat) paS.dflt).set (0:Nat) ((szV (gtR x (0)).2 ((gtR x (0)).1 % (13:Int))).1,(szV (gtR x (0)).2 ((gtR x (0)).1 % (13:Int))).2.1,IntKind.i64.wrap ((szV (gtR x (0)).2 ((gtR x (0)).1 % (13:Int))).2.2.1+(1:Int)),(szV (gtR x (0)).2 ((gtR x (0)).1 % (13:Int))).2.2.2)).set (1:Nat) (true,(szV (gtR x (1)).2 (szV (gtR x (0)).2 ((gtR x (0)).1 % (13:Int))).2.2.1).2.1,(szV (gtR x (1)).2 (szV (gtR x (0)).2 ((gtR x (0)).1 % (13:Int))).2.2.1).2.2.1,(szV (gtR x (1)).2 (szV (gtR x (0)).2 ((gtR x (0)).1 % (13:Int))).2.2.1).2.2.2)).length ∧
 ctAl.pre (winL paS (0:Nat) (2:Nat) (((List.replicate (2:Nat) paS.dflt).set (0:Nat) ((szV (gtR x (0)).2 ((gtR x (0)).1 % (13:Int))).1,(szV (gtR x (0)).2 ((gtR x (0)).1 % (13:Int))).2.1,IntKind.i64.wrap ((szV (gtR x (0)).2 ((gtR x (0)).1 % (13:Int))).2.2.1+(1:Int)),(szV (gtR x (0)).2 ((gtR x (0)).1 % (13:Int))).2.2.2)).set (1:Nat) (true,(szV (gtR x (1)).2 (szV (gtR x (0)).2 ((gtR x (0)).1 % (13:Int))).2.2.1).2.1,(szV (gtR x (1)).2 (szV (gtR x (0)).2 ((gtR x (0)).1 % (13:Int))).2.2.1).2.2.1,(szV (gtR x (1)).2 (szV (gtR x (0)).2 ((gtR x (0)).1 % (13:Int))).2.2.1).2.2.2)),()) ∧
 (0:Int)≤(9:Int) ∧
 (9:Int)≤(9:Int) ∧
 (9:Int)<(2:Int) ^ (24:Nat) ∧
 (↑(24:Nat):Int)*(9:Int)≤(2:Int) ^ (48:Nat) ∧
 0+9≤(List.replicate (9) syS.dflt).length ∧
 0+(2:Nat)≤(((List.replicate (2:Nat) syS.dflt).set (0:Nat) (false,(0:Int),(1:Int))).set (1:Nat) (true,IntKind.i64.wrap k,(0:Int))).length ∧
 ctTh.pre (winL syS 0 (9) (List.replicate (9) syS.dflt),winL syS (0:Nat) (2:Nat) (((List.replicate (2:Nat) syS.dflt).set (0:Nat) (false,(0:Int),(1:Int))).set (1:Nat) (true,IntKind.i64.wrap k,(0:Int))),()) ∧
 bc (decide ((coV ((szV (gtR x (0)).2 ((gtR x (0)).1 % (13:Int))).1,(szV (gtR x (0)).2 ((gtR x (0)).1 % (13:Int))).2.1,IntKind.i64.wrap ((szV (gtR x (0)).2 ((gtR x (0)).1 % (13:Int))).2.2.1+(1:Int)),(szV (gtR x (0)).2 ((gtR x (0)).1 % (13:Int))).2.2.2) (true,(szV (gtR x (1)).2 (szV (gtR x (0)).2 ((gtR x (0)).1 % (13:Int))).2.2.1).2.1,(szV (gtR x (1)).2 (szV (gtR x (0)).2 ((gtR x (0)).1 % (13:Int))).2.2.1).2.2.1,(szV (gtR x (1)).2 (szV (gtR x (0)).2 ((gtR x (0)).1 % (13:Int))).2.2.1).2.2.2)).2=(60:Int))) (bc (decide ((allV (winL paS (0:Nat) (2:Nat) (((List.replicate (2:Nat) paS.dflt).set (0:Nat) ((szV (gtR x (0)).2 ((gtR x (0)).1 % (13:Int))).1,(szV (gtR x (0)).2 ((gtR x (0)).1 % (13:Int))).2.1,IntKind.i64.wrap ((szV (gtR x (0)).2 ((gtR x (0)).1 % (13:Int))).2.2.1+(1:Int)),(szV (gtR x (0)).2 ((gtR x (0)).1 % (13:Int))).2.2.2)).set (1:Nat) (true,(szV (gtR x (1)).2 (szV (gtR x (0)).2 ((gtR x (0)).1 % (13:Int))).2.2.1).2.1,(szV (gtR x (1)).2 (szV (gtR x (0)).2 ((gtR x (0)).1 % (13:Int))).2.2.1).2.2.1,(szV (gtR x (1)).2 (szV (gtR x (0)).2 ((gtR x (0)).1 % (13:Int))).2.2.1).2.2.2)))).2=(60:Int))) (bc (decide ((0:Int)≤k)) (bc (bif true then decide ((thV (winL syS 0 (9) (List.replicate (9) syS.dflt)) (winL syS (0:Nat) (2:Nat) (((List.replicate (2:Nat) syS.dflt).set (0:Nat) (false,(0:Int),(1:Int))).set (1:Nat) (true,IntKind.i64.wrap k,(0:Int))))).2=(0:Int)) == bif true then decide (k<(9:Int)) else false else false) (bc (decide ((thV (winL syS 0 (9) (List.replicate (9) syS.dflt)) (winL syS (0:Nat) (2:Nat) (((List.replicate (2:Nat) syS.dflt).set (0:Nat) (false,(0:Int),(1:Int))).set (1:Nat) (true,IntKind.i64.wrap k,(0:Int))))).2=(0:Int))) (true=true ∧
 Q [.bool true] (mem_l8_110_m0 x k)) (bc (decide ((thV (winL syS 0 (9) (List.replicate (9) syS.dflt)) (winL syS (0:Nat) (2:Nat) (((List.replicate (2:Nat) syS.dflt).set (0:Nat) (false,(0:Int),(1:Int))).set (1:Nat) (true,IntKind.i64.wrap k,(0:Int))))).2=(61:Int))) (Q [.bool true] (mem_l8_110_m0 x k)) (false=false ∧
 Q [.bool false] (mem_l8_110_m0 x k)))) (false=false ∧
 false=false ∧
 Q [.bool false] (mem_l8_110_m0 x k))) (false=false ∧
 bc (bif true then decide ((thV (winL syS 0 (9) (List.replicate (9) syS.dflt)) (winL syS (0:Nat) (2:Nat) (((List.replicate (2:Nat) syS.dflt).set (0:Nat) (false,(0:Int),(1:Int))).set (1:Nat) (true,IntKind.i64.wrap k,(0:Int))))).2=(0:Int)) == false else false) (bc (decide ((thV (winL syS 0 (9) (List.replicate (9) syS.dflt)) (winL syS (0:Nat) (2:Nat) (((List.replicate (2:Nat) syS.dflt).set (0:Nat) (false,(0:Int),(1:Int))).set (1:Nat) (true,IntKind.i64.wrap k,(0:Int))))).2=(0:Int))) (true=true ∧
 Q [.bool true] (mem_l8_110_m0 x k)) (bc (decide ((thV (winL syS 0 (9) (List.replicate (9) syS.dflt)) (winL syS (0:Nat) (2:Nat) (((List.replicate (2:Nat) syS.dflt).set (0:Nat) (false,(0:Int),(1:Int))).set (1:Nat) (true,IntKind.i64.wrap k,(0:Int))))).2=(61:Int))) (Q [.bool true] (mem_l8_110_m0 x k)) (false=false ∧
 Q [.bool false] (mem_l8_110_m0 x k)))) (false=false ∧
 false=false ∧
 Q [.bool false] (mem_l8_110_m0 x k)))) (false=false ∧
 false=false ∧
 false=false ∧
 Q [.bool false] (mem_l8_110_m0 x k))) (false=false ∧
 false=false ∧
 false=false ∧
 false=false ∧
 Q [.bool false] (mem_l8_110_m0 x k))):=by kernel_rfl
def mem_l8_111_m0 (x:List RaT) (k:Int):List (Nat × LB):=[(3,.var [.arr (2:Nat) raS x]),(4,.var [.arr (3:Nat) Sh.bool [true,true,true]]),(8,.var [.bool (szV (gtR x (0)).2 ((gtR x (0)).1 % (13:Int))).1,.int .i64 (szV (gtR x (0)).2 ((gtR x (0)).1 % (13:Int))).2.1,.int .i64 (IntKind.i64.wrap ((szV (gtR x (0)).2 ((gtR x (0)).1 % (13:Int))).2.2.1+(1:Int))),.sl opS (szV (gtR x (0)).2 ((gtR x (0)).1 % (13:Int))).2.2.2]),(9,.var [.bool true,.int .i64 (szV (gtR x (1)).2 (IntKind.i64.wrap ((szV (gtR x (0)).2 ((gtR x (0)).1 % (13:Int))).2.2.1+(1:Int)))).2.1,.int .i64 (szV (gtR x (1)).2 (IntKind.i64.wrap ((szV (gtR x (0)).2 ((gtR x (0)).1 % (13:Int))).2.2.1+(1:Int)))).2.2.1,.sl opS (szV (gtR x (1)).2 (IntKind.i64.wrap ((szV (gtR x (0)).2 ((gtR x (0)).1 % (13:Int))).2.2.1+(1:Int)))).2.2.2]),(11,.var [.bool (coV ((szV (gtR x (0)).2 ((gtR x (0)).1 % (13:Int))).1,(szV (gtR x (0)).2 ((gtR x (0)).1 % (13:Int))).2.1,IntKind.i64.wrap ((szV (gtR x (0)).2 ((gtR x (0)).1 % (13:Int))).2.2.1+(1:Int)),(szV (gtR x (0)).2 ((gtR x (0)).1 % (13:Int))).2.2.2) (true,(szV (gtR x (1)).2 (IntKind.i64.wrap ((szV (gtR x (0)).2 ((gtR x (0)).1 % (13:Int))).2.2.1+(1:Int)))).2.1,(szV (gtR x (1)).2 (IntKind.i64.wrap ((szV (gtR x (0)).2 ((gtR x (0)).1 % (13:Int))).2.2.1+(1:Int)))).2.2.1,(szV (gtR x (1)).2 (IntKind.i64.wrap ((szV (gtR x (0)).2 ((gtR x (0)).1 % (13:Int))).2.2.1+(1:Int)))).2.2.2)).1.1,.int .i64 (coV ((szV (gtR x (0)).2 ((gtR x (0)).1 % (13:Int))).1,(szV (gtR x (0)).2 ((gtR x (0)).1 % (13:Int))).2.1,IntKind.i64.wrap ((szV (gtR x (0)).2 ((gtR x (0)).1 % (13:Int))).2.2.1+(1:Int)),(szV (gtR x (0)).2 ((gtR x (0)).1 % (13:Int))).2.2.2) (true,(szV (gtR x (1)).2 (IntKind.i64.wrap ((szV (gtR x (0)).2 ((gtR x (0)).1 % (13:Int))).2.2.1+(1:Int)))).2.1,(szV (gtR x (1)).2 (IntKind.i64.wrap ((szV (gtR x (0)).2 ((gtR x (0)).1 % (13:Int))).2.2.1+(1:Int)))).2.2.1,(szV (gtR x (1)).2 (IntKind.i64.wrap ((szV (gtR x (0)).2 ((gtR x (0)).1 % (13:Int))).2.2.1+(1:Int)))).2.2.2)).1.2.1,.int .i64 (coV ((szV (gtR x (0)).2 ((gtR x (0)).1 % (13:Int))).1,(szV (gtR x (0)).2 ((gtR x (0)).1 % (13:Int))).2.1,IntKind.i64.wrap ((szV (gtR x (0)).2 ((gtR x (0)).1 % (13:Int))).2.2.1+(1:Int)),(szV (gtR x (0)).2 ((gtR x (0)).1 % (13:Int))).2.2.2) (true,(szV (gtR x (1)).2 (IntKind.i64.wrap ((szV (gtR x (0)).2 ((gtR x (0)).1 % (13:Int))).2.2.1+(1:Int)))).2.1,(szV (gtR x (1)).2 (IntKind.i64.wrap ((szV (gtR x (0)).2 ((gtR x (0)).1 % (13:Int))).2.2.1+(1:Int)))).2.2.1,(szV (gtR x (1)).2 (IntKind.i64.wrap ((szV (gtR x (0)).2 ((gtR x (0)).1 % (13:Int))).2.2.1+(1:Int)))).2.2.2)).1.2.2.1,.sl opS (coV ((szV (gtR x (0)).2 ((gtR x (0)).1 % (13:Int))).1,(szV (gtR x (0)).2 ((gtR x (0)).1 % (13:Int))).2.1,IntKind.i64.wrap ((szV (gtR x (0)).2 ((gtR x (0)).1 % (13:Int))).2.2.1+(1:Int)),(szV (gtR x (0)).2 ((gtR x (0)).1 % (13:Int))).2.2.2) (true,(szV (gtR x (1)).2 (IntKind.i64.wrap ((szV (gtR x (0)).2 ((gtR x (0)).1 % (13:Int))).2.2.1+(1:Int)))).2.1,(szV (gtR x (1)).2 (IntKind.i64.wrap ((szV (gtR x (0)).2 ((gtR x (0)).1 % (13:Int))).2.2.1+(1:Int)))).2.2.1,(szV (gtR x (1)).2 (IntKind.i64.wrap ((szV (gtR x (0)).2 ((gtR x (0)).1 % (13:Int))).2.2.1+(1:Int)))).2.2.2)).1.2.2.2]),(13,.var [.bool (allV (winL paS (0:Nat) (2:Nat) (((List.replicate (2:Nat) paS.dflt).set (0:Nat) ((szV (gtR x (0)).2 ((gtR x (0)).1 % (13:Int))).1,(szV (gtR x (0)).2 ((gtR x (0)).1 % (13:Int))).2.1,IntKind.i64.wrap ((szV (gtR x (0)).2 ((gtR x (0)).1 % (13:Int))).2.2.1+(1:Int)),(szV (gtR x (0)).2 ((gtR x (0)).1 % (13:Int))).2.2.2)).set (1:Nat) (true,(szV (gtR x (1)).2 (IntKind.i64.wrap ((szV (gtR x (0)).2 ((gtR x (0)).1 % (13:Int))).2.2.1+(1:Int)))).2.1,(szV (gtR x (1)).2 (IntKind.i64.wrap ((szV (gtR x (0)).2 ((gtR x (0)).1 % (13:Int))).2.2.1+(1:Int)))).2.2.1,(szV (gtR x (1)).2 (IntKind.i64.wrap ((szV (gtR x (0)).2 ((gtR x (0)).1 % (13:Int))).2.2.1+(1:Int)))).2.2.2)))).1.1,.int .i64 (allV (winL paS (0:Nat) (2:Nat) (((List.replicate (2:Nat) paS.dflt).set (0:Nat) ((szV (gtR x (0)).2 ((gtR x (0)).1 % (13:Int))).1,(szV (gtR x (0)).2 ((gtR x (0)).1 % (13:Int))).2.1,IntKind.i64.wrap ((szV (gtR x (0)).2 ((gtR x (0)).1 % (13:Int))).2.2.1+(1:Int)),(szV (gtR x (0)).2 ((gtR x (0)).1 % (13:Int))).2.2.2)).set (1:Nat) (true,(szV (gtR x (1)).2 (IntKind.i64.wrap ((szV (gtR x (0)).2 ((gtR x (0)).1 % (13:Int))).2.2.1+(1:Int)))).2.1,(szV (gtR x (1)).2 (IntKind.i64.wrap ((szV (gtR x (0)).2 ((gtR x (0)).1 % (13:Int))).2.2.1+(1:Int)))).2.2.1,(szV (gtR x (1)).2 (IntKind.i64.wrap ((szV (gtR x (0)).2 ((gtR x (0)).1 % (13:Int))).2.2.1+(1:Int)))).2.2.2)))).1.2.1,.int .i64 (allV (winL paS (0:Nat) (2:Nat) (((List.replicate (2:Nat) paS.dflt).set (0:Nat) ((szV (gtR x (0)).2 ((gtR x (0)).1 % (13:Int))).1,(szV (gtR x (0)).2 ((gtR x (0)).1 % (13:Int))).2.1,IntKind.i64.wrap ((szV (gtR x (0)).2 ((gtR x (0)).1 % (13:Int))).2.2.1+(1:Int)),(szV (gtR x (0)).2 ((gtR x (0)).1 % (13:Int))).2.2.2)).set (1:Nat) (true,(szV (gtR x (1)).2 (IntKind.i64.wrap ((szV (gtR x (0)).2 ((gtR x (0)).1 % (13:Int))).2.2.1+(1:Int)))).2.1,(szV (gtR x (1)).2 (IntKind.i64.wrap ((szV (gtR x (0)).2 ((gtR x (0)).1 % (13:Int))).2.2.1+(1:Int)))).2.2.1,(szV (gtR x (1)).2 (IntKind.i64.wrap ((szV (gtR x (0)).2 ((gtR x (0)).1 % (13:Int))).2.2.1+(1:Int)))).2.2.2)))).1.2.2.1,.sl opS (allV (winL paS (0:Nat) (2:Nat) (((List.replicate (2:Nat) paS.dflt).set (0:Nat) ((szV (gtR x (0)).2 ((gtR x (0)).1 % (13:Int))).1,(szV (gtR x (0)).2 ((gtR x (0)).1 % (13:Int))).2.1,IntKind.i64.wrap ((szV (gtR x (0)).2 ((gtR x (0)).1 % (13:Int))).2.2.1+(1:Int)),(szV (gtR x (0)).2 ((gtR x (0)).1 % (13:Int))).2.2.2)).set (1:Nat) (true,(szV (gtR x (1)).2 (IntKind.i64.wrap ((szV (gtR x (0)).2 ((gtR x (0)).1 % (13:Int))).2.2.1+(1:Int)))).2.1,(szV (gtR x (1)).2 (IntKind.i64.wrap ((szV (gtR x (0)).2 ((gtR x (0)).1 % (13:Int))).2.2.1+(1:Int)))).2.2.1,(szV (gtR x (1)).2 (IntKind.i64.wrap ((szV (gtR x (0)).2 ((gtR x (0)).1 % (13:Int))).2.2.1+(1:Int)))).2.2.2)))).1.2.2.2]),(57,.row 66 syS (List.replicate (9) syS.dflt)),(62,.row 66 syS (((List.replicate (2:Nat) syS.dflt).set (0:Nat) (false,(0:Int),(1:Int))).set (1:Nat) (true,IntKind.i64.wrap k,(0:Int)))),(1258048,.row 66 syS (thV (winL syS 0 (9) (List.replicate (9) syS.dflt)) (winL syS (0:Nat) (2:Nat) (((List.replicate (2:Nat) syS.dflt).set (0:Nat) (false,(0:Int),(1:Int))).set (1:Nat) (true,IntKind.i64.wrap k,(0:Int))))).1)]
theorem vc_l8_111 (x:List RaT) (k:Int) (Q:QT) (R:RT):sy tt G0 CL8 Tryd.f8.ntmps Tryd.f8.results.toList Q R 1000 [.code (bodyOf Tryd.f8)] (entry [.arr 2 raS,w3B,.int .i8] (x,[true,true,true],k,())) =
  (ctSn9.pre () ∧
 (0:Int)≤(0:Int) ∧
 (0:Int)<(↑(2:Nat):Int) ∧
 0<(2:Nat) ∧
 ctM6.pre (((gtR x (0)).1,(gtR x (0)).2),()) ∧
 (0:Int)≤(1:Int) ∧
 (1:Int)<(↑(2:Nat):Int) ∧
 1<(2:Nat) ∧
 ctSz.pre (((gtR x (1)).1,(gtR x (1)).2),(szV (gtR x (0)).2 ((gtR x (0)).1 % (13:Int))).2.2.1,()) ∧
 (0:Int)≤(2:Int) ∧
 (2:Int)<(↑(3:Nat):Int) ∧
 2<(3:Nat) ∧
 (0:Int)≤(1:Int) ∧
 (1:Int)<(↑(2:Nat):Int) ∧
 1<(2:Nat) ∧
 ctSz.pre (((gtR x (1)).1,(gtR x (1)).2),IntKind.i64.wrap ((szV (gtR x (0)).2 ((gtR x (0)).1 % (13:Int))).2.2.1+(1:Int)),()) ∧
 (0:Int)≤(1:Int) ∧
 (1:Int)<(↑(3:Nat):Int) ∧
 1<(3:Nat) ∧
 (0:Int)≤(0:Int) ∧
 (0:Int)<(↑(3:Nat):Int) ∧
 0<(3:Nat) ∧
 ctCo.pre (((szV (gtR x (0)).2 ((gtR x (0)).1 % (13:Int))).1,(szV (gtR x (0)).2 ((gtR x (0)).1 % (13:Int))).2.1,IntKind.i64.wrap ((szV (gtR x (0)).2 ((gtR x (0)).1 % (13:Int))).2.2.1+(1:Int)),(szV (gtR x (0)).2 ((gtR x (0)).1 % (13:Int))).2.2.2),(true,(szV (gtR x (1)).2 (IntKind.i64.wrap ((szV (gtR x (0)).2 ((gtR x (0)).1 % (13:Int))).2.2.1+(1:Int)))).2.1,(szV (gtR x (1)).2 (IntKind.i64.wrap ((szV (gtR x (0)).2 ((gtR x (0)).1 % (13:Int))).2.2.1+(1:Int)))).2.2.1,(szV (gtR x (1)).2 (IntKind.i64.wrap ((szV (gtR x (0)).2 ((gtR x (0)).1 % (13:Int))).2.2.1+(1:Int)))).2.2.2),()) ∧
 0+(2:Nat)≤(((List.replicate (2:Nat) paS.dflt).set (0:Nat) ((szV (gtR x (0)).2 ((gtR x (0)).1 % (13:Int))).1,(szV (gtR x (0)).2 ((gtR x (0)).1 % (13:Int))).2.1,IntKind.i64.wrap ((szV (gtR x (0)).2 ((gtR x (0)).1 % (13:Int))).2.2.1+(1:Int)),(szV (gtR x (0)).2 ((gtR x (0)).1 % (13:Int))).2.2.2)).set (1:Nat) (true,(szV (gtR x (1)).2 (IntKind.i64.wrap ((szV (gtR x (0)).2 ((gtR x (0)).1 % (13:Int))).2.2.1+(1:Int)))).2.1,(szV (gtR x (1)).2 (IntKind.i64.wrap ((szV (gtR x (0)).2 ((gtR x (0)).1 % (13:Int))).2.2.1+(1:Int)))).2.2.1,(szV (gtR x (1)).2 (IntKind.i64.wrap ((szV (gtR x (0)).2 ((gtR x (0)).1 % (13:Int))).2.2.1+(1:Int)))).2.2.2)).length ∧
 ctAl.pre (winL paS (0:Nat) (2:Nat) (((List.replicate (2:Nat) paS.dflt).set (0:Nat) ((szV (gtR x (0)).2 ((gtR x (0)).1 % (13:Int))).1,(szV (gtR x (0)).2 ((gtR x (0)).1 % (13:Int))).2.1,IntKind.i64.wrap ((szV (gtR x (0)).2 ((gtR x (0)).1 % (13:Int))).2.2.1+(1:Int)),(szV (gtR x (0)).2 ((gtR x (0)).1 % (13:Int))).2.2.2)).set (1:Nat) (true,(szV (gtR x (1)).2 (IntKind.i64.wrap ((szV (gtR x (0)).2 ((gtR x (0)).1 % (13:Int))).2.2.1+(1:Int)))).2.1,(szV (gtR x (1)).2 (IntKind.i64.wrap ((szV (gtR x (0)).2 ((gtR x (0)).1 % (13:Int))).2.2.1+(1:Int)))).2.2.1,(szV (gtR x (1)).2 (IntKind.i64.wrap ((szV (gtR x (0)).2 ((gtR x (0)).1 % (13:Int))).2.2.1+(1:Int)))).2.2.2)),()) ∧
 (0:Int)≤(9:Int) ∧
 (9:Int)≤(9:Int) ∧
 (9:Int)<(2:Int) ^ (24:Nat) ∧
 (↑(24:Nat):Int)*(9:Int)≤(2:Int) ^ (48:Nat) ∧
 0+9≤(List.replicate (9) syS.dflt).length ∧
 0+(2:Nat)≤(((List.replicate (2:Nat) syS.dflt).set (0:Nat) (false,(0:Int),(1:Int))).set (1:Nat) (true,IntKind.i64.wrap k,(0:Int))).length ∧
 ctTh.pre (winL syS 0 (9) (List.replicate (9) syS.dflt),winL syS (0:Nat) (2:Nat) (((List.replicate (2:Nat) syS.dflt).set (0:Nat) (false,(0:Int),(1:Int))).set (1:Nat) (true,IntKind.i64.wrap k,(0:Int))),()) ∧
 bc (decide ((coV ((szV (gtR x (0)).2 ((gtR x (0)).1 % (13:Int))).1,(szV (gtR x (0)).2 ((gtR x (0)).1 % (13:Int))).2.1,IntKind.i64.wrap ((szV (gtR x (0)).2 ((gtR x (0)).1 % (13:Int))).2.2.1+(1:Int)),(szV (gtR x (0)).2 ((gtR x (0)).1 % (13:Int))).2.2.2) (true,(szV (gtR x (1)).2 (IntKind.i64.wrap ((szV (gtR x (0)).2 ((gtR x (0)).1 % (13:Int))).2.2.1+(1:Int)))).2.1,(szV (gtR x (1)).2 (IntKind.i64.wrap ((szV (gtR x (0)).2 ((gtR x (0)).1 % (13:Int))).2.2.1+(1:Int)))).2.2.1,(szV (gtR x (1)).2 (IntKind.i64.wrap ((szV (gtR x (0)).2 ((gtR x (0)).1 % (13:Int))).2.2.1+(1:Int)))).2.2.2)).2=(60:Int))) (bc (decide ((allV (winL paS (0:Nat) (2:Nat) (((List.replicate (2:Nat) paS.dflt).set (0:Nat) ((szV (gtR x (0)).2 ((gtR x (0)).1 % (13:Int))).1,(szV (gtR x (0)).2 ((gtR x (0)).1 % (13:Int))).2.1,IntKind.i64.wrap ((szV (gtR x (0)).2 ((gtR x (0)).1 % (13:Int))).2.2.1+(1:Int)),(szV (gtR x (0)).2 ((gtR x (0)).1 % (13:Int))).2.2.2)).set (1:Nat) (true,(szV (gtR x (1)).2 (IntKind.i64.wrap ((szV (gtR x (0)).2 ((gtR x (0)).1 % (13:Int))).2.2.1+(1:Int)))).2.1,(szV (gtR x (1)).2 (IntKind.i64.wrap ((szV (gtR x (0)).2 ((gtR x (0)).1 % (13:Int))).2.2.1+(1:Int)))).2.2.1,(szV (gtR x (1)).2 (IntKind.i64.wrap ((szV (gtR x (0)).2 ((gtR x (0)).1 % (13:Int))).2.2.1+(1:Int)))).2.2.2)))).2=(60:Int))) (bc (decide ((0:Int)≤k)) (bc (bif true then decide ((thV (winL syS 0 (9) (List.replicate (9) syS.dflt)) (winL syS (0:Nat) (2:Nat) (((List.replicate (2:Nat) syS.dflt).set (0:Nat) (false,(0:Int),(1:Int))).set (1:Nat) (true,IntKind.i64.wrap k,(0:Int))))).2=(0:Int)) == bif true then decide (k<(9:Int)) else false else false) (bc (decide ((thV (winL syS 0 (9) (List.replicate (9) syS.dflt)) (winL syS (0:Nat) (2:Nat) (((List.replicate (2:Nat) syS.dflt).set (0:Nat) (false,(0:Int),(1:Int))).set (1:Nat) (true,IntKind.i64.wrap k,(0:Int))))).2=(0:Int))) (true=true ∧
 Q [.bool true] (mem_l8_111_m0 x k)) (bc (decide ((thV (winL syS 0 (9) (List.replicate (9) syS.dflt)) (winL syS (0:Nat) (2:Nat) (((List.replicate (2:Nat) syS.dflt).set (0:Nat) (false,(0:Int),(1:Int))).set (1:Nat) (true,IntKind.i64.wrap k,(0:Int))))).2=(61:Int))) (Q [.bool true] (mem_l8_111_m0 x k)) (false=false ∧
 Q [.bool false] (mem_l8_111_m0 x k)))) (false=false ∧
 false=false ∧
 Q [.bool false] (mem_l8_111_m0 x k))) (false=false ∧
 bc (bif true then decide ((thV (winL syS 0 (9) (List.replicate (9) syS.dflt)) (winL syS (0:Nat) (2:Nat) (((List.replicate (2:Nat) syS.dflt).set (0:Nat) (false,(0:Int),(1:Int))).set (1:Nat) (true,IntKind.i64.wrap k,(0:Int))))).2=(0:Int)) == false else false) (bc (decide ((thV (winL syS 0 (9) (List.replicate (9) syS.dflt)) (winL syS (0:Nat) (2:Nat) (((List.replicate (2:Nat) syS.dflt).set (0:Nat) (false,(0:Int),(1:Int))).set (1:Nat) (true,IntKind.i64.wrap k,(0:Int))))).2=(0:Int))) (true=true ∧
 Q [.bool true] (mem_l8_111_m0 x k)) (bc (decide ((thV (winL syS 0 (9) (List.replicate (9) syS.dflt)) (winL syS (0:Nat) (2:Nat) (((List.replicate (2:Nat) syS.dflt).set (0:Nat) (false,(0:Int),(1:Int))).set (1:Nat) (true,IntKind.i64.wrap k,(0:Int))))).2=(61:Int))) (Q [.bool true] (mem_l8_111_m0 x k)) (false=false ∧
 Q [.bool false] (mem_l8_111_m0 x k)))) (false=false ∧
 false=false ∧
 Q [.bool false] (mem_l8_111_m0 x k)))) (false=false ∧
 false=false ∧
 false=false ∧
 Q [.bool false] (mem_l8_111_m0 x k))) (false=false ∧
 false=false ∧
 false=false ∧
 false=false ∧
 Q [.bool false] (mem_l8_111_m0 x k))):=by kernel_rfl
end Go.Proofs.YticpkibnhakgbaaDoor
namespace Go.Proofs.YticpkibnhakgbaaDoor
open Go.Px Go.Ax
set_option maxRecDepth 100000
def wtV (p q:PaT):Int:=if p.1≠q.1 then 62 else if p.2.2.1≠q.2.1 then 61 else 0
theorem co_w {p q:PaT} (hp:(chkV p).2=0) (hq:(chkV q).2=0) (hs:q.2.2.1≤4096):(coV p q).2=wtV p q:=by
 unfold wtV
 split
 ·rename_i h
  unfold coV
  rw[sy_ok hp,sy_ok hq,if_neg (by simp),if_neg (by simp),if_pos h]
 ·rename_i h
  split
  ·rename_i h2
   unfold coV
   rw[sy_ok hp,sy_ok hq,if_neg (by simp),if_neg (by simp),if_neg h,if_pos h2]
  ·rename_i h2
   rw[co_nf hp hq (Decidable.not_not.1 h) (Decidable.not_not.1 h2) hs]
theorem al_2 (p q:PaT) (h:(foV p).2=0):(allV [p,q]).2=(coV (foV p).1 q).2:=by
 rw[allV,if_neg (by omega),alF]
 split
 ·rfl
 ·rfl
theorem al_w {p q:PaT} (hp:(chkV p).2=0) (hq:(chkV q).2=0) (ho:p.2.2.1≤4096) (hs:q.2.2.1≤4096):(allV [p,q]).2=wtV p q:=by
 obtain ⟨r1,r2,r3⟩:=sy_right hp
 have e:=fo_nf hp ho
 obtain ⟨n1,_,_⟩:=nf_ok p.1 r1 r2.1 r2.2 (by omega)
 rw[al_2 p q (by rw[e]),e]
 have:=co_w n1 hq hs
 rw[this]
 unfold wtV
 rw[show (nfP p.1 p.2.1 (symF p.2.2.2)).2.2.1=p.2.2.1 from r3]
theorem co_b {p q:PaT} (h:lenS p.2.2.2≠p.2.2.1):(coV p q).2=60:=by
 unfold coV
 rw[(bad_fo h).1]
 rfl
theorem al_b {p q:PaT} (h:lenS p.2.2.2≠p.2.2.1):(allV [p,q]).2=60:=by
 rw[allV,(bad_fo h).2]
 rfl
end Go.Proofs.YticpkibnhakgbaaDoor
