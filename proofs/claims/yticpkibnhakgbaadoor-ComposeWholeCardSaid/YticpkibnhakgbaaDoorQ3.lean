/-
  A part of the proof: what pieces of the program give; conditions: those of each theorem.
-/
import Derived.Test.YticpkibnhakgbaaDoorQ2
import Derived.Test.YticpkibnhakgbaaDoorHD
import Derived.Test.YticpkibnhakgbaaDoorQ1
import Derived.KernelRfl
set_option linter.unusedVariables false
set_option linter.unusedSimpArgs false
namespace Go.Proofs.YticpkibnhakgbaaDoor
open Go.Px Go.Ax
set_option maxRecDepth 100000
def CIn:CV:=[(33,.inr ctA1)]
theorem cxIn:CxOK Tryd.prog tt G0 CIn:=cx0.consI a1_held (fn:=Tryd.f33) rfl rfl rfl
set_option maxRecDepth 100000
theorem vc_ino (l:List PaT) (li:Bool) (m o:Int) (k:List OpT) (Q:QT) (R:RT):sy tt G0 CIn Tryd.f32.ntmps Tryd.f32.results.toList Q R 1000 [.code (bodyOf Tryd.f32)] (entryI KIn (((),((li,m,o,k,()),())),l,())) =
  (R (hd Tryd.f32 0) { env:=[(0,.fn (33:Nat) [] [.ptr 1099511627776 0]),(1,.sl paS l),(4,.int .i64 0),(8,.sl paS l),(9,.int .i64 (l.length:Int)),(10,.int .i64 0)],blk:=[(1099511627776,.var [.bool li,.int .i64 m,.int .i64 o,.sl opS k])] }):=by kernel_rfl
theorem vc_inoL (l:List PaT) (li:Bool) (m o i:Int) (k:List OpT) (Q:QT) (R:RT):sy tt G0 CIn Tryd.f32.ntmps Tryd.f32.results.toList Q (fun it S=>R it (keepS [0,8,9,10] [1099511627776] S)) 1000 (hd Tryd.f32 0) ⟨[(0,.fn 33 [] [.ptr 1099511627776 0]),(8,.sl paS l),(9,.int .i64 l.length),(10,.int .i64 i)],[(1099511627776,.var [.bool li,.int .i64 m,.int .i64 o,.sl opS k])]⟩ =
  (bc (decide (i<(l.length:Int))) ((0:Int)≤i ∧
 i<(l.length:Int) ∧
 ctA1.pre ((gtP l i.toNat),(li,m,o,k,()),()) ∧
 bc (decide ((coV (li,m,o,k) (gtP l i.toNat)).2≠(0:Int))) (Q [.int .i64 (coV (li,m,o,k) (gtP l i.toNat)).2] [(6,.var [.bool (gtP l i.toNat).1,.int .i64 (gtP l i.toNat).2.1,.int .i64 (gtP l i.toNat).2.2.1,.sl opS (gtP l i.toNat).2.2.2]),(1099511627776,.var [.bool (ptD (coV (li,m,o,k) (gtP l i.toNat)).1).1,.int .i64 (ptD (coV (li,m,o,k) (gtP l i.toNat)).1).2.1,.int .i64 (ptD (coV (li,m,o,k) (gtP l i.toNat)).1).2.2.1,.sl opS (ptD (coV (li,m,o,k) (gtP l i.toNat)).1).2.2.2.1])]) (R (hd Tryd.f32 0) { env:=[(0,.fn (33:Nat) [] [.ptr 1099511627776 0]),(8,.sl paS l),(9,.int .i64 (l.length:Int)),(10,.int .i64 (IntKind.i64.wrap (i+(1:Int))))],blk:=[(1099511627776,.var [.bool (ptD (coV (li,m,o,k) (gtP l i.toNat)).1).1,.int .i64 (ptD (coV (li,m,o,k) (gtP l i.toNat)).1).2.1,.int .i64 (ptD (coV (li,m,o,k) (gtP l i.toNat)).1).2.2.1,.sl opS (ptD (coV (li,m,o,k) (gtP l i.toNat)).1).2.2.2.1])] })) (Q [.int .i64 0] [(1099511627776,.var [.bool li,.int .i64 m,.int .i64 o,.sl opS k])])):=by kernel_rfl
end Go.Proofs.YticpkibnhakgbaaDoor
namespace Go.Proofs.YticpkibnhakgbaaDoor
open Go.Px Go.Ax
set_option maxRecDepth 100000
attribute [local irreducible] Go.Px.sy Go.Px.syE
theorem gtP_at {l:List PaT} {i:Nat} (h:i<l.length):gtP l i=l[i]:=by
 show gt paS l i=_
 unfold gt
 rw[List.getElem?_eq_getElem h];rfl
abbrev vrP (p:PaT):LB:=.var [.bool p.1,.int .i64 p.2.1,.int .i64 p.2.2.1,.sl opS p.2.2.2]
abbrev InQ (p:PaT) (l:List PaT):List SV→List (Nat × LB)→Prop:=fun rs blk=>rs=[.int .i64 (alF (p,0) l).2]∧lk blk 1099511627776=some (vrP (alF (p,0) l).1)
theorem ino_loop (l:List PaT) (hl:l.length<1099511627776):∀ (k i:Nat) (p:PaT),l.length-i=k→i≤l.length →
  GD 32 Tryd.f32 (InQ p (l.drop i)) (hd Tryd.f32 0) ⟨[(0,.fn 33 [] [.ptr 1099511627776 0]),(8,.sl paS l),(9,.int .i64 l.length),(10,.int .i64 (i:Nat))],[(1099511627776,vrP p)]⟩:=by
 intro k
 induction k with
 | zero=>
  intro i p hk hi
  obtain ⟨li,m,o,k⟩:=p
  refine sy_goK cxIn (vc_inoL l li m o i k _ _) ?_
  rw[decide_eq_false (by omega),bc_f,List.drop_of_length_le (by omega)]
  exact ⟨rfl,rfl⟩
 | succ c ih=>
  intro i p hk hi
  obtain ⟨li,m,o,k⟩:=p
  have hlt:i<l.length:=by omega
  refine sy_goK cxIn (vc_inoL l li m o i k _ _) ?_
  rw[decide_eq_true (show (i:Int)<(l.length:Int) by omega),bc_t,Int.toNat_natCast,IntWalk.i64_in ((i:Int)+1) (by omega),List.drop_eq_getElem_cons hlt,← gtP_at hlt]
  refine ⟨by omega,by omega,trivial,bc_of (fun h=>?_) (fun h=>?_)⟩
  ·have h:(coV (li,m,o,k) (gtP l i)).2≠0:=of_decide_eq_true h
   have e:alF ((li,m,o,k),0) (gtP l i::l.drop (i+1))=coV (li,m,o,k) (gtP l i):=by rw[alF];exact if_pos h
   show InQ _ _ _ _
   unfold InQ
   rw[e]
   exact ⟨rfl,rfl⟩
  ·have h:¬ (coV (li,m,o,k) (gtP l i)).2≠0:=of_decide_eq_false h
   have h0:coV (li,m,o,k) (gtP l i)=((coV (li,m,o,k) (gtP l i)).1,0):=Prod.ext rfl (by omega)
   have e:alF ((li,m,o,k),0) (gtP l i::l.drop (i+1))=alF ((coV (li,m,o,k) (gtP l i)).1,0) (l.drop (i+1)):=by
    rw[← h0,alF];exact if_neg h
   have g:=ih (i+1) (coV (li,m,o,k) (gtP l i)).1 (by omega) (by omega)
   unfold InQ at g ⊢
   rw[e]
   exact g
def ctIno:CtrI:=⟨KIn,fun x=>List.length x.2.1<1099511627776,fun x=>[.int .i64 (alF ((x.1.2.1.1,x.1.2.1.2.1,x.1.2.1.2.2.1,x.1.2.1.2.2.2.1),0) x.2.1).2],
 fun x=>bkKL 0 KIn (((),(ptD (alF ((x.1.2.1.1,x.1.2.1.2.1,x.1.2.1.2.2.1,x.1.2.1.2.2.2.1),0) x.2.1).1,())),x.2.1,())⟩
theorem ino_run (l:List PaT) (li:Bool) (m o:Int) (k:List OpT) (hl:l.length<1099511627776):sy tt G0 CIn Tryd.f32.ntmps Tryd.f32.results.toList (QI ctIno (((),((li,m,o,k,()),())),l,())) (Px.Good Tryd.prog tt G0 32 Tryd.f32.ntmps Tryd.f32.results.toList (QI ctIno (((),((li,m,o,k,()),())),l,()))) 1000 [.code (bodyOf Tryd.f32)] (entryI KIn (((),((li,m,o,k,()),())),l,())):=by
 rw[vc_ino]
 refine ((ino_loop l hl _ 0 (li,m,o,k) rfl (Nat.zero_le _)).post fun rs blk hq=>?_).only ⟨rfl,rfl,rfl,rfl,trivial⟩ ⟨rfl,trivial⟩
 obtain ⟨h1,h2⟩:=hq
 rw[List.drop_zero] at h1 h2
 subst h1
 refine QI.self rfl rfl rfl ?_
 intro b hb
 simp only[ctIno,bkKL,bkK,cnt,cntL,List.append_nil,List.nil_append,List.mem_append,List.mem_cons,List.mem_singleton,List.not_mem_nil,or_false] at hb
 rcases hb with rfl <;> exact h2
theorem ino_held:HeldI Tryd.prog G0 32 ctIno:=HeldI.run cxIn (fn:=Tryd.f32) rfl rfl ⟨by decide,by decide⟩ fun x hp=>ino_run x.2.1 x.1.2.1.1 x.1.2.1.2.1 x.1.2.1.2.2.1 x.1.2.1.2.2.2.1 hp
end Go.Proofs.YticpkibnhakgbaaDoor
namespace Go.Proofs.YticpkibnhakgbaaDoor
open Go.Px Go.Ax
set_option maxRecDepth 100000
def CAl:CV:=[(32,.inr ctIno),(20,.inl ctFo)]
theorem cxAl:CxOK Tryd.prog tt G0 CAl:=(cx0.cons fo_held (fn:=Tryd.f20) rfl rfl rfl).consI ino_held (fn:=Tryd.f32) rfl rfl rfl
set_option maxRecDepth 100000
theorem vc_all (l:List PaT) (Q:QT) (R:RT):sy tt G0 CAl Tryd.f11.ntmps Tryd.f11.results.toList Q R 1000 [.code (bodyOf Tryd.f11)] (entry [.sl paS] (l,())) =
  (bc (decide ((l.length:Int)=(0:Int))) (Q [.agg [.bool false,.int .i64 0,.int .i64 0,.nils],.int .i64 1] [(2,.var [.bool false,.int .i64 0,.int .i64 0,.nils])]) ((0:Int)≤(0:Int) ∧
 (0:Int)<(l.length:Int) ∧
 ctFo.pre ((gtP l (0)),()) ∧
 bc (decide ((foV (gtP l (0))).2≠(0:Int))) (Q [.agg [.bool false,.int .i64 0,.int .i64 0,.nils],.int .i64 (foV (gtP l (0))).2] [(2,.var [.bool false,.int .i64 0,.int .i64 0,.nils]),(4,.var [.bool (foV (gtP l (0))).1.1,.int .i64 (foV (gtP l (0))).1.2.1,.int .i64 (foV (gtP l (0))).1.2.2.1,.sl opS (foV (gtP l (0))).1.2.2.2])]) ((0:Int)≤(1:Int) ∧
 (1:Int)≤(l.length:Int) ∧
 ctIno.pre (((),((foV (gtP l (0))).1.1,(foV (gtP l (0))).1.2.1,(foV (gtP l (0))).1.2.2.1,(foV (gtP l (0))).1.2.2.2,()),()),List.drop (1) l,()) ∧
 Q [.agg [.bool (ptD (alF (((foV (gtP l (0))).1),(0:Int)) (List.drop (1) l)).1).1,.int .i64 (ptD (alF (((foV (gtP l (0))).1),(0:Int)) (List.drop (1) l)).1).2.1,.int .i64 (ptD (alF (((foV (gtP l (0))).1),(0:Int)) (List.drop (1) l)).1).2.2.1,.sl opS (ptD (alF (((foV (gtP l (0))).1),(0:Int)) (List.drop (1) l)).1).2.2.2.1],.int .i64 (alF (((foV (gtP l (0))).1),(0:Int)) (List.drop (1) l)).2] [(2,.var [.bool (ptD (alF (((foV (gtP l (0))).1),(0:Int)) (List.drop (1) l)).1).1,.int .i64 (ptD (alF (((foV (gtP l (0))).1),(0:Int)) (List.drop (1) l)).1).2.1,.int .i64 (ptD (alF (((foV (gtP l (0))).1),(0:Int)) (List.drop (1) l)).1).2.2.1,.sl opS (ptD (alF (((foV (gtP l (0))).1),(0:Int)) (List.drop (1) l)).1).2.2.2.1]),(4,.var [.bool (ptD (alF (((foV (gtP l (0))).1),(0:Int)) (List.drop (1) l)).1).1,.int .i64 (ptD (alF (((foV (gtP l (0))).1),(0:Int)) (List.drop (1) l)).1).2.1,.int .i64 (ptD (alF (((foV (gtP l (0))).1),(0:Int)) (List.drop (1) l)).1).2.2.1,.sl opS (ptD (alF (((foV (gtP l (0))).1),(0:Int)) (List.drop (1) l)).1).2.2.2.1])]))):=by kernel_rfl
end Go.Proofs.YticpkibnhakgbaaDoor
namespace Go.Proofs.YticpkibnhakgbaaDoor
open Go.Px Go.Ax
set_option maxRecDepth 100000
attribute [local irreducible] Go.Px.sy Go.Px.syE
def ctAl:Ctr:=⟨[.sl paS],fun x=>List.length x.1<1099511627776,fun x=>[paV (allV x.1).1,.int .i64 (allV x.1).2],fun _=>[]⟩
theorem al_err {l:List PaT} {z:Int} {bl:List (Nat × LB)} (h:allV l=(zP,z)):QC ctAl (l,()) [.agg [.bool false,.int .i64 0,.int .i64 0,.nils],.int .i64 z] bl:=
 QC.mt (by show MtL _ [paV (allV l).1,.int .i64 (allV l).2] _;rw[h];exact zero_mt _) rfl
theorem al_fin {l:List PaT} {r:PaT × Int} {bl:List (Nat × LB)} (h:allV l=r):QC ctAl (l,()) [paV r.1,.int .i64 r.2] bl:=
 QC.flat (by show [paV (allV l).1,.int .i64 (allV l).2]=_;rw[h]) rfl rfl
theorem all_run (l:List PaT) (hl:l.length<1099511627776) (R:List Item→PS→Prop):sy tt G0 CAl Tryd.f11.ntmps Tryd.f11.results.toList (QC ctAl (l,())) R 1000 [.code (bodyOf Tryd.f11)] (entry [.sl paS] (l,())):=by
 refine (vc_all l _ _).mpr (bc_of (fun h=>?_) (fun h=>?_))
 ·have h:(l.length:Int)=0:=of_decide_eq_true h
  have e:l=[]:=List.eq_nil_of_length_eq_zero (by omega)
  exact al_err (by rw[e];rfl)
 ·have h:¬ (l.length:Int)=0:=of_decide_eq_false h
  have e:l=gtP l 0::l.drop 1:=by
   have:=List.drop_eq_getElem_cons (l:=l) (i:=0) (by omega)
   rw[List.drop_zero] at this
   rw[gtP_at (by omega)];exact this
  have ha:allV l=if (foV (gtP l 0)).2≠0 then (zP,(foV (gtP l 0)).2) else alF (foV (gtP l 0)) (l.drop 1):=by
   rw[e];rfl
  refine ⟨by omega,by omega,trivial,bc_of (fun h2=>?_) (fun h2=>?_)⟩
  ·have h2:(foV (gtP l 0)).2≠0:=of_decide_eq_true h2
   rw[if_pos h2] at ha
   exact al_err ha
  ·have h2:¬ (foV (gtP l 0)).2≠0:=of_decide_eq_false h2
   rw[if_neg h2,show foV (gtP l 0)=((foV (gtP l 0)).1,0) from Prod.ext rfl (by omega)] at ha
   exact ⟨by omega,by omega,(show (l.drop 1).length<1099511627776 by rw[List.length_drop];omega),al_fin ha⟩
theorem all_held:Held Tryd.prog G0 11 ctAl:=Held.run cxAl (fn:=Tryd.f11) rfl rfl ⟨by decide,by decide⟩ fun ⟨l,_⟩ hp=>all_run l hp _
end Go.Proofs.YticpkibnhakgbaaDoor
namespace Go.Proofs.YticpkibnhakgbaaDoor
open Go.Px Go.Ax
set_option maxRecDepth 100000
abbrev RaT:Type:=Int × List (List Int)
set_option maxRecDepth 100000
end Go.Proofs.YticpkibnhakgbaaDoor
namespace Go.Proofs.YticpkibnhakgbaaDoor
open Go.Px Go.Ax
set_option maxRecDepth 100000
attribute [local irreducible] Go.Px.sy Go.Px.syE
end Go.Proofs.YticpkibnhakgbaaDoor
namespace Go.Proofs.YticpkibnhakgbaaDoor
open Go.Px Go.Ax
set_option maxRecDepth 100000
def CSc:CV:=[(14,.inl ctCo),(11,.inl ctAl),(17,.inl ctTh),(13,.inl ctSm),(31,.inl ctRw)]
theorem cxSc:CxOK Tryd.prog tt G0 CSc:=((((cx0.cons rw_held (fn:=Tryd.f31) rfl rfl rfl).cons sm_held (fn:=Tryd.f13) rfl rfl rfl).cons th_held (fn:=Tryd.f17) rfl rfl rfl).cons all_held (fn:=Tryd.f11) rfl rfl rfl).cons co_held (fn:=Tryd.f14) rfl rfl rfl
set_option maxRecDepth 100000
theorem vc_csan  (Q:QT) (R:RT):sy tt G0 CSc Tryd.f9.ntmps Tryd.f9.results.toList Q R 1000 [.code (bodyOf Tryd.f9)] (entry [] ()) =
  (0+(2:Nat)≤(((List.replicate (2:Nat) uB.dflt).set (0:Nat) (1:Int)).set (1:Nat) (2:Int)).length ∧
 0+(2:Nat)≤(((List.replicate (2:Nat) uB.dflt).set (0:Nat) (1:Int)).set (1:Nat) (2:Int)).length ∧
 0+(2:Nat)≤(((List.replicate (2:Nat) uB.dflt).set (0:Nat) (255:Int)).set (1:Nat) (254:Int)).length ∧
 0+(2:Nat)≤(((List.replicate (2:Nat) uB.dflt).set (0:Nat) (255:Int)).set (1:Nat) (254:Int)).length ∧
 0+(1:Nat)≤([((1:Int),(1:Int),(2:Int),(0:Int),[])]:List opS.D).length ∧
 0+(1:Nat)≤([((1:Int),(1:Int),(2:Int),(0:Int),[])]:List opS.D).length ∧
 0+(1:Nat)≤([((1:Int),(1:Int),(2:Int),(0:Int),[])]:List opS.D).length ∧
 0+(1:Nat)≤([((1:Int),(1:Int),(2:Int),(0:Int),[])]:List opS.D).length ∧
 0+(2:Nat)≤(((List.replicate (2:Nat) opS.dflt).set (0:Nat) ((1:Int),(1:Int),(1:Int),(0:Int),[])).set (1:Nat) ((3:Int),(0:Int),(1:Int),(9:Int),[])).length ∧
 0+(2:Nat)≤(((List.replicate (2:Nat) opS.dflt).set (0:Nat) ((1:Int),(1:Int),(1:Int),(0:Int),[])).set (1:Nat) ((3:Int),(0:Int),(1:Int),(9:Int),[])).length ∧
 0+(2:Nat)≤(((List.replicate (2:Nat) opS.dflt).set (0:Nat) ((1:Int),(1:Int),(1:Int),(0:Int),[])).set (1:Nat) ((3:Int),(0:Int),(1:Int),(9:Int),[])).length ∧
 0+(2:Nat)≤(((List.replicate (2:Nat) opS.dflt).set (0:Nat) ((1:Int),(1:Int),(1:Int),(0:Int),[])).set (1:Nat) ((3:Int),(0:Int),(1:Int),(9:Int),[])).length ∧
 ctCo.pre ((false,(3:Int),(2:Int),([((1:Int),(1:Int),(2:Int),(0:Int),[])]:List opS.D)),(false,(2:Int),(2:Int),winL opS (0:Nat) (2:Nat) (((List.replicate (2:Nat) opS.dflt).set (0:Nat) ((1:Int),(1:Int),(1:Int),(0:Int),[])).set (1:Nat) ((3:Int),(0:Int),(1:Int),(9:Int),[]))),()) ∧
 0+(1:Nat)≤([((2:Int),(0:Int),(2:Int),(0:Int),winL uB (0:Nat) (2:Nat) (((List.replicate (2:Nat) uB.dflt).set (0:Nat) (1:Int)).set (1:Nat) (2:Int)))]:List opS.D).length ∧
 0+(1:Nat)≤([((2:Int),(0:Int),(2:Int),(0:Int),winL uB (0:Nat) (2:Nat) (((List.replicate (2:Nat) uB.dflt).set (0:Nat) (1:Int)).set (1:Nat) (2:Int)))]:List opS.D).length ∧
 0+(1:Nat)≤([((2:Int),(0:Int),(2:Int),(0:Int),winL uB (0:Nat) (2:Nat) (((List.replicate (2:Nat) uB.dflt).set (0:Nat) (1:Int)).set (1:Nat) (2:Int)))]:List opS.D).length ∧
 0+(1:Nat)≤([((2:Int),(0:Int),(2:Int),(0:Int),winL uB (0:Nat) (2:Nat) (((List.replicate (2:Nat) uB.dflt).set (0:Nat) (1:Int)).set (1:Nat) (2:Int)))]:List opS.D).length ∧
 0+(1:Nat)≤([((2:Int),(0:Int),(2:Int),(0:Int),winL uB (0:Nat) (2:Nat) (((List.replicate (2:Nat) uB.dflt).set (0:Nat) (255:Int)).set (1:Nat) (254:Int)))]:List opS.D).length ∧
 0+(1:Nat)≤([((2:Int),(0:Int),(2:Int),(0:Int),winL uB (0:Nat) (2:Nat) (((List.replicate (2:Nat) uB.dflt).set (0:Nat) (255:Int)).set (1:Nat) (254:Int)))]:List opS.D).length ∧
 0+(1:Nat)≤([((2:Int),(0:Int),(2:Int),(0:Int),winL uB (0:Nat) (2:Nat) (((List.replicate (2:Nat) uB.dflt).set (0:Nat) (255:Int)).set (1:Nat) (254:Int)))]:List opS.D).length ∧
 0+(1:Nat)≤([((2:Int),(0:Int),(2:Int),(0:Int),winL uB (0:Nat) (2:Nat) (((List.replicate (2:Nat) uB.dflt).set (0:Nat) (255:Int)).set (1:Nat) (254:Int)))]:List opS.D).length ∧
 ctCo.pre ((false,(2:Int),(2:Int),([((2:Int),(0:Int),(2:Int),(0:Int),winL uB (0:Nat) (2:Nat) (((List.replicate (2:Nat) uB.dflt).set (0:Nat) (1:Int)).set (1:Nat) (2:Int)))]:List opS.D)),(false,(2:Int),(2:Int),([((2:Int),(0:Int),(2:Int),(0:Int),winL uB (0:Nat) (2:Nat) (((List.replicate (2:Nat) uB.dflt).set (0:Nat) (255:Int)).set (1:Nat) (254:Int)))]:List opS.D)),()) ∧
 0+(1:Nat)≤([((3:Int),(0:Int),(4:Int),(5:Int),[])]:List opS.D).length ∧
 0+(1:Nat)≤([((3:Int),(0:Int),(4:Int),(5:Int),[])]:List opS.D).length ∧
 0+(1:Nat)≤([((3:Int),(0:Int),(4:Int),(5:Int),[])]:List opS.D).length ∧
 0+(1:Nat)≤([((3:Int),(0:Int),(4:Int),(5:Int),[])]:List opS.D).length ∧
 0+(1:Nat)≤([((1:Int),(0:Int),(2:Int),(0:Int),[])]:List opS.D).length ∧
 0+(1:Nat)≤([((1:Int),(0:Int),(2:Int),(0:Int),[])]:List opS.D).length ∧
 0+(1:Nat)≤([((1:Int),(0:Int),(2:Int),(0:Int),[])]:List opS.D).length ∧
 0+(1:Nat)≤([((1:Int),(0:Int),(2:Int),(0:Int),[])]:List opS.D).length ∧
 ctCo.pre ((false,(0:Int),(4:Int),([((3:Int),(0:Int),(4:Int),(5:Int),[])]:List opS.D)),(false,(4:Int),(2:Int),([((1:Int),(0:Int),(2:Int),(0:Int),[])]:List opS.D)),()) ∧
 ctCo.pre ((false,(3:Int),(2:Int),([((1:Int),(1:Int),(2:Int),(0:Int),[])]:List opS.D)),(false,(4:Int),(2:Int),([((1:Int),(0:Int),(2:Int),(0:Int),[])]:List opS.D)),()) ∧
 ctAl.pre ([],()) ∧
 ctCo.pre ((false,(3:Int),(2:Int),([((1:Int),(1:Int),(2:Int),(0:Int),[])]:List opS.D)),(true,(2:Int),(2:Int),winL opS (0:Nat) (2:Nat) (((List.replicate (2:Nat) opS.dflt).set (0:Nat) ((1:Int),(1:Int),(1:Int),(0:Int),[])).set (1:Nat) ((3:Int),(0:Int),(1:Int),(9:Int),[]))),()) ∧
 0+(1:Nat)≤([(true,(0:Int),(0:Int))]:List syS.D).length ∧
 ctTh.pre ([],([(true,(0:Int),(0:Int))]:List syS.D),()) ∧
 0+(1:Nat)≤([(9:Int)]:List uB.D).length ∧
 0+(2:Nat)≤(((List.replicate (2:Nat) opS.dflt).set (0:Nat) ((1:Int),(2:Int),(1:Int),(0:Int),[])).set (1:Nat) ((4:Int),(0:Int),(1:Int),(0:Int),([(9:Int)]:List uB.D))).length ∧
 ctSm.pre (((coV (false,(3:Int),(2:Int),([((1:Int),(1:Int),(2:Int),(0:Int),[])]:List opS.D)) (false,(2:Int),(2:Int),winL opS (0:Nat) (2:Nat) (((List.replicate (2:Nat) opS.dflt).set (0:Nat) ((1:Int),(1:Int),(1:Int),(0:Int),[])).set (1:Nat) ((3:Int),(0:Int),(1:Int),(9:Int),[])))).1),(false,(3:Int),(2:Int),winL opS (0:Nat) (2:Nat) (((List.replicate (2:Nat) opS.dflt).set (0:Nat) ((1:Int),(2:Int),(1:Int),(0:Int),[])).set (1:Nat) ((4:Int),(0:Int),(1:Int),(0:Int),([(9:Int)]:List uB.D)))),()) ∧
 ctRw.pre ((2:Int),()) ∧
 ctSm.pre (((coV (false,(2:Int),(2:Int),([((2:Int),(0:Int),(2:Int),(0:Int),winL uB (0:Nat) (2:Nat) (((List.replicate (2:Nat) uB.dflt).set (0:Nat) (1:Int)).set (1:Nat) (2:Int)))]:List opS.D)) (false,(2:Int),(2:Int),([((2:Int),(0:Int),(2:Int),(0:Int),winL uB (0:Nat) (2:Nat) (((List.replicate (2:Nat) uB.dflt).set (0:Nat) (255:Int)).set (1:Nat) (254:Int)))]:List opS.D))).1),(rwV (2:Int)),()) ∧
 0+(1:Nat)≤([((3:Int),(0:Int),(2:Int),(5:Int),[])]:List opS.D).length ∧
 ctSm.pre (((coV (false,(0:Int),(4:Int),([((3:Int),(0:Int),(4:Int),(5:Int),[])]:List opS.D)) (false,(4:Int),(2:Int),([((1:Int),(0:Int),(2:Int),(0:Int),[])]:List opS.D))).1),(false,(0:Int),(2:Int),([((3:Int),(0:Int),(2:Int),(5:Int),[])]:List opS.D)),()) ∧
 Q [.bool (decide ((thV [] (([(true,(0:Int),(0:Int))]:List syS.D))).2=(61:Int)))] [(1,.var [.bool false,.int .i64 3,.int .i64 2,.sl opS (([((1:Int),(1:Int),(2:Int),(0:Int),[])]:List opS.D))]),(2,.var [.bool false,.int .i64 2,.int .i64 2,.sl opS (winL opS (0:Nat) (2:Nat) (((List.replicate (2:Nat) opS.dflt).set (0:Nat) ((1:Int),(1:Int),(1:Int),(0:Int),[])).set (1:Nat) ((3:Int),(0:Int),(1:Int),(9:Int),[])))]),(3,.var [.bool false,.int .i64 2,.int .i64 2,.sl opS (([((2:Int),(0:Int),(2:Int),(0:Int),winL uB (0:Nat) (2:Nat) (((List.replicate (2:Nat) uB.dflt).set (0:Nat) (1:Int)).set (1:Nat) (2:Int)))]:List opS.D))]),(4,.var [.bool false,.int .i64 2,.int .i64 2,.sl opS (([((2:Int),(0:Int),(2:Int),(0:Int),winL uB (0:Nat) (2:Nat) (((List.replicate (2:Nat) uB.dflt).set (0:Nat) (255:Int)).set (1:Nat) (254:Int)))]:List opS.D))]),(5,.var [.bool false,.int .i64 0,.int .i64 4,.sl opS (([((3:Int),(0:Int),(4:Int),(5:Int),[])]:List opS.D))]),(6,.var [.bool false,.int .i64 4,.int .i64 2,.sl opS (([((1:Int),(0:Int),(2:Int),(0:Int),[])]:List opS.D))]),(7,.var [.bool (coV (false,(3:Int),(2:Int),([((1:Int),(1:Int),(2:Int),(0:Int),[])]:List opS.D)) (false,(2:Int),(2:Int),winL opS (0:Nat) (2:Nat) (((List.replicate (2:Nat) opS.dflt).set (0:Nat) ((1:Int),(1:Int),(1:Int),(0:Int),[])).set (1:Nat) ((3:Int),(0:Int),(1:Int),(9:Int),[])))).1.1,.int .i64 (coV (false,(3:Int),(2:Int),([((1:Int),(1:Int),(2:Int),(0:Int),[])]:List opS.D)) (false,(2:Int),(2:Int),winL opS (0:Nat) (2:Nat) (((List.replicate (2:Nat) opS.dflt).set (0:Nat) ((1:Int),(1:Int),(1:Int),(0:Int),[])).set (1:Nat) ((3:Int),(0:Int),(1:Int),(9:Int),[])))).1.2.1,.int .i64 (coV (false,(3:Int),(2:Int),([((1:Int),(1:Int),(2:Int),(0:Int),[])]:List opS.D)) (false,(2:Int),(2:Int),winL opS (0:Nat) (2:Nat) (((List.replicate (2:Nat) opS.dflt).set (0:Nat) ((1:Int),(1:Int),(1:Int),(0:Int),[])).set (1:Nat) ((3:Int),(0:Int),(1:Int),(9:Int),[])))).1.2.2.1,.sl opS (coV (false,(3:Int),(2:Int),([((1:Int),(1:Int),(2:Int),(0:Int),[])]:List opS.D)) (false,(2:Int),(2:Int),winL opS (0:Nat) (2:Nat) (((List.replicate (2:Nat) opS.dflt).set (0:Nat) ((1:Int),(1:Int),(1:Int),(0:Int),[])).set (1:Nat) ((3:Int),(0:Int),(1:Int),(9:Int),[])))).1.2.2.2]),(9,.var [.bool (coV (false,(2:Int),(2:Int),([((2:Int),(0:Int),(2:Int),(0:Int),winL uB (0:Nat) (2:Nat) (((List.replicate (2:Nat) uB.dflt).set (0:Nat) (1:Int)).set (1:Nat) (2:Int)))]:List opS.D)) (false,(2:Int),(2:Int),([((2:Int),(0:Int),(2:Int),(0:Int),winL uB (0:Nat) (2:Nat) (((List.replicate (2:Nat) uB.dflt).set (0:Nat) (255:Int)).set (1:Nat) (254:Int)))]:List opS.D))).1.1,.int .i64 (coV (false,(2:Int),(2:Int),([((2:Int),(0:Int),(2:Int),(0:Int),winL uB (0:Nat) (2:Nat) (((List.replicate (2:Nat) uB.dflt).set (0:Nat) (1:Int)).set (1:Nat) (2:Int)))]:List opS.D)) (false,(2:Int),(2:Int),([((2:Int),(0:Int),(2:Int),(0:Int),winL uB (0:Nat) (2:Nat) (((List.replicate (2:Nat) uB.dflt).set (0:Nat) (255:Int)).set (1:Nat) (254:Int)))]:List opS.D))).1.2.1,.int .i64 (coV (false,(2:Int),(2:Int),([((2:Int),(0:Int),(2:Int),(0:Int),winL uB (0:Nat) (2:Nat) (((List.replicate (2:Nat) uB.dflt).set (0:Nat) (1:Int)).set (1:Nat) (2:Int)))]:List opS.D)) (false,(2:Int),(2:Int),([((2:Int),(0:Int),(2:Int),(0:Int),winL uB (0:Nat) (2:Nat) (((List.replicate (2:Nat) uB.dflt).set (0:Nat) (255:Int)).set (1:Nat) (254:Int)))]:List opS.D))).1.2.2.1,.sl opS (coV (false,(2:Int),(2:Int),([((2:Int),(0:Int),(2:Int),(0:Int),winL uB (0:Nat) (2:Nat) (((List.replicate (2:Nat) uB.dflt).set (0:Nat) (1:Int)).set (1:Nat) (2:Int)))]:List opS.D)) (false,(2:Int),(2:Int),([((2:Int),(0:Int),(2:Int),(0:Int),winL uB (0:Nat) (2:Nat) (((List.replicate (2:Nat) uB.dflt).set (0:Nat) (255:Int)).set (1:Nat) (254:Int)))]:List opS.D))).1.2.2.2]),(11,.var [.bool (coV (false,(0:Int),(4:Int),([((3:Int),(0:Int),(4:Int),(5:Int),[])]:List opS.D)) (false,(4:Int),(2:Int),([((1:Int),(0:Int),(2:Int),(0:Int),[])]:List opS.D))).1.1,.int .i64 (coV (false,(0:Int),(4:Int),([((3:Int),(0:Int),(4:Int),(5:Int),[])]:List opS.D)) (false,(4:Int),(2:Int),([((1:Int),(0:Int),(2:Int),(0:Int),[])]:List opS.D))).1.2.1,.int .i64 (coV (false,(0:Int),(4:Int),([((3:Int),(0:Int),(4:Int),(5:Int),[])]:List opS.D)) (false,(4:Int),(2:Int),([((1:Int),(0:Int),(2:Int),(0:Int),[])]:List opS.D))).1.2.2.1,.sl opS (coV (false,(0:Int),(4:Int),([((3:Int),(0:Int),(4:Int),(5:Int),[])]:List opS.D)) (false,(4:Int),(2:Int),([((1:Int),(0:Int),(2:Int),(0:Int),[])]:List opS.D))).1.2.2.2]),(13,.var [.bool (coV (false,(3:Int),(2:Int),([((1:Int),(1:Int),(2:Int),(0:Int),[])]:List opS.D)) (false,(4:Int),(2:Int),([((1:Int),(0:Int),(2:Int),(0:Int),[])]:List opS.D))).1.1,.int .i64 (coV (false,(3:Int),(2:Int),([((1:Int),(1:Int),(2:Int),(0:Int),[])]:List opS.D)) (false,(4:Int),(2:Int),([((1:Int),(0:Int),(2:Int),(0:Int),[])]:List opS.D))).1.2.1,.int .i64 (coV (false,(3:Int),(2:Int),([((1:Int),(1:Int),(2:Int),(0:Int),[])]:List opS.D)) (false,(4:Int),(2:Int),([((1:Int),(0:Int),(2:Int),(0:Int),[])]:List opS.D))).1.2.2.1,.sl opS (coV (false,(3:Int),(2:Int),([((1:Int),(1:Int),(2:Int),(0:Int),[])]:List opS.D)) (false,(4:Int),(2:Int),([((1:Int),(0:Int),(2:Int),(0:Int),[])]:List opS.D))).1.2.2.2]),(15,.var [.bool (allV []).1.1,.int .i64 (allV []).1.2.1,.int .i64 (allV []).1.2.2.1,.sl opS (allV []).1.2.2.2]),(17,.var [.bool true,.int .i64 2,.int .i64 2,.sl opS (winL opS (0:Nat) (2:Nat) (((List.replicate (2:Nat) opS.dflt).set (0:Nat) ((1:Int),(1:Int),(1:Int),(0:Int),[])).set (1:Nat) ((3:Int),(0:Int),(1:Int),(9:Int),[])))]),(18,.var [.bool (coV (false,(3:Int),(2:Int),([((1:Int),(1:Int),(2:Int),(0:Int),[])]:List opS.D)) (true,(2:Int),(2:Int),winL opS (0:Nat) (2:Nat) (((List.replicate (2:Nat) opS.dflt).set (0:Nat) ((1:Int),(1:Int),(1:Int),(0:Int),[])).set (1:Nat) ((3:Int),(0:Int),(1:Int),(9:Int),[])))).1.1,.int .i64 (coV (false,(3:Int),(2:Int),([((1:Int),(1:Int),(2:Int),(0:Int),[])]:List opS.D)) (true,(2:Int),(2:Int),winL opS (0:Nat) (2:Nat) (((List.replicate (2:Nat) opS.dflt).set (0:Nat) ((1:Int),(1:Int),(1:Int),(0:Int),[])).set (1:Nat) ((3:Int),(0:Int),(1:Int),(9:Int),[])))).1.2.1,.int .i64 (coV (false,(3:Int),(2:Int),([((1:Int),(1:Int),(2:Int),(0:Int),[])]:List opS.D)) (true,(2:Int),(2:Int),winL opS (0:Nat) (2:Nat) (((List.replicate (2:Nat) opS.dflt).set (0:Nat) ((1:Int),(1:Int),(1:Int),(0:Int),[])).set (1:Nat) ((3:Int),(0:Int),(1:Int),(9:Int),[])))).1.2.2.1,.sl opS (coV (false,(3:Int),(2:Int),([((1:Int),(1:Int),(2:Int),(0:Int),[])]:List opS.D)) (true,(2:Int),(2:Int),winL opS (0:Nat) (2:Nat) (((List.replicate (2:Nat) opS.dflt).set (0:Nat) ((1:Int),(1:Int),(1:Int),(0:Int),[])).set (1:Nat) ((3:Int),(0:Int),(1:Int),(9:Int),[])))).1.2.2.2]),(82,.row 66 syS ([(true,(0:Int),(0:Int))]:List syS.D)),(114,.row 69 opS ([((3:Int),(0:Int),(2:Int),(5:Int),[])]:List opS.D)),(1339968,.row 66 syS (thV [] (([(true,(0:Int),(0:Int))]:List syS.D))).1)]):=by kernel_rfl
end Go.Proofs.YticpkibnhakgbaaDoor
namespace Go.Proofs.YticpkibnhakgbaaDoor
open Go.Px Go.Ax
set_option maxRecDepth 100000
attribute [local irreducible] Go.Px.sy Go.Px.syE
def ctSn9:Ctr:=⟨[],fun _=>True,fun _=>[.bool true],fun _=>[]⟩
theorem csan_run (R:List Item→PS→Prop):sy tt G0 CSc Tryd.f9.ntmps Tryd.f9.results.toList (QC ctSn9 ()) R 1000 [.code (bodyOf Tryd.f9)] (entry [] ()):=by
 refine (vc_csan _ _).mpr ?_
 repeat' first
  | exact trivial
  | (show List.length _<1000000;decide +kernel)
  | (show List.length _<16777216;decide +kernel)
  | (show List.length _<1099511627776;decide +kernel)
  | decide +kernel
  | refine And.intro ?_ ?_
  | (refine QC.flat ?_ rfl rfl)
  | (refine congrArg (fun b=>[SV.bool b]) ?_;decide +kernel)
theorem csan_held:Held Tryd.prog G0 9 ctSn9:=Held.run cxSc (fn:=Tryd.f9) rfl rfl ⟨by decide,by decide⟩ fun x _=>csan_run _
end Go.Proofs.YticpkibnhakgbaaDoor
namespace Go.Proofs.YticpkibnhakgbaaDoor
open Go.Px Go.Ax
set_option maxRecDepth 100000
set_option maxRecDepth 100000
end Go.Proofs.YticpkibnhakgbaaDoor
namespace Go.Proofs.YticpkibnhakgbaaDoor
open Go.Px Go.Ax
set_option maxRecDepth 100000
structure Fit (p:PaT) (t:List PaT):Prop where
 ok:(chkV p).2=0
 li:p.1=false
 out:p.2.2.1≤4096
 ch:chn false p.2.2.1 t
 by0:byL (symF p.2.2.2)
 by1:∀ q∈t,byL (symF q.2.2.2)
 len:t.length≤3
 in_:0≤p.2.1∧p.2.1≤12
theorem soB_refl (x:OpT):soB x x=true:=by simp[soB]
theorem smL_refl:∀ l:List OpT,smL l l=true
 | []=>rfl
 | x::l=>by
  have:=smL_refl l
  simp[smL,soB_refl,this]
theorem smB_refl (p:PaT):smB p p=true:=by simp[smB,smL_refl]
theorem ch_ops {m:Int} {s:List SyT} (hr:∀ x∈s,sOK m x=true) (h0:0≤m) (h1:m≤65536) (hl:s.length≤4096):(chL s).length≤4096:=(poV_ok hr h0 h1 hl).2.2.2.2.1
theorem Fit.all {p:PaT} {t:List PaT} (h:Fit p t):allV (p::t)=(nfP false p.2.1 (syC (symF p.2.2.2) t),0)∧(∀ x∈syC (symF p.2.2.2) t,sOK p.2.1 x=true)∧(syC (symF p.2.2.2) t).length≤4096∧(chL (syC (symF p.2.2.2) t)).length≤4096:=by
 have ha:=all_nf h.ok h.out (by rw[h.li];exact h.ch)
 obtain ⟨r1,r2,r3⟩:=sy_right h.ok
 have ho:=h.out
 obtain ⟨k1,k2⟩:=syC_ok (m:=p.2.1) (li:=false) (l:=t) r1 (by omega) (by rw[r3];exact h.ch)
 rw[h.li] at ha
 exact ⟨ha,k1,k2,ch_ops k1 r2.1 r2.2 k2⟩
end Go.Proofs.YticpkibnhakgbaaDoor
namespace Go.Proofs.YticpkibnhakgbaaDoor
open Go.Px Go.Ax
def u8L (b:List Int):Prop:=∀ j,0≤gtB b j∧gtB b j<256
theorem u8_wf {n:Int} (h:wfD uB n):0≤n∧n<256:=by
 have h:(Lit.int IntKind.u8 n).wf=true:=h
 simp[Lit.wf,IntKind.min,IntKind.max,IntKind.signed,IntKind.bits] at h
 omega
theorem u8_of {l:List Int} (h:∀ x∈l,wfD uB x):u8L l:=fun j=>by
 by_cases hj:j<l.length
 ·rw[gtB_at hj];exact u8_wf (h _ (List.getElem_mem hj))
 ·have:gtB l j=0:=by
   show gt uB _ _=_
   unfold gt
   rw[List.getElem?_eq_none (by omega)];rfl
  rw[this];decide
theorem l4_of {l:List (List Int)} (h:∀ x∈l,wfD a4S x):preL4 l:=fun j=>by
 by_cases hj:j<l.length
 ·have e:gt a4S l j=l[j]:=gtE (e:=a4S) hj
  rw[e]
  exact u8_of (h _ (List.getElem_mem hj)).2
 ·have:gt a4S l j=List.replicate 4 (0:Int):=by
   unfold gt
   rw[List.getElem?_eq_none (by omega)];rfl
  rw[this]
  exact u8_of fun x hx=>by
   rw[List.eq_of_mem_replicate hx];rfl
theorem m6_of {x:Int × List (List Int)} (h:wfD raS x):preM6 x.1 x.2:=⟨u8_wf h.1,l4_of h.2.2,h.2.1⟩
theorem G_get {g:Nat} {x:ABlk} (h:rawG.get g=some x):g=0∧x=.cells costCells 118 2:=by
 unfold rawG T.get at h
 split at h
 ·rename_i e;cases h;exact ⟨e,rfl⟩
 ·split at h <;> (simp[T.get] at h)
theorem hG:Glob G0.raw:=⟨fun g x h=>by rw[(G_get h).1];decide,fun g x h=>by rw[(G_get h).2];decide⟩
abbrev H0:AHeap:=⟨nglob,G0.raw⟩
def Z0:Nat→Option ABlk:=fun g=>rawG.get g
theorem gz0:GZ Z0 G0:=by
 refine ⟨fun g x e=>?_,fun g x e=>e⟩
 simp only[G0,lk] at e
 split at e
 ·rename_i h;subst h;cases e
  refine ⟨by decide,fun ν=>⟨0,0,costCells,118,2,rfl,rfl,by decide,?_⟩⟩
  exact rv_of (.arr 5 coS) costsL ⟨rfl,fun x _=>⟨trivial,trivial⟩⟩
 ·cases e
theorem fro0:Px.Fro G0 H0:=⟨fun i x h=>by rw[(G_get h).2];rfl,fun i x h=>by rw[(G_get h).2];trivial,fun i x h=>by rw[(G_get h).1];decide,gz0⟩
end Go.Proofs.YticpkibnhakgbaaDoor
namespace Go.Proofs.YticpkibnhakgbaaDoor
open Go.Px Go.Ax
end Go.Proofs.YticpkibnhakgbaaDoor
namespace Go.Proofs.YticpkibnhakgbaaDoor
open Go.Px Go.Ax
set_option maxRecDepth 100000
attribute [local irreducible] Go.Px.sy Go.Px.syE
end Go.Proofs.YticpkibnhakgbaaDoor
namespace Go.Proofs.YticpkibnhakgbaaDoor
open Go.Px Go.Ax
set_option maxRecDepth 100000
def preLe (m:Nat) (l:List SyT):Prop:=l.length<m∧l.length≤65536∧∃ a:Int,a<16777216∧∀ s∈l,sOK a s=true
def ctLe (m:Nat):Ctr:=⟨[.sl syS],fun x=>preLe m x.1,fun x=>[.int .i64 (cst x.1)],fun _=>[]⟩
def CLe (m:Nat):CV:=[(44,.inl ctFt),(45,.inl ctPr),(27,.inl (ctLe m))]
set_option maxRecDepth 100000
end Go.Proofs.YticpkibnhakgbaaDoor
namespace Go.Proofs.YticpkibnhakgbaaDoor
open Go.Px Go.Ax
set_option maxRecDepth 100000
attribute [local irreducible] Go.Px.sy Go.Px.syE
section
variable (m:Nat) (cx:CxOK Tryd.prog tt G0 (CLe m)) (l:List SyT) (hp:preLe (m+1) l) (h0:l≠[])
include cx hp h0
end
end Go.Proofs.YticpkibnhakgbaaDoor
namespace Go.Proofs.YticpkibnhakgbaaDoor
open Go.Px Go.Ax
set_option maxRecDepth 100000
def CL5:CV:=[(9,.inl ctSn9),(21,.inl ctM6),(22,.inl ctWh),(20,.inl ctFo),(14,.inl ctCo),(13,.inl ctSm)]
theorem cxL5:CxOK Tryd.prog tt G0 CL5:=(((((cx0.cons sm_held (fn:=Tryd.f13) rfl rfl rfl).cons co_held (fn:=Tryd.f14) rfl rfl rfl).cons fo_held (fn:=Tryd.f20) rfl rfl rfl).cons wh_held (fn:=Tryd.f22) rfl rfl rfl).cons made6_held (fn:=Tryd.f21) rfl rfl rfl).cons csan_held (fn:=Tryd.f9) rfl rfl rfl
set_option maxRecDepth 100000
def mem_l5_m0 (z:Int) (l:List (List Int)) (li:Bool):List (Nat × LB):=[(2,.var [.int .u8 z,.sl (Sh.arr (4:Nat) uB) l]),(6,.var [.bool li,.int .i64 (szV l (z % (13:Int))).2.1,.int .i64 (szV l (z % (13:Int))).2.2.1,.sl opS (szV l (z % (13:Int))).2.2.2]),(7,.var [.bool li,.int .i64 (whV (szV l (z % (13:Int))).2.1).2.1,.int .i64 (whV (szV l (z % (13:Int))).2.1).2.2.1,.sl opS (whV (szV l (z % (13:Int))).2.1).2.2.2]),(8,.var [.bool li,.int .i64 (whV (szV l (z % (13:Int))).2.2.1).2.1,.int .i64 (whV (szV l (z % (13:Int))).2.2.1).2.2.1,.sl opS (whV (szV l (z % (13:Int))).2.2.1).2.2.2]),(9,.var [.bool (foV (li,(szV l (z % (13:Int))).2.1,(szV l (z % (13:Int))).2.2.1,(szV l (z % (13:Int))).2.2.2)).1.1,.int .i64 (foV (li,(szV l (z % (13:Int))).2.1,(szV l (z % (13:Int))).2.2.1,(szV l (z % (13:Int))).2.2.2)).1.2.1,.int .i64 (foV (li,(szV l (z % (13:Int))).2.1,(szV l (z % (13:Int))).2.2.1,(szV l (z % (13:Int))).2.2.2)).1.2.2.1,.sl opS (foV (li,(szV l (z % (13:Int))).2.1,(szV l (z % (13:Int))).2.2.1,(szV l (z % (13:Int))).2.2.2)).1.2.2.2]),(11,.var [.bool (coV (li,(whV (szV l (z % (13:Int))).2.1).2.1,(whV (szV l (z % (13:Int))).2.1).2.2.1,(whV (szV l (z % (13:Int))).2.1).2.2.2) (li,(szV l (z % (13:Int))).2.1,(szV l (z % (13:Int))).2.2.1,(szV l (z % (13:Int))).2.2.2)).1.1,.int .i64 (coV (li,(whV (szV l (z % (13:Int))).2.1).2.1,(whV (szV l (z % (13:Int))).2.1).2.2.1,(whV (szV l (z % (13:Int))).2.1).2.2.2) (li,(szV l (z % (13:Int))).2.1,(szV l (z % (13:Int))).2.2.1,(szV l (z % (13:Int))).2.2.2)).1.2.1,.int .i64 (coV (li,(whV (szV l (z % (13:Int))).2.1).2.1,(whV (szV l (z % (13:Int))).2.1).2.2.1,(whV (szV l (z % (13:Int))).2.1).2.2.2) (li,(szV l (z % (13:Int))).2.1,(szV l (z % (13:Int))).2.2.1,(szV l (z % (13:Int))).2.2.2)).1.2.2.1,.sl opS (coV (li,(whV (szV l (z % (13:Int))).2.1).2.1,(whV (szV l (z % (13:Int))).2.1).2.2.1,(whV (szV l (z % (13:Int))).2.1).2.2.2) (li,(szV l (z % (13:Int))).2.1,(szV l (z % (13:Int))).2.2.1,(szV l (z % (13:Int))).2.2.2)).1.2.2.2]),(13,.var [.bool (coV (li,(szV l (z % (13:Int))).2.1,(szV l (z % (13:Int))).2.2.1,(szV l (z % (13:Int))).2.2.2) (li,(whV (szV l (z % (13:Int))).2.2.1).2.1,(whV (szV l (z % (13:Int))).2.2.1).2.2.1,(whV (szV l (z % (13:Int))).2.2.1).2.2.2)).1.1,.int .i64 (coV (li,(szV l (z % (13:Int))).2.1,(szV l (z % (13:Int))).2.2.1,(szV l (z % (13:Int))).2.2.2) (li,(whV (szV l (z % (13:Int))).2.2.1).2.1,(whV (szV l (z % (13:Int))).2.2.1).2.2.1,(whV (szV l (z % (13:Int))).2.2.1).2.2.2)).1.2.1,.int .i64 (coV (li,(szV l (z % (13:Int))).2.1,(szV l (z % (13:Int))).2.2.1,(szV l (z % (13:Int))).2.2.2) (li,(whV (szV l (z % (13:Int))).2.2.1).2.1,(whV (szV l (z % (13:Int))).2.2.1).2.2.1,(whV (szV l (z % (13:Int))).2.2.1).2.2.2)).1.2.2.1,.sl opS (coV (li,(szV l (z % (13:Int))).2.1,(szV l (z % (13:Int))).2.2.1,(szV l (z % (13:Int))).2.2.2) (li,(whV (szV l (z % (13:Int))).2.2.1).2.1,(whV (szV l (z % (13:Int))).2.2.1).2.2.1,(whV (szV l (z % (13:Int))).2.2.1).2.2.2)).1.2.2.2])]
theorem vc_l5 (z:Int) (l:List (List Int)) (li:Bool) (Q:QT) (R:RT):sy tt G0 CL5 Tryd.f5.ntmps Tryd.f5.results.toList Q R 1000 [.code (bodyOf Tryd.f5)] (entry [raS,.bool] ((z,l),li,())) =
  (ctSn9.pre () ∧
 ctM6.pre ((z,l),()) ∧
 ctWh.pre ((szV l (z % (13:Int))).2.1,()) ∧
 ctWh.pre ((szV l (z % (13:Int))).2.2.1,()) ∧
 ctFo.pre ((li,(szV l (z % (13:Int))).2.1,(szV l (z % (13:Int))).2.2.1,(szV l (z % (13:Int))).2.2.2),()) ∧
 ctCo.pre ((li,(whV (szV l (z % (13:Int))).2.1).2.1,(whV (szV l (z % (13:Int))).2.1).2.2.1,(whV (szV l (z % (13:Int))).2.1).2.2.2),(li,(szV l (z % (13:Int))).2.1,(szV l (z % (13:Int))).2.2.1,(szV l (z % (13:Int))).2.2.2),()) ∧
 ctCo.pre ((li,(szV l (z % (13:Int))).2.1,(szV l (z % (13:Int))).2.2.1,(szV l (z % (13:Int))).2.2.2),(li,(whV (szV l (z % (13:Int))).2.2.1).2.1,(whV (szV l (z % (13:Int))).2.2.1).2.2.1,(whV (szV l (z % (13:Int))).2.2.1).2.2.2),()) ∧
 bc (decide ((foV (li,(szV l (z % (13:Int))).2.1,(szV l (z % (13:Int))).2.2.1,(szV l (z % (13:Int))).2.2.2)).2=(0:Int))) (bc (decide ((coV (li,(whV (szV l (z % (13:Int))).2.1).2.1,(whV (szV l (z % (13:Int))).2.1).2.2.1,(whV (szV l (z % (13:Int))).2.1).2.2.2) (li,(szV l (z % (13:Int))).2.1,(szV l (z % (13:Int))).2.2.1,(szV l (z % (13:Int))).2.2.2)).2=(0:Int))) (bc (decide ((coV (li,(szV l (z % (13:Int))).2.1,(szV l (z % (13:Int))).2.2.1,(szV l (z % (13:Int))).2.2.2) (li,(whV (szV l (z % (13:Int))).2.2.1).2.1,(whV (szV l (z % (13:Int))).2.2.1).2.2.1,(whV (szV l (z % (13:Int))).2.2.1).2.2.2)).2=(0:Int))) (ctSm.pre (((coV (li,(whV (szV l (z % (13:Int))).2.1).2.1,(whV (szV l (z % (13:Int))).2.1).2.2.1,(whV (szV l (z % (13:Int))).2.1).2.2.2) (li,(szV l (z % (13:Int))).2.1,(szV l (z % (13:Int))).2.2.1,(szV l (z % (13:Int))).2.2.2)).1),((foV (li,(szV l (z % (13:Int))).2.1,(szV l (z % (13:Int))).2.2.1,(szV l (z % (13:Int))).2.2.2)).1),()) ∧
 bc (bif true then smB ((coV (li,(whV (szV l (z % (13:Int))).2.1).2.1,(whV (szV l (z % (13:Int))).2.1).2.2.1,(whV (szV l (z % (13:Int))).2.1).2.2.2) (li,(szV l (z % (13:Int))).2.1,(szV l (z % (13:Int))).2.2.1,(szV l (z % (13:Int))).2.2.2)).1) ((foV (li,(szV l (z % (13:Int))).2.1,(szV l (z % (13:Int))).2.2.1,(szV l (z % (13:Int))).2.2.2)).1) else false) (ctSm.pre (((coV (li,(szV l (z % (13:Int))).2.1,(szV l (z % (13:Int))).2.2.1,(szV l (z % (13:Int))).2.2.2) (li,(whV (szV l (z % (13:Int))).2.2.1).2.1,(whV (szV l (z % (13:Int))).2.2.1).2.2.1,(whV (szV l (z % (13:Int))).2.2.1).2.2.2)).1),((foV (li,(szV l (z % (13:Int))).2.1,(szV l (z % (13:Int))).2.2.1,(szV l (z % (13:Int))).2.2.2)).1),()) ∧
 bc (bif true then smB ((coV (li,(szV l (z % (13:Int))).2.1,(szV l (z % (13:Int))).2.2.1,(szV l (z % (13:Int))).2.2.2) (li,(whV (szV l (z % (13:Int))).2.2.1).2.1,(whV (szV l (z % (13:Int))).2.2.1).2.2.1,(whV (szV l (z % (13:Int))).2.2.1).2.2.2)).1) ((foV (li,(szV l (z % (13:Int))).2.1,(szV l (z % (13:Int))).2.2.1,(szV l (z % (13:Int))).2.2.2)).1) else false) (bc (bif true then (coV (li,(whV (szV l (z % (13:Int))).2.1).2.1,(whV (szV l (z % (13:Int))).2.1).2.2.1,(whV (szV l (z % (13:Int))).2.1).2.2.2) (li,(szV l (z % (13:Int))).2.1,(szV l (z % (13:Int))).2.2.1,(szV l (z % (13:Int))).2.2.2)).1.1 == li else false) (Q [.bool true] (mem_l5_m0 z l li)) (false=false ∧
 Q [.bool false] (mem_l5_m0 z l li))) (false=false ∧
 false=false ∧
 Q [.bool false] (mem_l5_m0 z l li))) (false=false ∧
 false=false ∧
 false=false ∧
 Q [.bool false] (mem_l5_m0 z l li))) (false=false ∧
 false=false ∧
 false=false ∧
 false=false ∧
 Q [.bool false] (mem_l5_m0 z l li))) (false=false ∧
 false=false ∧
 false=false ∧
 false=false ∧
 false=false ∧
 Q [.bool false] (mem_l5_m0 z l li))) (false=false ∧
 false=false ∧
 false=false ∧
 false=false ∧
 false=false ∧
 false=false ∧
 Q [.bool false] (mem_l5_m0 z l li))):=by kernel_rfl
end Go.Proofs.YticpkibnhakgbaaDoor
namespace Go.Proofs.YticpkibnhakgbaaDoor
open Go.Px Go.Ax
set_option maxRecDepth 100000
theorem co_idl {li:Bool} {i o:Int} {k:List OpT} (h:(chkV (li,i,o,k)).2=0) (hb:byL (symF k)) (ho:o≤4096):coV (li,(whV i).2.1,(whV i).2.2.1,(whV i).2.2.2) (li,i,o,k)=(nfP li i (symF k),0):=by
 obtain ⟨r1,r2,r3⟩:=sy_right h
 have r2:0≤i∧i≤65536:=r2
 have r1:∀ s∈symF k,sOK i s=true:=r1
 obtain ⟨n,rfl⟩:=Int.eq_ofNat_of_zero_le r2.1
 have c:=wh_chk (n:=n) (by omega)
 have e:=co_nf (p:=(li,(whV n).2.1,(whV n).2.2.1,(whV n).2.2.2)) (q:=(li,(n:Int),o,k)) c h rfl rfl ho
 rw[show symF ((li,(whV n).2.1,(whV n).2.2.1,(whV n).2.2.2):PaT).2.2.2=idL n from wh_sym (by omega),show thL (idL n) (symF ((li,(n:Int),o,k):PaT).2.2.2)=symF k from thL_idl r1 hb] at e
 exact e
theorem co_idr {li:Bool} {i o:Int} {k:List OpT} (h:(chkV (li,i,o,k)).2=0) (hb:byL (symF k)) (ho:o≤4096):coV (li,i,o,k) (li,(whV o).2.1,(whV o).2.2.1,(whV o).2.2.2)=(nfP li i (symF k),0):=by
 obtain ⟨r1,r2,r3⟩:=sy_right h
 have r3:((symF k).length:Int)=o:=r3
 subst r3
 have c:=wh_chk (n:=(symF k).length) (by omega)
 have e:=co_nf (p:=(li,i,((symF k).length:Int),k)) (q:=(li,(whV (symF k).length).2.1,(whV (symF k).length).2.2.1,(whV (symF k).length).2.2.2)) h c rfl rfl ho
 rw[show symF ((li,(whV (symF k).length).2.1,(whV (symF k).length).2.2.1,(whV (symF k).length).2.2.2):PaT).2.2.2=idL (symF k).length from wh_sym (by omega),show thL (symF ((li,i,((symF k).length:Int),k):PaT).2.2.2) (idL (symF k).length)=symF k from thL_idr hb] at e
 exact e
end Go.Proofs.YticpkibnhakgbaaDoor
namespace Go.Proofs.YticpkibnhakgbaaDoor
open Go.Px Go.Ax
set_option maxRecDepth 100000
attribute [local irreducible] Go.Px.sy Go.Px.syE
def ctL5c:Ctr:=⟨[raS,.bool],fun x=>preM6 x.1.1 x.1.2,fun _=>[.bool true],fun _=>[]⟩
theorem l5_true {x:RaT} {li:Bool} {bl:List (Nat × LB)}:QC ctL5c (x,li,()) [.bool true] bl:=QC.flat rfl rfl rfl
theorem l5_run (z:Int) (l:List (List Int)) (li:Bool) (hx:preM6 z l) (R:List Item→PS→Prop):sy tt G0 CL5 Tryd.f5.ntmps Tryd.f5.results.toList (QC ctL5c ((z,l),li,())) R 1000 [.code (bodyOf Tryd.f5)] (entry [raS,.bool] ((z,l),li,())):=by
 have hm:0≤z % 13∧z % 13≤12:=by omega
 obtain ⟨s1,s2,s3,s4⟩:=szV_ok (m:=z % 13) hx.2.1 hm.1 (by omega)
 have hc:(chkV (li,(szV l (z % 13)).2.1,(szV l (z % 13)).2.2.1,(szV l (z % 13)).2.2.2)).2=0:=s1
 have ef:=fo_nf hc (show (szV l (z % 13)).2.2.1≤4096 by omega)
 have ea:=co_idl hc s4 (by omega)
 have eb:=co_idr hc s4 (by omega)
 have ef:foV (li,(szV l (z % 13)).2.1,(szV l (z % 13)).2.2.1,(szV l (z % 13)).2.2.2)=(nfP li (szV l (z % 13)).2.1 (symF (szV l (z % 13)).2.2.2),0):=ef
 obtain ⟨r1,r2,r3⟩:=sy_right hc
 have hops:(chL (symF (szV l (z % 13)).2.2.2)).length≤4096:=ch_ops r1 r2.1 r2.2 (by have r3:((symF (szV l (z % 13)).2.2.2).length:Int)=(szV l (z % 13)).2.2.1:=r3;omega)
 refine (vc_l5 z l li _ _).mpr ⟨trivial,hx,trivial,trivial,trivial,trivial,trivial,?_⟩
 rw[ef,ea,eb]
 have e:smB (nfP li (szV l (z % 13)).2.1 (symF (szV l (z % 13)).2.2.2)) (nfP li (szV l (z % 13)).2.1 (symF (szV l (z % 13)).2.2.2))=true:=smB_refl _
 have e':(bif true then smB (nfP li (szV l (z % 13)).2.1 (symF (szV l (z % 13)).2.2.2),(0:Int)).1 (nfP li (szV l (z % 13)).2.1 (symF (szV l (z % 13)).2.2.2),(0:Int)).1 else false)=true:=e
 refine bc_of (fun _=>bc_of (fun _=>bc_of (fun _=>⟨?_,?_⟩) (fun h=>absurd rfl (of_decide_eq_false h))) (fun h=>absurd rfl (of_decide_eq_false h))) (fun h=>absurd rfl (of_decide_eq_false h))
 ·show (chL (symF (szV l (z % 13)).2.2.2)).length<1099511627776
  omega
 ·rw[e',bc_t]
  refine ⟨?_,?_⟩
  ·show (chL (symF (szV l (z % 13)).2.2.2)).length<1099511627776
   omega
  ·rw[bc_t]
   have e2:(bif true then (nfP li (szV l (z % 13)).2.1 (symF (szV l (z % 13)).2.2.2),(0:Int)).1.1 == li else false)=true:=by show (li == li)=true;simp
   rw[e2,bc_t]
   exact l5_true
theorem l5_held:Held Tryd.prog G0 5 ctL5c:=Held.run cxL5 (fn:=Tryd.f5) rfl rfl ⟨by decide,by decide⟩ fun ⟨⟨z,l⟩,li,_⟩ hp=>l5_run z l li hp _
end Go.Proofs.YticpkibnhakgbaaDoor
