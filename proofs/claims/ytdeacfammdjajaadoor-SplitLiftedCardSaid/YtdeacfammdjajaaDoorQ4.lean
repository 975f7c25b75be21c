/-
  A part of the proof: what pieces of the program give; conditions: those of each theorem.
-/
import Derived.Test.YtdeacfammdjajaaDoorQ3
import Derived.Test.YtdeacfammdjajaaDoorHD
set_option linter.unusedVariables false
set_option linter.unusedSimpArgs false
namespace Go.Proofs.YtdeacfammdjajaaDoor
open Go.Px Go.Ax
set_option maxRecDepth 100000
def okJ (l:List PaT) (m:Int):Prop:=(0<=m/\m<=65536)/\(∀ p∈l,(chkV p).2=0/\p.1=false/\p.2.1=m)/\(ayaF l).length<=4096
theorem qr0:∀ {l:List PaT},(∀ p∈l,(chkV p).2=0)->ckaF l=0
 | [],_=>rfl
 | p::l,h=>by
  rw[ckaF,decide_eq_false (by rw[h p (List.mem_cons_self ..)];simp)];exact qr0 λ q hq=>h q (List.mem_cons_of_mem _ hq)
theorem qjt {p:PaT} (h:(chkV p).2=0):(symV p).2=0/\((symV p).1.length:Int)=p.2.2.1:=by
 have hs:(symV p).2=0:=by unfold symV;rw[if_pos h]
 exact ⟨hs,(qfq hs).2.2⟩
theorem q1k {m:Int}:∀ {l:List PaT} {n:Int},(∀ p∈l,(chkV p).2=0/\p.1=false/\p.2.1=m)->((ayaF l).length:Int)<=n->lenF m l n=0
 | [],_,_,_=>rfl
 | p::l,n,h,hn=>by
  have hp:=h p (List.mem_cons_self ..);have hl:=(qjt hp.1).2;have hn:(((symV p).1++ayaF l).length:Int)<=n:=hn;rw[List.length_append] at hn;rw[lenF,decide_eq_false (by rw[hp.2.2];simp),decide_eq_false (by omega)];exact q1k (λ q hq=>h q (List.mem_cons_of_mem _ hq)) (by omega)
theorem qnp {l:List PaT} {m:Int} (h:okJ l m):∀ x∈ayaF l,sOK m x=true:=by
 intro x hx;obtain ⟨p,hp,hx⟩:=List.mem_flatMap.1 hx;have hq:=h.2.1 p hp;have:=(qfq (qjt hq.1).1).1 x hx;rw[hq.2.2] at this;exact this
theorem cj_0 {l:List PaT} {m:Int} (h0:0<l.length) (h:okJ l m):cjV l=0/\(gtP l 0).1=false/\(gtP l 0).2.1=m:=by
 have hg:=h.2.1 (gtP l 0) (by rw[qhn h0];exact List.getElem_mem h0);have h4:=h.2.2;have ho:l.any (othB l)=false:=by
  rw[List.any_eq_false];intro p hp;unfold othB;rw[(h.2.1 p hp).2.1,hg.2.1];decide
 refine ⟨?_,hg.2.1,hg.2.2⟩;unfold cjV;rw[decide_eq_false (by omega),decide_eq_false (by rw[qr0 λ p hp=>(h.2.1 p hp).1];simp),ho,hg.2.2];exact q1k h.2.1 (by omega)
theorem q7j {l:List PaT} {m:Int} (h0:0<l.length) (h:okJ l m):jnV l=((false,m,((ayaF l).length:Int),chL (ayaF l)),0):=by
 obtain ⟨e1,e2,e3⟩:=cj_0 h0 h;have e4:=q1w (qnp h) h.1.1 h.1.2 h.2.2;unfold jnV;rw[decide_eq_false (by rw[e1];simp),e3,e4,e2,decide_eq_false (by simp)]
theorem jn_ok {l:List PaT} {m:Int} (h:okJ l m):(chkV (false,m,((ayaF l).length:Int),chL (ayaF l))).2=0/\symV (false,m,((ayaF l).length:Int),chL (ayaF l))=(ayaF l,0):=by
 have:=nf_ok false (qnp h) h.1.1 h.1.2 h.2.2;exact ⟨this.1,this.2.2⟩
theorem q6q {t:List (List Int)} {m:Int} (ht:qmy t) (h0:0<=m) (h1:m<=65536):(chkV (szV t m)).2=0/\(symV (szV t m)).1.length<=30:=by
 have hc:(chkV (szV t m)).2=0:=by rw[q21 ht h0 h1]
 have:=(qjt hc).2;have h2:=qud ht h0;refine ⟨hc,?_⟩;have:((symV (szV t m)).1.length:Int)=lenS (szO t m):=this;omega
theorem qx9 (p:PaT):smB p p=true:=by
 have:∀ l:List OpT,smL l l=true:=by
  intro l
  induction l with
  | nil=>rfl
  | cons x l ih=>rw[smL,ih,Bool.and_true];unfold soB;simp
 unfold smB;simp[this]
def ctSecF:Ctr:=⟨[paS,iI],λ _=>True,λ x=>[.sl paS (secV x.1 x.2.1).1,.i (secV x.1 x.2.1).2],λ _=>[]⟩
def ctSplF:Ctr:=⟨[paS,.sl seS],λ x=>∀ s∈(show List SecT from x.2.1),s.1.length<2 ^ 62,λ x=>[.sl paS (splV x.1 x.2.1).1,.i (splV x.1 x.2.1).2],λ _=>[]⟩
def CLf:CV:=[(6,.inl ctSn12),(17,.inl ctM6),(18,.inl ctSz),(13,.inl ctJn),(11,.inl ctSecF),(9,.inl ctSplF),(16,.inl ctSm)]
abbrev RaT3:Type:=Int × List (List Int)
abbrev gtR3 (x:List (Int × List (List Int))) (i:Nat):Int × List (List Int):=gt raS x i
abbrev pX (x:List RaT3):PaT:=szV (gtR3 x 0).2 ((gtR3 x 0).1 % 13)
abbrev qX (x:List RaT3):PaT:=szV (gtR3 x 1).2 (pX x).2.1
set_option maxRecDepth 100000
theorem q55 (x:List (Int × List (List Int))) (n:Int) (Q:List SV->Prop) (R:List Item->PS->Prop):sA CLf Tryd.f4 (λ rs _=>Q rs) R [.code (qaf Tryd.f4)] (entry [.arr 2 raS,uB] (x,n,())) =
  (ctSn12.pre ()/\(0:Int)<=0/\(0:Int)<(↑(2:Nat):Int)/\0<2/\ctM6.pre (((gtR3 x 0).1,(gtR3 x 0).2),())/\(0:Int)<=1/\(1:Int)<(↑(2:Nat):Int)/\1<2/\ctSz.pre (((gtR3 x 1).1,(gtR3 x 1).2),(pX x).2.1,())/\0+2<=([(pX x),(qX x)]:List paS.D).length/\ctJn.pre (([(pX x),(qX x)]:List paS.D),())/\0+2<=([(true,(pX x).2.1,(pX x).2.2.1,(pX x).2.2.2),(qX x)]:List paS.D).length/\ctJn.pre (([(true,(pX x).2.1,(pX x).2.2.1,(pX x).2.2.2),(qX x)]:List paS.D),())/\0+2<=([(true,(pX x).2.1,(pX x).2.2.1,(pX x).2.2.2),(true,(qX x).2.1,(qX x).2.2.1,(qX x).2.2.2)]:List paS.D).length/\ctJn.pre (([(true,(pX x).2.1,(pX x).2.2.1,(pX x).2.2.2),(true,(qX x).2.1,(qX x).2.2.1,(qX x).2.2.2)]:List paS.D),())/\ctSecF.pre ((true,(pX x).2.1,(pX x).2.2.1,(pX x).2.2.2),IntKind.i64.wrap ((1:Int)+IntKind.i64.wrap n),())/\ctSplF.pre ((true,(pX x).2.1,(pX x).2.2.1,(pX x).2.2.2),[],())/\bc (decide ((jnV (([(pX x),(qX x)]:List paS.D))).2=(0:Int))) (bc (decide ((jnV (([(true,(pX x).2.1,(pX x).2.2.1,(pX x).2.2.2),(qX x)]:List paS.D))).2=(62:Int))) (bc (decide ((jnV (([(true,(pX x).2.1,(pX x).2.2.1,(pX x).2.2.2),(true,(qX x).2.1,(qX x).2.2.1,(qX x).2.2.2)]:List paS.D))).2=(0:Int))) (ctSm.pre (((jnV (([(true,(pX x).2.1,(pX x).2.2.1,(pX x).2.2.2),(true,(qX x).2.1,(qX x).2.2.1,(qX x).2.2.2)]:List paS.D))).1),(true,(jnV (([(pX x),(qX x)]:List paS.D))).1.2.1,(jnV (([(pX x),(qX x)]:List paS.D))).1.2.2.1,(jnV (([(pX x),(qX x)]:List paS.D))).1.2.2.2),())/\bc (bif true then smB ((jnV (([(true,(pX x).2.1,(pX x).2.2.1,(pX x).2.2.2),(true,(qX x).2.1,(qX x).2.2.1,(qX x).2.2.2)]:List paS.D))).1) (true,(jnV (([(pX x),(qX x)]:List paS.D))).1.2.1,(jnV (([(pX x),(qX x)]:List paS.D))).1.2.2.1,(jnV (([(pX x),(qX x)]:List paS.D))).1.2.2.2) else false) (bc (decide ((secV (true,(pX x).2.1,(pX x).2.2.1,(pX x).2.2.2) (IntKind.i64.wrap ((1:Int)+IntKind.i64.wrap n))).2=(62:Int))) (bc (decide ((splV (true,(pX x).2.1,(pX x).2.2.1,(pX x).2.2.2) []).2=(62:Int))) (Q [.bool true]) (false=false/\Q [.bool false])) (false=false/\false=false/\Q [.bool false])) (false=false/\false=false/\false=false/\Q [.bool false])) (false=false/\false=false/\false=false/\false=false/\Q [.bool false])) (false=false/\false=false/\false=false/\false=false/\false=false/\Q [.bool false])) (false=false/\false=false/\false=false/\false=false/\false=false/\false=false/\Q [.bool false])):=by kernel_rfl
attribute [local irreducible] Go.Px.sy Go.Px.syE
theorem quu:Held Tryd.prog G0 11 ctSecF:=by
 have h:=sec_held.frz (λ x _=>by
  show inL 0 (secV x.1 x.2.1).1.length [SV.win true paS 0 0 (secV x.1 x.2.1).1.length,SV.i (secV x.1 x.2.1).2]/\True
  exact ⟨⟨λ _=>by omega,⟨trivial,trivial⟩⟩,trivial⟩)
 refine h.iff rfl (λ x h=>h) (λ x _=>?_) (λ x _=>rfl)
 show [SV.sl paS (secV x.1 x.2.1).1,SV.i (secV x.1 x.2.1).2]=[SV.sl paS (winL paS 0 (secV x.1 x.2.1).1.length (secV x.1 x.2.1).1),SV.i (secV x.1 x.2.1).2]
 rw[winA (e:=paS)]
theorem qun:Held Tryd.prog G0 9 ctSplF:=by
 have h:=spl_held.frz (λ x _=>by
  show inL 0 (splV x.1 x.2.1).1.length [SV.win true paS 0 0 (splV x.1 x.2.1).1.length,SV.i (splV x.1 x.2.1).2]/\True
  exact ⟨⟨λ _=>by omega,⟨trivial,trivial⟩⟩,trivial⟩)
 refine h.iff rfl (λ x h=>h) (λ x _=>?_) (λ x _=>rfl)
 show [SV.sl paS (splV x.1 x.2.1).1,SV.i (splV x.1 x.2.1).2]=[SV.sl paS (winL paS 0 (splV x.1 x.2.1).1.length (splV x.1 x.2.1).1),SV.i (splV x.1 x.2.1).2]
 rw[winA (e:=paS)]
theorem cxLf:CxOK Tryd.prog tt G0 CLf:=((((((cx0.k qph (fn:=Tryd.f16)).k qun (fn:=Tryd.f9)).k quu (fn:=Tryd.f11)).k qwa (fn:=Tryd.f13)).k quc (fn:=Tryd.f18)).k qs2 (fn:=Tryd.f17)).k qup (fn:=Tryd.f6)
def lf (p:PaT):PaT:=(true,p.2)
theorem q1j (p:PaT):symV (lf p)=symV p:=rfl
theorem q7i (p q:PaT):ayaF [lf p,lf q]=ayaF [p,q]:=rfl
theorem jn_lf {p q:PaT} {m:Int} (h:okJ [p,q] m):jnV [lf p,lf q]=((true,m,((ayaF [p,q]).length:Int),chL (ayaF [p,q])),0):=by
 have hp:=h.2.1 p (by simp);have hq:=h.2.1 q (by simp);have h4:=h.2.2;have e4:=q1w (qnp h) h.1.1 h.1.2 h.2.2;have hc:ckaF [lf p,lf q]=0:=qr0 λ x hx=>by
  rcases List.mem_cons.1 hx with rfl | hx
  ·exact hp.1
  ·rw[List.mem_singleton] at hx;subst hx;exact hq.1
 have ho:[lf p,lf q].any (othB [lf p,lf q])=false:=rfl;have hl:((symV p).1.length:Int)=p.2.2.1/\((symV q).1.length:Int)=q.2.2.1:=⟨(qjt hp.1).2,(qjt hq.1).2⟩;have ha:(ayaF [p,q]).length=(symV p).1.length+(symV q).1.length:=by
  show ((symV p).1++((symV q).1++[])).length=_
  rw[List.append_nil,List.length_append]
 have hn:lenF (gtP [lf p,lf q] 0).2.1 [lf p,lf q] 65536=0:=by
  show lenF p.2.1 [lf p,lf q] 65536=0
  rw[lenF,decide_eq_false (by show ¬ (p.2.1≠p.2.1);simp),decide_eq_false (by show ¬ (65536:Int)<p.2.2.1;omega)]
  show lenF p.2.1 [lf q] (65536-p.2.2.1)=0
  rw[lenF,decide_eq_false (by show ¬ (q.2.1≠p.2.1);rw[hp.2.2,hq.2.2];simp),decide_eq_false (by show ¬ (65536-p.2.2.1:Int)<q.2.2.1;omega)];rfl
 have hj:cjV [lf p,lf q]=0:=by
  unfold cjV;rw[decide_eq_false (by simp),decide_eq_false (by rw[hc];simp),ho];exact hn
 have hm:(gtP [lf p,lf q] 0).2.1=m:=hp.2.2;unfold jnV;rw[decide_eq_false (by rw[hj];simp),q7i,hm,e4,decide_eq_false (by simp)];rfl
theorem q7l {p q:PaT} {m:Int} (h:okJ [p,q] m):(jnV [lf p,q]).2=62:=by
 have hp:=h.2.1 p (by simp);have hq:=h.2.1 q (by simp);have hc:ckaF [lf p,q]=0:=qr0 λ x hx=>by
  rcases List.mem_cons.1 hx with rfl | hx
  ·exact hp.1
  ·rw[List.mem_singleton] at hx;subst hx;exact hq.1
 have ho:[lf p,q].any (othB [lf p,q])=true:=by
  show (othB [lf p,q] (lf p) || (othB [lf p,q] q || false))=true
  have:othB [lf p,q] q=true:=by
   show (q.1 != true)=true
   rw[hq.2.1];rfl
  rw[this];simp
 have hj:cjV [lf p,q]=62:=by
  unfold cjV;rw[decide_eq_false (by simp),decide_eq_false (by rw[hc];simp),ho]
 unfold jnV;rw[decide_eq_true (by rw[hj];simp)];exact hj
def preLf (x:List RaT3) (n:Int):Prop:=(qpr (gtR3 x 0).1 (gtR3 x 0).2/\qpr (gtR3 x 1).1 (gtR3 x 1).2)/\(0<=n/\n<256)
def ctLf:Ctr:=⟨[.arr 2 raS,uB],λ x=>preLf x.1 x.2.1,λ _=>[.bool true],λ _=>[]⟩
theorem q7h (x:List RaT3) (n:Int) (h0:qpr (gtR3 x 0).1 (gtR3 x 0).2) (h1:qpr (gtR3 x 1).1 (gtR3 x 1).2):GD 4 Tryd.f4 (λ rs _=>rs=[.bool true]) [.code (qaf Tryd.f4)] (entry [.arr 2 raS,uB] (x,n,())):=by
 have hm:0<=(gtR3 x 0).1 % 13/\(gtR3 x 0).1 % 13<=12:=by obtain ⟨hz,_⟩:=h0;omega
 obtain ⟨hp,hp30⟩:=q6q (t:=(gtR3 x 0).2) (m:=(gtR3 x 0).1 % 13) h0.2.1 hm.1 (by omega);have hpm:(pX x).2.1=(gtR3 x 0).1 % 13:=rfl;obtain ⟨hq,hq30⟩:=q6q (t:=(gtR3 x 1).2) (m:=(pX x).2.1) h1.2.1 (by omega) (by omega);have hqm:(qX x).2.1=(pX x).2.1:=rfl;have hp1:(pX x).1=false:=rfl;have hq1:(qX x).1=false:=rfl;have hsz:q65 (gtR3 x 1).2 (pX x).2.1:=⟨h1.2.1,⟨by omega,by omega⟩,h1.2.2⟩;refine qh3 cxLf (q55 x n _ _) ?_;have hp:(chkV (pX x)).2=0:=hp;have hq:(chkV (qX x)).2=0:=hq;have hp30:(symV (pX x)).1.length<=30:=hp30;have hq30:(symV (qX x)).1.length<=30:=hq30;generalize pX x=p at *;generalize qX x=q at *;have hok:okJ [p,q] p.2.1:=by
  refine ⟨by omega,λ y hy=>?_,?_⟩
  ·rcases List.mem_cons.1 hy with rfl | hy
   ·exact ⟨hp,hp1,rfl⟩
   ·rw[List.mem_singleton] at hy;subst hy;exact ⟨hq,hq1,hqm⟩
  ·show ((symV p).1++((symV q).1++[])).length<=4096
   rw[List.append_nil,List.length_append];omega
 have e1:=q7j (l:=[p,q]) (by simp) hok;have e2:=q7l hok;have e3:=jn_lf hok;have hsl:∀ k,(secV (lf p) k).2=62:=λ k=>by
  unfold secV;rw[qyg (p:=lf p) (by rw[q1j];exact (qjt hp).1) rfl,decide_eq_true (by decide)]
 have hsp:(splV (lf p) []).2=62:=by
  unfold splV;rw[qyg (p:=lf p) (by rw[q1j];exact (qjt hp).1) rfl,decide_eq_true (by decide)]
 have hb:=jn_ok hok;have hlen:(chL (ayaF [p,q])).length<1099511627776:=by have h9:(chL (ayaF [p,q])).length<=4096:=(qif hb.1).2.2.2;omega
 change ctSn12.pre ()/\_
 have c1:(true,p.2.1,p.2.2.1,p.2.2.2)=lf p:=rfl;have c2:(true,q.2.1,q.2.2.1,q.2.2.2)=lf q:=rfl;simp only[c1,c2,e1,e2,e3,hsl,hsp,decide_true,bc_t,cond_true,qx9];exact ⟨trivial,by omega,by omega,by omega,h0,by omega,by omega,by omega,hsz,by simp,(by show 2<1000000;omega),by simp,(by show 2<1000000;omega),by simp,(by show 2<1000000;omega),trivial,(λ s hs=>by cases hs),hlen,trivial⟩
theorem q4g:Held Tryd.prog G0 4 ctLf:=Held.of cxLf (fn:=Tryd.f4) rfl rfl ⟨by decide,by decide⟩ λ ⟨x,n,_⟩ hp=>(q7h x n hp.1.1 hp.1.2).post λ rs blk hq=>QC.flat (by rw[hq];rfl) rfl (by rw[hq];rfl)
def preX3 (x:List RaT3):Prop:=∀ j,qpr (gtR3 x j).1 (gtR3 x j).2
def u8L (b:List Int):Prop:=∀ j,0<=gtB b j/\gtB b j<256
theorem q2z {n:Int} (h:wfD uB n):0<=n/\n<256:=by
 have h:(Lit.int IntKind.u8 n).wf=true:=h;simp[Lit.wf,IntKind.min,IntKind.max,IntKind.signed,IntKind.bits] at h;omega
theorem q20 {l:List Int} (h:∀ x∈l,wfD uB x):u8L l:=λ j=>by
 by_cases hj:j<l.length
 ·rw[q1m hj];exact q2z (h _ (List.getElem_mem hj))
 ·have:gtB l j=0:=by
   show gt uB _ _=_
   unfold gt;rw[List.getElem?_eq_none (by omega)];rfl
  rw[this];decide
theorem l4_of {l:List (List Int)} (h:∀ x∈l,wfD a4S x):qmy l:=λ j=>by
 by_cases hj:j<l.length
 ·have e:gt a4S l j=l[j]:=gtE (e:=a4S) hj;rw[e];exact q20 (h _ (List.getElem_mem hj)).2
 ·have:gt a4S l j=List.replicate 4 (0:Int):=by
   unfold gt;rw[List.getElem?_eq_none (by omega)];rfl
  rw[this];exact q20 λ x hx=>by
   rw[List.eq_of_mem_replicate hx];rfl
theorem x_of {x:List (Int × List (List Int))} (h:∀ r∈x,wfD raS r):preX3 x:=λ j=>by
 by_cases hj:j<x.length
 ·have e:gtR3 x j=x[j]:=gtE (e:=raS) hj;rw[e];have k:=h _ (List.getElem_mem hj);exact ⟨q2z k.1,l4_of k.2.2,k.2.1⟩
 ·have:gtR3 x j=((0:Int),([]:List (List Int))):=by
   unfold gtR3 gt;rw[List.getElem?_eq_none (by omega)];rfl
  rw[this];exact ⟨⟨Int.le_refl 0,by decide⟩,λ k i=>by rw[show gt a4S ([]:List (List Int)) k=List.replicate 4 (0:Int) from rfl];exact q20 (λ x hx=>by rw[List.eq_of_mem_replicate hx];rfl) i,by decide⟩
theorem qtm {g:Nat} {x:ABlk} (h:rawG.get g=some x):g=0/\x=.cells qhq 138 2:=by
 unfold rawG T.get at h;split at h
 next e=>cases h;exact ⟨e,rfl⟩
 ·split at h <;> (simp[T.get] at h)
theorem hG:Glob G0.raw:=⟨λ g x h=>by rw[(qtm h).1];decide,λ g x h=>by rw[(qtm h).2];decide⟩
abbrev H0:AHeap:=⟨qlc,G0.raw⟩
def Z0:Nat->Option ABlk:=λ g=>rawG.get g
theorem gz0:GZ Z0 G0:=by
 refine ⟨λ g x e=>?_,λ g x e=>e⟩;simp only[G0,lk] at e;split at e
 next h=>subst h;cases e;refine ⟨by decide,λ ν=>⟨0,0,qhq,138,2,rfl,rfl,by decide,?_⟩⟩;exact qyc (.arr 5 coS) costsL ⟨rfl,λ x _=>⟨trivial,trivial⟩⟩
 ·cases e
theorem fro0:Px.Fro G0 H0:=⟨λ i x h=>by rw[(qtm h).2];rfl,λ i x h=>by rw[(qtm h).2];trivial,λ i x h=>by rw[(qtm h).1];decide,gz0⟩
end Go.Proofs.YtdeacfammdjajaaDoor
