/-
  A part of the proof: what pieces of the program give; conditions: those of each theorem.
-/
import Derived.Test.YtgopblmdkjkbbaaGreatDoorQ3
import Derived.Test.YtgopblmdkjkbbaaGreatDoorQ2
import Derived.Test.YtgopblmdkjkbbaaGreatDoorHD
set_option linter.unusedVariables false
set_option linter.unusedSimpArgs false
namespace Go.Proofs.YtgopblmdkjkbbaaGreatDoor
open Go.Px Go.Ax
set_option maxRecDepth 100000
attribute [local irreducible] Go.Px.sy Go.Px.syE
theorem qn4 (s:SyT):rkd s=kndB s:=by
 obtain ⟨f,a,b⟩:=s;unfold rkd kndB
 cases f with
 | false=>rfl
 | true=>
  show (if b≠0 then (2:Int) else 1)=bif false then 4 else bif decide (b≠0) then 2 else 1
  by_cases h:b≠0
  ·rw[if_pos h,decide_eq_true h];rfl
  ·rw[if_neg h,decide_eq_false h];rfl
theorem qyv (s t:SyT):rgoB s t=goB s t:=by
 unfold rgoB goB;rw[qn4,qn4]
theorem q3n {l:List SyT} {i:Nat} (h:i<l.length):ptL l i (i+1)=[gtY l i]:=by
 show ((l.take ((i+1:Nat):Int).toNat).drop (i:Int).toNat)=_
 rw[Int.toNat_natCast,Int.toNat_natCast,List.take_succ_eq_append_getElem h,List.drop_append_of_le_length (by rw[List.length_take];omega),List.drop_eq_nil_of_le (by rw[List.length_take];omega),qdf h];rfl
theorem ptL_s {l:List SyT} {a i:Nat} (ha:a<=i) (h:i<l.length):ptL l a (i+1)=ptL l a i++[gtY l i]:=by
 show ((l.take ((i+1:Nat):Int).toNat).drop (a:Int).toNat)=((l.take (i:Int).toNat).drop (a:Int).toNat)++_
 rw[Int.toNat_natCast,Int.toNat_natCast,Int.toNat_natCast,List.take_succ_eq_append_getElem h,List.drop_append_of_le_length (by rw[List.length_take];omega),qdf h]
theorem q16 {u v:List SyT} (h:0<u.length):gtY (u++v) 0=gtY u 0:=by
 rw[qdf (by rw[List.length_append];omega),qdf h,List.getElem_append_left h]
theorem md_1 (s:SyT):mdO [s]=newO s:=by
 unfold mdO newO;rw[show gtY [s] 0=s from rfl,qn4];rfl
theorem md_s {u:List SyT} {s:SyT} (h:0<u.length):mdO (u++[s])=extO (mdO u) s:=by
 unfold mdO extO;rw[q16 h,List.length_append,List.map_append];simp only[List.length_singleton,List.map_cons,List.map_nil];rw[show ((u.length+1:Nat):Int)=(u.length:Int)+1 by omega];by_cases hk:kndB (gtY u 0)=1
 ·rw[if_pos hk,if_pos hk,if_pos hk]
 ·rw[if_neg hk,if_neg hk,if_neg hk]
theorem qtu (l:List SyT):∀ (k a i:Nat) (A:List OpT),1<=i->i<=l.length->a<i->k=l.length+1-i->ofR l (i-1)=(A,mdO (ptL l a i))->A++opsF l k a i=ofO l
 | 0,_,_,_,h1,h2,_,hk,_=>by omega
 | k+1,a,i,A,h1,h2,ha,hk,hr=>by
  obtain ⟨j,rfl⟩:∃ j,i=j+1:=⟨i-1,by omega⟩;rw[Nat.add_sub_cancel] at hr;have hp:=qoa (l:=l) (a:=a) (i:=j+1) (by omega) h2;by_cases he:j+1=l.length
  ·rw[cut1 (.inl he)];have hk:k=0:=by omega
   subst hk;unfold ofO;rw[<- he]
   show A++mdO (ptL l a (j+1))::[]=(ofR l j).1++[(ofR l j).2]
   rw[hr]
  ·have hl:j+1<l.length:=by omega
   have hs:ofR l (j+1)=stpR (ofR l j) (gtY l j) (gtY l (j+1)):=rfl
   cases hg:goB (gtY l j) (gtY l (j+1)) with
   | false=>
    rw[cut1 (.inr (by rw[Nat.add_sub_cancel];exact hg))]
    have:=qtu l k (j+1) (j+1+1) (A++[mdO (ptL l a (j+1))]) (by omega) (by omega) (by omega) (by omega) (by
     rw[Nat.add_sub_cancel,hs,hr,q3n hl,md_1];unfold stpR
     rw[qyv,hg])
    rw[List.append_assoc] at this;exact this
   | true=>
    rw[cut0 (by rw[Nat.add_sub_cancel,hg];simp;omega)]
    exact qtu l k a (j+1+1) A (by omega) (by omega) (by omega) (by omega) (by
     rw[Nat.add_sub_cancel,hs,hr,ptL_s (by omega) hl,md_s (by omega)];unfold stpR
     rw[qyv,hg])
theorem qxc (l:List SyT):opsL l=ofO l:=by
 by_cases h:l.length=0
 ·have:=List.eq_nil_of_length_eq_zero h;subst this;rfl
 ·unfold opsL
  have:=qtu l l.length 0 1 [] (by omega) (by omega) (by omega) (by omega) (by
   show ([],newO (gtY l 0))=_
   rw[q3n (by omega),md_1])
  exact this
theorem q3u (l:List SyT) (m:Int):ofV l m=ofRV l m:=by
 unfold ofV ofRV;rw[qxc]
theorem qu1:Held Tryz.prog G0 14 ctInpF:=by
 have h:=inp_held.frz (λ x _=>by
  show inL 0 (inpL x.1 x.2.1.toNat).length [SV.win true uB 0 0 (inpL x.1 x.2.1.toNat).length]/\True
  exact ⟨⟨λ _=>by omega,trivial⟩,trivial⟩)
 refine h.iff rfl (λ x h=>h) (λ x _=>?_) (λ x _=>rfl)
 show [SV.sl uB (inpL x.1 x.2.1.toNat)]=[SV.sl uB (winL uB 0 (inpL x.1 x.2.1.toNat).length (inpL x.1 x.2.1.toNat))]
 rw[winA (e:=uB)]
theorem qtp:Held Tryz.prog G0 16 ctRawF:=by
 have h:=raw_held.frz (λ x _=>by
  show inL 0 (rawL x.1 x.2.1 (rawK x.1)).length [SV.win true syS 0 0 (rawL x.1 x.2.1 (rawK x.1)).length]/\True
  exact ⟨⟨λ _=>by omega,trivial⟩,trivial⟩)
 refine h.iff rfl (λ x h=>h) (λ x _=>?_) (λ x _=>rfl)
 show [SV.sl syS (rawL x.1 x.2.1 (rawK x.1))]=[SV.sl syS (winL syS 0 (rawL x.1 x.2.1 (rawK x.1)).length (rawL x.1 x.2.1 (rawK x.1)))]
 rw[winA (e:=syS)]
theorem qwv:Held Tryz.prog G0 15 ctSymF:=by
 have h:=rs_held.frz (λ x _=>by
  show inL 0 (symV x.1).1.length [SV.win true syS 0 0 (symV x.1).1.length,SV.i (symV x.1).2]/\True
  exact ⟨⟨λ _=>by omega,⟨trivial,trivial⟩⟩,trivial⟩)
 refine h.iff rfl (λ x h=>h) (λ x _=>?_) (λ x _=>rfl)
 show [SV.sl syS (symV x.1).1,SV.i (symV x.1).2]=[SV.sl syS (winL syS 0 (symV x.1).1.length (symV x.1).1),SV.i (symV x.1).2]
 rw[winA (e:=syS)]
theorem cxPm0:CxOK Tryz.prog tt G0 (CPm.drop 9):=((((((((cx0.k qw1 (fn:=Tryz.f29)).k qnm (fn:=Tryz.f28)).k qs4 (fn:=Tryz.f27)).k qs3 (fn:=Tryz.f26)).k qma (fn:=Tryz.f25)).k qxk (fn:=Tryz.f24)).k qxj (fn:=Tryz.f23)).k qlc (fn:=Tryz.f22)).k qtq (fn:=Tryz.f21)
theorem cxPm:CxOK Tryz.prog tt G0 CPm:=((((((((cxPm0.k qpp (fn:=Tryz.f20)).k qpo (fn:=Tryz.f19)).k qw4 (fn:=Tryz.f18)).k qvn (fn:=Tryz.f17)).k qtp (fn:=Tryz.f16)).k qwv (fn:=Tryz.f15)).k qu1 (fn:=Tryz.f14)).k qrm (fn:=Tryz.f13)).k qwo (fn:=Tryz.f12)
theorem q00 (p:PaT):smB p p=true:=by
 have:∀ l:List OpT,smL l l=true:=by
  intro l
  induction l with
  | nil=>rfl
  | cons x l ih=>rw[smL,ih,Bool.and_true];unfold soB;simp
 unfold smB;simp[this]
theorem qs9 (b:List Int) (l:List SyT):(runV b l).1.length<=l.length:=by
 unfold runV;split <;> simp
theorem q4c (b:List Int) (p:PaT):(apV b p).1.length<1099511627776:=by
 have:=qld p;unfold apV plV;split
 ·split
  ·have:=qs9 b (symV p).1;omega
  ·show 0<1099511627776;omega
 ·show 0<1099511627776;omega
theorem q1l (l:List SyT) (m:Int):(ofRV l m).1.2.2.2.length<1099511627776:=by
 unfold ofRV;split
 ·split
  ·decide
  ·show (ofO l).length<_;omega
 ·decide
abbrev GDpm (it:List Item) (S:PS):Prop:=GD 3 Tryz.f3 (λ rs _=>rs=[.bool true]) it S
theorem qw6 {p:PaT} {bd:List (List Int)} {r:List SyT} (hp:p.1=false) (hc:chkV p=((p.2.2.2.length:Int),(0:Int))) (hb:∀ i,i<2->(gtBs bd i).length<1099511627776) (hr:r.length<16777216):∀ (k i:Nat),2-i=k->i<=2->GDpm (hd Tryz.f3 0) ⟨[(6,.bool false),(7,.bool true),(8,.ptr 8 0),(10,.sl syS (symV p).1),(12,.sl syS r),(13,.ptr 13 0),(14,.i (i:Nat))],[(8,.var [.bool p.1,.i p.2.1,.i p.2.2.1,.sl opS p.2.2.2]),(13,.var [.arr 2 (.sl uB) bd])]⟩:=by
 intro k
 induction k with
 | zero=>
  intro i hk hi;have hi:i=2:=by omega
  subst hi;refine qaw cxPm (qsj p bd (symV p).1 r 2 _ _) ?_;have h0:(chkV p).2=0:=by rw[hc]
  have e1:(symV p).2=0:=by unfold symV;rw[if_pos h0]
  have e2:(chkV p).1=(p.2.2.2.length:Int):=by rw[hc]
  have ck:=qf9 h0;have hs:=qld p;have q1:(symV p).1.length<1099511627776:=by omega
  have q2:r.length<1099511627776:=by omega
  have q3:p.2.2.2.length<1099511627776:=by have:=ck.2.2.2;omega
  have q4:=q1l r p.2.1;rw[decide_eq_false (show ¬ ((2:Nat):Int)<2 by omega),bc_f,q3u,e1,e2,h0,winA,q00];simp only[eq_self,decide_true,cond_true,bc_t];exact ⟨trivial,hr,q2,trivial,by omega,q1,q4,⟨qq9 ck.1,q3⟩,q3,trivial⟩
 | succ k ih=>
  intro i hk hi;have hil:i<2:=by omega
  refine qaw cxPm (qsj p bd (symV p).1 r i _ _) ?_;have nx:=ih (i+1) (by omega) (by omega);have q1:=q4c (gtBs bd i) p;have q2:=qs9 (gtBs bd i) r;have q3:(runV (gtBs bd i) r).1.length<1099511627776:=by omega
  rw[decide_eq_true (show ((i:Nat):Int)<2 by omega),bc_t,IntWalk.i64_in ((i:Int)+1) (by omega)];simp only[Int.toNat_natCast,ne_eq,eq_self,not_true_eq_false,decide_true,decide_false,Bool.not_true,cond_false,bc_f];refine ⟨by omega,by omega,hil,hp,by omega,by omega,hil,hp,by omega,by omega,hil,hr,by omega,by omega,hil,⟨hb i hil,hr⟩,by omega,by omega,(by show (winL uB 0 _ _).length<_;rw[winA];exact q1),by omega,by omega,(by show (winL uB 0 _ _).length<_;rw[winA];exact q3),?_⟩;exact nx.only ⟨rfl,rfl,rfl,rfl,rfl,rfl,rfl,trivial⟩ ⟨rfl,rfl,trivial⟩
def q34:Ctr:=⟨[raS,.sl uB,.sl a2S],λ x=>qw5 x.1.1 x.1.2/\qob x.2.2.1,λ _=>[.bool true],λ _=>[]⟩
theorem q1a (x:Int × List (List Int)) (b:List Int) (l:List (List Int)) (hx:qw5 x.1 x.2) (hl:qob l):GDpm [.code (qah Tryz.f3)] (entry [raS,.sl uB,.sl a2S] (x,b,l,())):=by
 refine qaw cxPm (q2w x b l _ _) ?_;have hm:(szV x.2 (x.1 % 13)).2.1=x.1 % 13:=rfl;have hc:=q0e hx.2.1 (m:=x.1 % 13) (by omega) (by omega);have hc:chkV (szV x.2 (x.1 % 13))=(((szV x.2 (x.1 % 13)).2.2.2.length:Int),(0:Int)):=hc;have hp:(szV x.2 (x.1 % 13)).1=false:=rfl;generalize szV x.2 (x.1 % 13)=p at *;rw[hm];have pI:preI (x.1 % 13):=⟨by omega,by omega⟩;have hr:(rawL l (x.1 % 13) (rawK l)).length<16777216:=by rw[qil];unfold rawK;omega
 refine ⟨trivial,hx,pI,trivial,⟨hl,pI⟩,by omega,by omega,?_⟩
 have g:=qw6 (p:=p) (bd:=[inpL b (x.1 % 13).toNat,List.take (min (b.length:Int) 20).toNat b]) (r:=rawL l (x.1 % 13) (rawK l)) hp hc (λ i hi=>by
  rcases (show i=0\/i=1 by omega) with rfl | rfl
  ·show (inpL b (x.1 % 13).toNat).length<_
   rw[qp8];omega
  ·show (List.take (min (b.length:Int) 20).toNat b).length<_
   rw[List.length_take];omega) hr _ 0 rfl (Nat.zero_le _)
 exact g.only ⟨rfl,rfl,rfl,rfl,rfl,rfl,rfl,trivial⟩ ⟨by rw[hm];rfl,rfl,trivial⟩
theorem qw7:Held Tryz.prog G0 3 q34:=Held.of cxPm (fn:=Tryz.f3) rfl rfl ⟨by decide,by decide⟩ λ ⟨x,b,l,_⟩ hp=>(q1a x b l hp.1 hp.2).post λ rs blk hq=>QC.flat (by rw[hq];rfl) rfl (by rw[hq];rfl)
theorem q24 {n:Int} (h:wfD uB n):0<=n/\n<256:=by
 have h:(Lit.int IntKind.u8 n).wf=true:=h;simp[Lit.wf,IntKind.min,IntKind.max,IntKind.signed,IntKind.bits] at h;omega
theorem qwe {l:List Int} (h:∀ x∈l,wfD uB x):qoc l:=λ j=>by
 by_cases hj:j<l.length
 ·rw[qp9 hj];exact q24 (h _ (List.getElem_mem hj))
 ·have:gtB l j=0:=by
   show gt uB _ _=_
   unfold gt;rw[List.getElem?_eq_none (by omega)];rfl
  rw[this];decide
theorem l4_of {l:List (List Int)} (h:∀ x∈l,wfD a4S x):qmw l:=λ j=>by
 by_cases hj:j<l.length
 ·have e:gt a4S l j=l[j]:=gtE (e:=a4S) hj;rw[e];exact qwe (h _ (List.getElem_mem hj)).2
 ·have:gt a4S l j=List.replicate 4 (0:Int):=by
   unfold gt;rw[List.getElem?_eq_none (by omega)];rfl
  rw[this];exact qwe λ x hx=>by
   rw[List.eq_of_mem_replicate hx];rfl
theorem l2_of {l:List (List Int)} (h:∀ x∈l,wfD a2S x):qob l:=λ j=>by
 by_cases hj:j<l.length
 ·have e:gt a2S l j=l[j]:=gtE (e:=a2S) hj;rw[e];exact qwe (h _ (List.getElem_mem hj)).2
 ·have:gt a2S l j=List.replicate 2 (0:Int):=by
   unfold gt;rw[List.getElem?_eq_none (by omega)];rfl
  rw[this];exact qwe λ x hx=>by
   rw[List.eq_of_mem_replicate hx];rfl
theorem q3p:Held Tryz.prog G0 3 q34:=qw7
end Go.Proofs.YtgopblmdkjkbbaaGreatDoor
