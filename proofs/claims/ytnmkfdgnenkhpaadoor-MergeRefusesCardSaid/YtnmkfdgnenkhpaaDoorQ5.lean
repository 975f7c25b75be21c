/-
  A part of the proof: what pieces of the program give; conditions: those of each theorem.
-/
import Derived.Test.YtnmkfdgnenkhpaaDoorQ4
import Derived.Test.YtnmkfdgnenkhpaaDoorHD
set_option linter.unusedVariables false
set_option linter.unusedSimpArgs false
namespace Go.Proofs.YtnmkfdgnenkhpaaDoor
open Go.Px Go.Ax
set_option maxRecDepth 100000
structure IsP (n:Nat) (l:List SyT) (p:PaT):Prop where
 ck:(chkV p).2=0
 sf:symF p.2.2.2=l
 li:p.1=false
 hm:p.2.1=n
 ho:p.2.2.1=n
 len:l.length=n
 le:n<=4096
 ok:∀ s∈l,sOK n s=true
variable {n:Nat} {l a b c:List SyT} {p q r:PaT}
theorem IsP.sy (h:IsP n l p):symV p=(l,0):=by rw[qu0 h.ck,h.sf]
theorem IsP.sySy (h:IsP n l p):sySy p=l:=by unfold Go.Proofs.YtnmkfdgnenkhpaaDoor.sySy;rw[h.sy]
theorem q2o {l:List SyT} (h:q0n l):IsP l.length l (mkP l):=by
 obtain ⟨_,h2,h3⟩:=q2k h;exact ⟨h2,h3,rfl,rfl,rfl,rfl,h.1,h.2⟩
theorem q2n (h1:l.length=n) (h2:n<=4096) (h3:∀ s∈l,sOK n s=true):IsP n l (nfP false n l):=by
 obtain ⟨k1,k2,_⟩:=nf_ok (m:=n) false h3 (by omega) (by omega) (by omega);exact ⟨k1,k2,rfl,rfl,by show (l.length:Int)=n;omega,h1,h2,h3⟩
theorem IsP.fo (h:IsP n l p):foV p=(nfP false n l,0):=by
 rw[fo_nf h.ck (by rw[h.ho];have:=h.le;omega),h.li,h.hm,h.sf]
theorem q4i (h:IsP n a p) (k:IsP n b q):syEr [p,q]=0:=by
 unfold syEr syEr syEr;rw[h.sy,k.sy];rfl
theorem IsP.all (h:IsP n a p) (k:IsP n b q):qah [p,q]=([a,b],0):=by
 rw[qpm (q4i h k)]
 ·show ([Go.Proofs.YtnmkfdgnenkhpaaDoor.sySy p,Go.Proofs.YtnmkfdgnenkhpaaDoor.sySy q],(0:Int))=_
  rw[h.sySy,k.sySy]
 ·simp[othB,qjc,h.li,k.li]
 ·simp[uneB,qjc,h.hm,k.hm,h.ho,k.ho]
theorem q9b (ha:∀ s∈a,sOK n s=true) (hb:∀ s∈b,sOK n s=true):∀ s∈mgL a b,sOK n s=true:=by
 have key:∀ (rs:List (Int × SyT)) (o:List SyT),(∀ x∈rs,sOK n x.2=true)->(∀ s∈o,sOK n s=true)->∀ s∈mgF rs o,sOK n s=true:=by
  intro rs
  induction rs with
  | nil=>intro o _ h;exact h
  | cons x rs ih=>exact fun o h1 h2=>ih _ (fun y hy=>h1 y (by simp[hy])) (q19 h2 (h1 x (by simp)))
 refine key _ _ (fun x hx=>?_) hb;have:∀ (i:Nat) (a:List SyT),(∀ s∈a,sOK n s=true)->∀ x∈whF tcB i a,sOK n x.2=true:=by
  intro i a
  induction a generalizing i with
  | nil=>intro _ x hx;cases hx
  | cons s a ih=>
   intro h x hx;unfold whF at hx;split at hx
   ·rcases List.mem_cons.1 hx with rfl | hx
    ·exact h s (by simp)
    ·exact ih (i+1) (fun y hy=>h y (by simp[hy])) x hx
   ·exact ih (i+1) (fun y hy=>h y (by simp[hy])) x hx
 exact this 0 a ha x hx
theorem q51:∀ (a:List SyT) (i:Nat) (o:List SyT),i+a.length<=o.length->∀ j,j<o.length->gtY (mgF (whF tcB i a) o) j=if i<=j/\j<i+a.length/\tcB j (gtY a (j-i))=true then gtY a (j-i) else gtY o j:=by
 intro a
 induction a with
 | nil=>intro i o _ j _;rw[if_neg (by rintro ⟨h1,h2,_⟩;simp at h2;omega)];rfl
 | cons s a ih=>
  intro i o hl j hj;have hl':i+1+a.length<=o.length:=by simp at hl;omega
  have step:∀ o':List SyT,o'.length=o.length->(∀ j,j≠i->j<o.length->gtY o' j=gtY o j)->gtY o' i=(if tcB i s=true then s else gtY o i)->gtY (mgF (whF tcB (i+1) a) o') j=if i<=j/\j<i+(s::a).length/\tcB j (gtY (s::a) (j-i))=true then gtY (s::a) (j-i) else gtY o j:=by
   intro o' h1 h2 h3;rw[ih (i+1) o' (by rw[h1];exact hl') j (by rw[h1];exact hj)];by_cases e:j=i
   ·subst e;rw[if_neg (by omega),h3,Nat.sub_self,qor];simp
   ·rw[h2 j e hj];by_cases g:i+1<=j
    ·have:gtY (s::a) (j-i)=gtY a (j-(i+1)):=by
      rw[show j-i=(j-(i+1))+1 by omega];rfl
     rw[this];by_cases t:i+1<=j/\j<i+1+a.length/\tcB j (gtY a (j-(i+1)))=true
     ·rw[if_pos t,if_pos ⟨by omega,by simp;omega,t.2.2⟩]
     ·rw[if_neg t,if_neg fun t2=>t ⟨g,by have:=t2.2.1;simp at this;omega,t2.2.2⟩]
    ·rw[if_neg (by omega),if_neg (by omega)]
  unfold whF
  cases hq:tcB i s with
  | true=>
   show gtY (mgF (whF tcB (i+1) a) (o.set ((i:Int)).toNat s)) j=_
   rw[Int.toNat_natCast];refine step _ (by rw[List.length_set]) (fun j hj hjl=>?_) ?_
   ·rw[qbe (by rw[List.length_set];exact hjl),qbe hjl,List.getElem_set_ne (by omega)]
   ·rw[qbe (by rw[List.length_set];simp at hl;omega),List.getElem_set_self];rw[hq];rfl
  | false=>exact step o rfl (fun _ _ _=>rfl) (by rw[hq];rfl)
theorem qbw:(mgL a b).length=b.length:=qp3 _ _
theorem qd1 (h:a.length=b.length) {j:Nat} (hj:j<b.length):gtY (mgL a b) j=if tcB j (gtY a j)=true then gtY a j else gtY b j:=by
 unfold mgL;rw[q51 a 0 b (by omega) j hj,Nat.sub_zero];by_cases t:tcB j (gtY a j)=true
 ·rw[if_pos ⟨by omega,by omega,t⟩,if_pos t]
 ·rw[if_neg (fun h=>t h.2.2),if_neg t]
theorem qr7 (h:a.length=b.length) (hg:∀ j,j<b.length->gtY a j=gtY b j):a=b:=by
 refine List.ext_getElem h fun i h1 h2=>?_
 rw[<- qbe h1,<- qbe h2];exact hg i h2
def noCl (a b:List SyT):Prop:=∀ j,j<a.length->tcB j (gtY a j)=true->tcB j (gtY b j)=true->gtY a j=gtY b j
theorem qve:∀ (r:List Int) (o:List (Int × Int)),0<o.length->0<(rngF r o).length
 | [],_,h=>h
 | i::r,o,h=>by
  rw[rngF];refine qve r _ ?_;unfold rngS;split
  ·rw[List.length_set];exact h
  ·simp
theorem qy5 {r:List Int}:(rngF r []).length=0↔r=[]:=by
 cases r with
 | nil=>simp[rngF]
 | cons i r=>
  have:=qve r (rngS [] i) (by simp[rngS]);rw[rngF];constructor
  ·intro h;omega
  ·intro h;cases h
theorem qua {α:Type} {f:Int->α->Bool}:∀ (l:List α) (i:Nat),whF f i l=[]↔∀ j (h:j<l.length),f ((i+j:Nat):Int) l[j]=false
 | [],i=>by simp[whF]
 | s::l,i=>by
  have ih:=qua (f:=f) l (i+1);unfold whF;cases h:f i s with
  | true=>
   simp only[reduceCtorEq,false_iff];intro k;have:=k 0 (by simp);simp only[Nat.add_zero,List.getElem_cons_zero] at this;rw[h] at this;cases this
  | false=>
   simp only;rw[ih];constructor
   ·intro k j hj
    cases j with
    | zero=>simpa using h
    | succ j=>have:=k j (by simpa using hj);rw[show i+(j+1)=i+1+j by omega];simpa using this
   ·intro k j hj;have:=k (j+1) (by simpa using hj);rw[show i+(j+1)=i+1+j by omega] at this;simpa using this
theorem qxj {s t:SyT}:(!decide ((s.1,s.2.1,s.2.2)=(t.1,t.2.1,t.2.2)))=false↔s=t:=by
 obtain ⟨s1,s2,s3⟩:=s;obtain ⟨t1,t2,t3⟩:=t;simp
theorem qvg:(rgCV a b).length=0↔noCl a b:=by
 unfold rgCV;rw[qy5,List.map_eq_nil_iff,qua];constructor
 ·intro h j hj h1 h2;have:=h j hj;rw[Nat.zero_add,<- qbe hj] at this;unfold clB at this;rw[h1,Int.toNat_natCast,h2,Bool.true_and,Bool.true_and] at this;exact qxj.1 this
 ·intro h j hj;rw[Nat.zero_add,<- qbe hj];unfold clB;rw[Int.toNat_natCast]
  cases h1:tcB j (gtY a j) with
  | false=>rfl
  | true=>
   cases h2:tcB j (gtY b j) with
   | false=>rfl
   | true=>rw[Bool.true_and,Bool.true_and];exact qxj.2 (h j hj h1 h2)
theorem qff (hl:a.length=b.length):noCl a b↔noCl b a:=
 ⟨fun h j hj h1 h2=>(h j (by omega) h2 h1).symm,fun h j hj h1 h2=>(h j (by omega) h2 h1).symm⟩
theorem qzw (h:IsP n a p) (k:IsP n b q) (hc:¬ noCl a b):mgV p q=(z4,110):=by
 unfold mgV;rw[h.all k,h.sySy,k.sySy];have:0<(rgCV a b).length:=by
  have:=mt qvg.1 hc;omega
 rw[show decide ((([a,b],(0:Int)):List (List SyT) × Int).2≠0)=false from rfl,decide_eq_true this]
theorem qoe (h:IsP n a p) (k:IsP n b q) (hc:noCl a b):mgV p q=(nfP false n (mgL a b),0)/\IsP n (mgL a b) (nfP false n (mgL a b)):=by
 have hl:(mgL a b).length=n:=by rw[qbw,k.len]
 have hs:=q9b h.ok k.ok;refine ⟨?_,q2n hl h.le hs⟩;have hcp:=q9s (m:=n) hs (by omega) (by have:=h.le;omega) (by rw[hl];exact h.le);unfold mgV;rw[h.all k,h.sySy,k.sySy,show decide ((([a,b],(0:Int)):List (List SyT) × Int).2≠0)=false from rfl,decide_eq_false (show ¬ 0<(rgCV a b).length by have:=qvg.2 hc;omega),h.hm,hcp,h.li];rfl
theorem q4e {j:Nat} {s:SyT} (h:tcB j s=false):s=(true,(j:Int),0):=by unfold tcB at h;exact (qxj (s:=s) (t:=(true,(j:Int),0))).1 h
theorem qzy (hl:a.length=b.length) (hc:noCl a b):mgL a b=mgL b a:=by
 refine qr7 (by rw[qbw,qbw,hl]) fun j hj=>?_
 rw[qbw] at hj;rw[qd1 hl (by omega),qd1 hl.symm hj]
 cases h1:tcB j (gtY a j) <;> cases h2:tcB j (gtY b j) <;> simp only[if_true,if_false,Bool.false_eq_true]
 ·have e1:gtY a j=(true,(j:Int),0):=by
   exact q4e h1
  have e2:gtY b j=(true,(j:Int),0):=by
   exact q4e h2
  rw[e1,e2]
 ·exact hc j hj h1 h2
theorem qzx:mgL a a=a:=qr7 qbw fun j hj=>by rw[qd1 rfl hj];split <;> rfl
theorem q8g {j:Nat}:tcB j (true,(j:Int),0)=false:=by simp[tcB]
theorem q8f (hl:a.length=b.length) {j:Nat} (hj:j<b.length):tcB j (gtY (mgL a b) j)=(tcB j (gtY a j) || tcB j (gtY b j)):=by
 rw[qd1 hl hj]
 cases h1:tcB j (gtY a j) <;> simp[h1]
theorem qwi (h1:a.length=b.length) (hac:noCl a c) (hbc:noCl b c):noCl (mgL a b) c:=by
 intro j hj t1 t2;rw[qbw] at hj;rw[q8f h1 hj] at t1;rw[qd1 h1 hj]
 cases q:tcB j (gtY a j) with
 | true=>rw[if_pos rfl];exact hac j (by omega) q t2
 | false=>
  rw[if_neg (by decide)];rw[q,Bool.false_or] at t1;exact hbc j hj t1 t2
theorem qwn (h1:a.length=b.length) (h2:b.length=c.length):mgL (mgL a b) c=mgL a (mgL b c):=by
 refine qr7 (by rw[qbw,qbw,qbw]) fun j hj=>?_
 rw[qbw,qbw] at hj;rw[qd1 (by rw[qbw,h2]) hj,q8f h1 (by omega),qd1 h1 (by omega),qd1 (by rw[qbw,h1,h2]) (by rw[qbw];exact hj),qd1 h2 hj]
 cases q1:tcB j (gtY a j) <;> cases q2:tcB j (gtY b j) <;> simp
theorem qjj (p:PaT):smB p p=true:=by
 have:∀ l:List OpT,smL l l=true:=by
  intro l
  induction l with
  | nil=>rfl
  | cons x l ih=>rw[smL,ih,Bool.and_true];unfold soB;simp
 unfold smB;simp[this]
end Go.Proofs.YtnmkfdgnenkhpaaDoor
namespace Go.Proofs.YtnmkfdgnenkhpaaDoor
open Go.Px Go.Ax
set_option maxRecDepth 100000
attribute [local irreducible] Go.Px.sy Go.Px.syE
def Er (p v:PaT) (e:Int):Prop:=(qah [p,v]).2=e/\(qah [v,p]).2=e/\e≠0
theorem Er.cl {p v:PaT} {e:Int} (h:Er p v e):(clV p v).2=e:=by
 unfold clV;rw[h.1,decide_eq_true h.2.2]
theorem Er.mg {p v:PaT} {e:Int} (h:Er p v e):mgV v p=(z4,e):=by
 unfold mgV;rw[h.2.1,decide_eq_true h.2.2]
theorem Er.cm {p v:PaT} {e:Int} (h:Er p v e):cmV p v=(z4,z4,e):=by
 unfold cmV;rw[h.1,decide_eq_true h.2.2]
theorem sme_z (e:Int):smeV (z4,(false,0,0,[]),e) ((false,0,0,[]),(false,0,0,[]),e)=true:=by
 unfold smeV;rw[show smB ((z4,(false,0,0,[]),e):exS.D).1 (((false,0,0,[]),(false,0,0,[]),e):exS.D).1=true from rfl];exact decide_eq_true rfl
def RiP (v:PaT):Prop:=(chkV v).2=0
theorem RiP.s {v:PaT} (h:RiP v):(symV v).2=0:=by rw[qu0 h]
theorem qys {p q:PaT} (h:RiP p) (k:RiP q):syEr [p,q]=0:=by
 unfold syEr syEr syEr;rw[h.s,k.s];rfl
theorem q2w {p v:PaT} (h:RiP p) (k:¬ (chkV v).2=0):Er p v 60/\(qah [v]).2=60:=by
 have h6:(chkV v).2=60:=by rcases q22 v with q | q;exact absurd q k;exact q
 have hv:(symV v).2=60:=by unfold symV;rw[if_neg k,h6]
 have e1:syEr [p,v]=60:=by unfold syEr syEr;rw[h.s,hv];rfl
 have e2:∀ r,syEr (v::r)=60:=fun r=>by unfold syEr;rw[hv];rfl
 exact ⟨⟨by rw[qh6 (by rw[e1];decide),e1],by rw[qh6 (by rw[e2];decide),e2],by decide⟩,by rw[qh6 (by rw[e2];decide),e2]⟩
theorem qxk {p v:PaT} (h:RiP p) (k:RiP v) (hk:p.1=false) (hv:v.1=true):Er p v 62:=by
 refine ⟨?_,?_,by decide⟩
 ·rw[qmq (qys h k) (by simp[othB,qjc,hk,hv])]
 ·rw[qmq (qys k h) (by simp[othB,qjc,hk,hv])]
theorem q2v {p v:PaT} (h:RiP p) (k:RiP v) (hk:p.1=false) (hv:v.1=false) (hl:v.2.1≠p.2.1\/v.2.1≠v.2.2.1):Er p v 61:=by
 refine ⟨?_,?_,by decide⟩
 ·rw[qj1 (qys h k) (by simp[othB,qjc,hk,hv]) (by simp only[List.any_cons,List.any_nil,uneB,qjc];rcases hl with e | e <;> simp[e])]
 ·rw[qj1 (qys k h) (by simp[othB,qjc,hk,hv]) (by simp only[List.any_cons,List.any_nil,uneB,qjc];rcases hl with e | e <;> simp[e,Ne.symm e])]
theorem une1 {v:PaT} (k:RiP v) (hl:v.2.1≠v.2.2.1):(qah [v]).2=61:=by
 have e:syEr [v]=0:=by unfold syEr syEr;rw[k.s];rfl
 rw[qj1 e (by simp[othB,qjc]) (by simp[uneB,qjc,hl])]
theorem q62:∀ k:Nat,k<269->(chkV (whV k)).2=0:=by decide +kernel
theorem un_13:∀ n:Nat,n<13->(chkV (false,(n:Int),(n:Int)+1,[((3:Int),(0:Int),(n:Int)+1,(0:Int),[])])).2=0:=by decide +kernel
abbrev GD5 (it:List Item) (S:PS):Prop:=GD 5 Tryd.f5 (fun rs _=>rs=[SV.bool true]) it S
abbrev paL (p:PaT):LB:=.var [.bool p.1,.int .i64 p.2.1,.int .i64 p.2.2.1,.sl opS p.2.2.2]
abbrev mreS (p bad un:PaT) (x:List PaT) (wl:List Int) (i:Nat):PS:=⟨[(4,.bool false),(5,.bool true),(6,.ptr 6 0),(7,.ptr 7 0),(10,.ptr 10 0),(12,.win true paS 64 0 x.length),(13,.win true iI 65 0 wl.length),(14,.int .i64 (i:Nat))],[(6,paL p),(7,paL bad),(10,paL un),(64,.row 29 paS x),(65,.row 32 iI wl)]⟩
theorem qzu (p bad un:PaT) (x:List PaT) (wl:List Int) (hx:x.length=5) (hw:wl.length=5) (hE:∀ j,j<5->Er p (gtP x j) (gt iI wl j)) (hb:(tchV bad).2=60) (hu:(rdV un).2=61):∀ (k i:Nat),5-i=k->i<=5->GD5 (hd Tryd.f5 0) (mreS p bad un x wl i):=by
 intro k
 induction k with
 | zero=>
  intro i hk hi;refine qam cxLr (quj p bad un x wl i _ _) ?_;rw[decide_eq_false (show ¬ (i:Int)<(x.length:Int) by omega),bc_f,decide_eq_true hb,bc_t,decide_eq_true hu,bc_t];exact ⟨trivial,trivial,rfl⟩
 | succ k ih=>
  intro i hk hi;have h:=hE i (by omega);have nx:=ih (i+1) (by omega) (by omega);refine qam cxLr (quj p bad un x wl i _ _) ?_;rw[decide_eq_true (show (i:Int)<(x.length:Int) by omega),bc_t,Int.toNat_natCast,Nat.zero_add,h.cl,h.mg,h.cm,IntWalk.i64_in ((i:Int)+1) (by omega)];simp only[ne_eq,not_true_eq_false,decide_false,cond_false,bc_f];refine ⟨by omega,by omega,by omega,trivial,by omega,by omega,by omega,trivial,by omega,by omega,by omega,by omega,by omega,by omega,by omega,by omega,by omega,trivial,by omega,by omega,by omega,⟨(show (0:Nat)<1099511627776 by decide),(show (0:Nat)<1099511627776 by decide)⟩,?_⟩;refine qaf (fun q=>?_) (fun _=>nx.only ⟨rfl,rfl,rfl,rfl,rfl,rfl,rfl,rfl,trivial⟩ ⟨rfl,rfl,rfl,rfl,rfl,trivial⟩);have q2:=q.symm.trans (congrArg Bool.not (sme_z (gt iI wl i)));cases q2
def q8y (z:Int) (l:List (List Int)) (w:List Int):Prop:=qri z l/\∀ j,0<=gtB w j/\gtB w j<256
noncomputable def ctMr:Ctr:=⟨[raS,.arr 2 uB],fun x=>q8y x.1.1 x.1.2 x.2.1,fun _=>[.bool true],fun _=>[]⟩
theorem q5x (z:Int) (l:List (List Int)) (w:List Int) (hp:q8y z l w):GD5 [.code (qae Tryd.f5)] (entry [raS,.arr 2 uB] ((z,l),w,())):=by
 obtain ⟨hm,hw⟩:=hp;have hw0:=hw 0;have k:=qwp hm;have k1:=(qsv (z:=z) k).1;obtain ⟨_,k2,k3,_⟩:=k;obtain ⟨n,hn⟩:=Int.eq_ofNat_of_zero_le k2;have k1:P11 ((IntKind.i64.wrap z).tmod 13) (qcc z l):=k1;rw[hn] at k1 k3;obtain ⟨a,h1,h2,h3⟩:=k1;have hP:IsP n a (qcc z l):=by
  have h2:a.length=n:=by omega
  rw[h3];subst h2;exact q2o h1
 obtain ⟨wn,hwn⟩:=Int.eq_ofNat_of_zero_le hw0.1;refine qam cxLr (q7o z l w _ _) ?_;generalize qcc z l=p at hP |-;obtain ⟨pl,pm,po,ops⟩:=p;have q1:pl=false:=hP.li;have q2:pm=(n:Int):=hP.hm;have q3:po=(n:Int):=hP.ho;subst q1 q2 q3;have hn13:n<13:=by omega
 have w1:IntKind.i64.wrap ((n:Int)+1)=(n:Int)+1:=IntWalk.i64_in _ (by omega);have w2:IntKind.i64.wrap (gtB w 0)=(wn:Int):=by rw[hwn];exact IntWalk.i64_in _ (by omega)
 have w3:IntKind.i64.wrap ((n:Int)+1+(wn:Int))=(n:Int)+1+(wn:Int):=IntWalk.i64_in _ (by omega);simp only[w1,w2,w3];have hck:RiP (false,(n:Int),(n:Int),ops):=hP.ck;have hwh:RiP (whV ((n:Int)+1+(wn:Int))):=by
  have e:(n:Int)+1+(wn:Int)=((n+1+wn:Nat):Int):=by omega
  rw[e];exact q62 _ (by omega)
 have hun:=un_13 n hn13;have hbad:∀ b:Bool,¬ (chkV (b,(n:Int),(n:Int)+1,ops)).2=0:=fun b q=>by
  have a1:lenS ops=(n:Int)+1:=(qfs q).2.1;have a2:lenS ops=(n:Int):=(qfs hck).2.1;omega
 have fin:=qzu (false,(n:Int),(n:Int),ops) (decide (Int.tmod (gtB w 1) 2=0),(n:Int),(n:Int)+1,ops) (false,(n:Int),(n:Int)+1,[((3:Int),(0:Int),(n:Int)+1,(0:Int),[])])
  [(decide (Int.tmod (gtB w 1) 2=0),(n:Int),(n:Int)+1,ops),(true,(n:Int),(n:Int),ops),whV ((n:Int)+1+(wn:Int)),(false,(n:Int),(n:Int)+1,[((3:Int),(0:Int),(n:Int)+1,(0:Int),[])]),(true,(whV ((n:Int)+1+(wn:Int))).2)]
  [60,62,61,61,62] rfl rfl (fun j hj=>by
   match j,hj with
   | 0,_=>exact (q2w hck (hbad _)).1
   | 1,_=>exact qxk hck hck rfl rfl
   | 2,_=>exact q2v hck hwh rfl rfl (.inl (by show (n:Int)+1+(wn:Int)≠(n:Int);omega))
   | 3,_=>exact q2v hck hun rfl rfl (.inr (by show (n:Int)≠(n:Int)+1;omega))
   | 4,_=>exact qxk hck hwh rfl rfl)
  (by unfold tchV;rw[(q2w hck (hbad _)).2];rfl) (by unfold rdV;rw[une1 hun (by show (n:Int)≠(n:Int)+1;omega)];rfl) _ 0 rfl (by omega)
 exact ⟨trivial,hm,by omega,by omega,by decide,trivial,by simp,by omega,by omega,by decide,by omega,fin.only ⟨rfl,rfl,rfl,rfl,rfl,rfl,rfl,rfl,trivial⟩ ⟨rfl,rfl,rfl,rfl,rfl,trivial⟩⟩
theorem qzv:Held Tryd.prog G0 5 ctMr:=Held.of cxLr (fn:=Tryd.f5) rfl rfl ⟨by decide,by decide⟩ fun ⟨⟨z,l⟩,w,_⟩ hp=>(q5x z l w hp).post fun rs blk hq=>QC.flat (by rw[hq];rfl) rfl (by rw[hq];rfl)
def idL (n:Nat):List SyT:=(List.range n).map fun i=>(true,((i:Nat):Int),0)
theorem qky {n:Nat}:(idL n).length=n:=by simp[idL]
theorem qw7 {n j:Nat} (h:j<n):gtY (idL n) j=(true,(j:Int),0):=by
 rw[qbe (by rw[qky];exact h)];simp[idL]
theorem wh_13:∀ n:Nat,n<13->(chkV (whV n)).2=0/\symF (whV n).2.2.2=idL n:=by decide +kernel
theorem q9f {n:Nat} (h:n<13):IsP n (idL n) (whV n):=by
 obtain ⟨h1,h2⟩:=wh_13 n h;refine ⟨h1,h2,rfl,rfl,rfl,qky,by omega,fun s hs=>?_⟩;simp only[idL,List.mem_map,List.mem_range] at hs;obtain ⟨i,hi,rfl⟩:=hs;simp[sOK];omega
theorem q5p {n:Nat} {a:List SyT} (h:a.length=n):noCl a (idL n):=fun j hj _ h2=>by
 rw[qw7 (by omega),q8g] at h2;cases h2
theorem q9c {n:Nat} {a:List SyT} (h:a.length=n):mgL a (idL n)=a:=by
 refine qr7 (by rw[qbw,qky,h]) fun j hj=>?_
 rw[qd1 (by rw[qky,h]) (by rw[qky];omega)]
 cases q:tcB j (gtY a j) with
 | true=>rw[if_pos rfl]
 | false=>rw[if_neg (by decide),qw7 (by omega),<- q4e q]
theorem qwh {a:List SyT}:noCl a a:=fun _ _ _ _=>rfl
theorem IsP.ops {n:Nat} {l:List SyT} {p:PaT} (h:IsP n l p):p.2.2.2.length<1099511627776:=by
 have:=(qfs h.ck).2.2.2;omega
theorem qx1 {n:Nat} {v:PaT} (h:P11 n v):∃ l,IsP n l v:=by
 obtain ⟨l,h1,h2,rfl⟩:=h;have h2:l.length=n:=by omega
 subst h2;exact ⟨l,q2o h1⟩
def preX (x:List (Int × List (List Int))):Prop:=∀ j,qri (gtRa x j).1 (gtRa x j).2
theorem oP_ok {x:List (Int × List (List Int))} (h:preX x):∃ n:Nat,n<13/\∃ a,IsP n a (oP x):=by
 have k:=qwp (h 0);have k1:=(qsv (z:=(gtRa x 0).1) k).1;obtain ⟨_,k2,k3,_⟩:=k;obtain ⟨n,hn⟩:=Int.eq_ofNat_of_zero_le k2;have k1:P11 ((IntKind.i64.wrap (gtRa x 0).1).tmod 13) (oP x):=k1;rw[hn] at k1 k3;exact ⟨n,by omega,qx1 k1⟩
theorem qwa {x:List (Int × List (List Int))} (h:preX x) {n:Nat} (hn:n<13) (e:(oP x).2.1=n) (i:Nat):qrh (oP x).2.1 (gtRa x i).2:=by
 rw[e];exact ⟨(h i).2.1,by omega,by omega,(h i).2.2⟩
theorem q87 {x:List (Int × List (List Int))} (h:preX x) {n:Nat} (hn:n<13) (e:(oP x).2.1=n) (i:Nat):∃ b,IsP n b (oQ x i):=by
 have k:=(qsv (z:=(gtRa x i).1) (qwa h hn e i)).1;rw[e] at k;have k:P11 n (oQ x i):=by show P11 n (S11V (gtRa x i).1 (oP x).2.1 (gtRa x i).2);rw[e];exact k
 exact qx1 k
theorem q60:(z4).2.2.2.length<1099511627776:=by decide
def ctMo:Ctr:=⟨[.arr 3 raS],fun x=>preX x.1,fun _=>[.bool true],fun _=>[]⟩
theorem q5y (x:List (Int × List (List Int))) (hx:preX x) (Q:List SV->Prop) (R:List Item->PS->Prop) (hQ:Q [.bool true]):sy tt G0 CLo Tryd.f3.ntmps Tryd.f3.results.toList (fun rs _=>Q rs) R 1000 [.code (qae Tryd.f3)] (entry [.arr 3 raS] (x,())):=by
 obtain ⟨n,hn,a,hp⟩:=oP_ok hx;have h1:=qwa hx hn hp.hm 1;have h2:=qwa hx hn hp.hm 2;obtain ⟨b,hq⟩:=q87 hx hn hp.hm 1;obtain ⟨c,hr⟩:=q87 hx hn hp.hm 2;refine (q7p x _ _).mpr ⟨trivial,by omega,by omega,by decide,hx 0,by omega,by omega,by decide,h1,by omega,by omega,by decide,h2,trivial,trivial,trivial,trivial,?_⟩;have hw:=q9f hn;have lab:a.length=b.length:=by rw[hp.len,hq.len]
 have lbc:b.length=c.length:=by rw[hq.len,hr.len]
 have lac:a.length=c.length:=by rw[hp.len,hr.len]
 have f1:=hp.fo;have f2:=(qoe hp hp qwh).1;have f3:=(qoe hp hw (q5p hp.len)).1;rw[qzx] at f2;rw[q9c hp.len,<- hp.hm] at f3;have hf:(nfP false n a).2.2.2.length<1099511627776:=(q2n hp.len hp.le hp.ok).ops;rw[hp.hm] at f3;rw[hp.hm];rw[f1,f2,f3];simp only[qjj,ne_eq,not_true_eq_false,decide_false,Bool.not_true,cond_false,bc_f];refine ⟨hf,hf,trivial,trivial,trivial,trivial,?_⟩;by_cases c1:noCl a b
 ·obtain ⟨g1,g2⟩:=qoe hp hq c1;have g3:=(qoe hq hp ((qff lab).1 c1)).1;rw[<- qzy lab c1] at g3;rw[g1,g3];simp only[qjj,ne_eq,not_true_eq_false,decide_false,Bool.not_true,cond_false,bc_f];refine ⟨g2.ops,?_⟩;by_cases c2:noCl b c
  ·obtain ⟨g4,g5⟩:=qoe hq hr c2;rw[g4];by_cases c3:noCl a c
   ·rw[(qoe hp hr c3).1];obtain ⟨g6,g7⟩:=qoe g2 hr (qwi lab c3 c2);have k1:noCl a (mgL b c):=(qff (by rw[qbw,lac])).1 (qwi lbc ((qff lab).1 c1) ((qff lac).1 c3));have g8:=(qoe hp g5 k1).1;rw[<- qwn lab lbc] at g8;simp only[ne_eq,not_true_eq_false,decide_false,cond_false,bc_f];rw[g6,g8];simp only[qjj,decide_true,bc_t,cond_true];exact ⟨trivial,trivial,g7.ops,hQ⟩
   ·rw[qzw hp hr c3];simp only[ne_eq,not_true_eq_false,decide_false,cond_false,bc_f];exact hQ
  ·rw[qzw hq hr c2];simp only[ne_eq,not_true_eq_false,decide_false,cond_false,bc_f];exact ⟨trivial,hQ⟩
 ·rw[qzw hp hq c1,qzw hq hp (fun h=>c1 ((qff lab).2 h))];simp only[qjj,ne_eq,not_true_eq_false,decide_false,Bool.not_true,cond_false,bc_f];exact ⟨q60,trivial,trivial,hQ⟩
theorem mor_held:Held Tryd.prog G0 3 ctMo:=Held.of cxLo (fn:=Tryd.f3) rfl rfl ⟨by decide,by decide⟩ fun ⟨x,_⟩ hp=>(qaj cxLo _ _ _ (q5y x hp (fun rs=>rs=[.bool true]) _ rfl)).post fun rs blk hq=>QC.flat (by rw[hq];rfl) rfl (by rw[hq];rfl)
def u8L (b:List Int):Prop:=∀ j,0<=gtB b j/\gtB b j<256
theorem q4d {n:Int} (h:wfD uB n):0<=n/\n<256:=by
 have h:(Lit.int IntKind.u8 n).wf=true:=h;simp[Lit.wf,IntKind.min,IntKind.max,IntKind.signed,IntKind.bits] at h;omega
theorem qyk {l:List Int} (h:∀ x∈l,wfD uB x):u8L l:=fun j=>by
 by_cases hj:j<l.length
 ·rw[q2q hj];exact q4d (h _ (List.getElem_mem hj))
 ·have:gtB l j=0:=by
   show gt uB _ _=_
   unfold gt;rw[List.getElem?_eq_none (by omega)];rfl
  rw[this];decide
theorem q9e {l:List (List Int)} (h:∀ x∈l,wfD a4S x):qvu l:=fun j=>by
 by_cases hj:j<l.length
 ·have e:gt a4S l j=l[j]:=gtE (e:=a4S) hj;rw[e];exact qyk (h _ (List.getElem_mem hj)).2
 ·have:gt a4S l j=List.replicate 4 (0:Int):=by
   unfold gt;rw[List.getElem?_eq_none (by omega)];rfl
  rw[this];exact qyk fun x hx=>by
   rw[List.eq_of_mem_replicate hx];rfl
theorem x_of {x:List (Int × List (List Int))} (h:∀ r∈x,wfD raS r):preX x:=fun j=>by
 by_cases hj:j<x.length
 ·have e:gtRa x j=x[j]:=gtE (e:=raS) hj;rw[e];have k:=h _ (List.getElem_mem hj);exact ⟨q4d k.1,q9e k.2.2,k.2.1⟩
 ·have:gtRa x j=((0:Int),([]:List (List Int))):=by
   unfold gtRa gt;rw[List.getElem?_eq_none (by omega)];rfl
  rw[this];exact ⟨⟨Int.le_refl 0,by decide⟩,fun k i=>by rw[show gt a4S ([]:List (List Int)) k=List.replicate 4 (0:Int) from rfl];exact qyk (fun x hx=>by rw[List.eq_of_mem_replicate hx];rfl) i,by decide⟩
theorem qt6 {g:Nat} {x:ABlk} (h:rawG.get g=some x):g=0/\x=.cells qht 129 2:=by
 unfold rawG T.get at h;split at h
 ·rename_i e;cases h;exact ⟨e,rfl⟩
 ·split at h <;> (simp[T.get] at h)
theorem hG:Glob G0.raw:=⟨fun g x h=>by rw[(qt6 h).1];decide,fun g x h=>by rw[(qt6 h).2];decide⟩
abbrev H0:AHeap:=⟨qln,G0.raw⟩
def Z0:Nat->Option ABlk:=fun g=>rawG.get g
theorem gz0:GZ Z0 G0:=by
 refine ⟨fun g x e=>?_,fun g x e=>e⟩;simp only[G0,lk] at e;split at e
 ·rename_i h;subst h;cases e;refine ⟨by decide,fun ν=>⟨0,0,qht,129,2,rfl,rfl,by decide,?_⟩⟩;exact qy1 (.arr 5 coS) costsL ⟨rfl,fun x _=>⟨trivial,trivial⟩⟩
 ·cases e
theorem fro0:Px.Fro G0 H0:=⟨fun i x h=>by rw[(qt6 h).2];rfl,fun i x h=>by rw[(qt6 h).2];trivial,fun i x h=>by rw[(qt6 h).1];decide,gz0⟩
end Go.Proofs.YtnmkfdgnenkhpaaDoor
