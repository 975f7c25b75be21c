/-
  A part of the proof: what pieces of the program give; conditions: those of each theorem.
-/
import Derived.Test.YtnmkfdgnenkhpaaDoorQ4
import Derived.Test.YtnmkfdgnenkhpaaDoorHD
set_option linter.unusedVariables false
set_option linter.unusedSimpArgs false
namespace Go.Proofs.YtnmkfdgnenkhpaaDoor
open Go.Px Go.Ax
set_option maxRecDepth 100000
structure IsP (n:Nat) (l:List SyT) (p:PaT):Prop where
 ck:(chkV p).2=0
 sf:symF p.2.2.2=l
 li:p.1=false
 hm:p.2.1=n
 ho:p.2.2.1=n
 len:l.length=n
 le:n<=4096
 ok:∀ s∈l,sOK n s=true
variable {n:Nat} {l a b c:List SyT} {p q r:PaT}
theorem IsP.sy (h:IsP n l p):symV p=(l,0):=by rw[qyf h.ck,h.sf]
theorem IsP.sySy (h:IsP n l p):sySy p=l:=by unfold Go.Proofs.YtnmkfdgnenkhpaaDoor.sySy;rw[h.sy]
theorem q83 {l:List SyT} (h:q0e l):IsP l.length l (mkP l):=by
 obtain ⟨_,h2,h3⟩:=q2d h;exact ⟨h2,h3,rfl,rfl,rfl,rfl,h.1,h.2⟩
theorem q2h (h1:l.length=n) (h2:n<=4096) (h3:∀ s∈l,sOK n s=true):IsP n l (nfP false n l):=by
 obtain ⟨k1,k2,_⟩:=nf_ok (m:=n) false h3 (by omega) (by omega) (by omega);exact ⟨k1,k2,rfl,rfl,by show (l.length:Int)=n;omega,h1,h2,h3⟩
theorem IsP.fo (h:IsP n l p):foV p=(nfP false n l,0):=by
 rw[fo_nf h.ck (by rw[h.ho];have:=h.le;omega),h.li,h.hm,h.sf]
theorem q39 (h:IsP n a p) (k:IsP n b q):syEr [p,q]=0:=by
 unfold syEr syEr syEr;rw[h.sy,k.sy];rfl
theorem IsP.all (h:IsP n a p) (k:IsP n b q):qah [p,q]=([a,b],0):=by
 rw[qpe (q39 h k)]
 ·show ([Go.Proofs.YtnmkfdgnenkhpaaDoor.sySy p,Go.Proofs.YtnmkfdgnenkhpaaDoor.sySy q],(0:Int))=_
  rw[h.sySy,k.sySy]
 ·simp[othB,q0d,h.li,k.li]
 ·simp[uneB,q0d,h.hm,k.hm,h.ho,k.ho]
theorem q8z (ha:∀ s∈a,sOK n s=true) (hb:∀ s∈b,sOK n s=true):∀ s∈mgL a b,sOK n s=true:=by
 have key:∀ (rs:List (Int × SyT)) (o:List SyT),(∀ x∈rs,sOK n x.2=true)->(∀ s∈o,sOK n s=true)->∀ s∈mgF rs o,sOK n s=true:=by
  intro rs
  induction rs with
  | nil=>intro o _ h;exact h
  | cons x rs ih=>exact fun o h1 h2=>ih _ (fun y hy=>h1 y (by simp[hy])) (q12 h2 (h1 x (by simp)))
 refine key _ _ (fun x hx=>?_) hb;have:∀ (i:Nat) (a:List SyT),(∀ s∈a,sOK n s=true)->∀ x∈whF tcB i a,sOK n x.2=true:=by
  intro i a
  induction a generalizing i with
  | nil=>intro _ x hx;cases hx
  | cons s a ih=>
   intro h x hx;unfold whF at hx;split at hx
   ·rcases List.mem_cons.1 hx with rfl | hx
    ·exact h s (by simp)
    ·exact ih (i+1) (fun y hy=>h y (by simp[hy])) x hx
   ·exact ih (i+1) (fun y hy=>h y (by simp[hy])) x hx
 exact this 0 a ha x hx
theorem q5r:∀ (a:List SyT) (i:Nat) (o:List SyT),i+a.length<=o.length->∀ j,j<o.length->gtY (mgF (whF tcB i a) o) j=if i<=j/\j<i+a.length/\tcB j (gtY a (j-i))=true then gtY a (j-i) else gtY o j:=by
 intro a
 induction a with
 | nil=>intro i o _ j _;rw[if_neg (by rintro ⟨h1,h2,_⟩;simp at h2;omega)];rfl
 | cons s a ih=>
  intro i o hl j hj;have hl':i+1+a.length<=o.length:=by simp at hl;omega
  have step:∀ o':List SyT,o'.length=o.length->(∀ j,j≠i->j<o.length->gtY o' j=gtY o j)->gtY o' i=(if tcB i s=true then s else gtY o i)->gtY (mgF (whF tcB (i+1) a) o') j=if i<=j/\j<i+(s::a).length/\tcB j (gtY (s::a) (j-i))=true then gtY (s::a) (j-i) else gtY o j:=by
   intro o' h1 h2 h3;rw[ih (i+1) o' (by rw[h1];exact hl') j (by rw[h1];exact hj)];by_cases e:j=i
   ·subst e;rw[if_neg (by omega),h3,Nat.sub_self,qoj];simp
   ·rw[h2 j e hj];by_cases g:i+1<=j
    ·have:gtY (s::a) (j-i)=gtY a (j-(i+1)):=by
      rw[show j-i=(j-(i+1))+1 by omega];rfl
     rw[this];by_cases t:i+1<=j/\j<i+1+a.length/\tcB j (gtY a (j-(i+1)))=true
     ·rw[if_pos t,if_pos ⟨by omega,by simp;omega,t.2.2⟩]
     ·rw[if_neg t,if_neg fun t2=>t ⟨g,by have:=t2.2.1;simp at this;omega,t2.2.2⟩]
    ·rw[if_neg (by omega),if_neg (by omega)]
  unfold whF
  cases hq:tcB i s with
  | true=>
   show gtY (mgF (whF tcB (i+1) a) (o.set ((i:Int)).toNat s)) j=_
   rw[Int.toNat_natCast];refine step _ (by rw[List.length_set]) (fun j hj hjl=>?_) ?_
   ·rw[qbd (by rw[List.length_set];exact hjl),qbd hjl,List.getElem_set_ne (by omega)]
   ·rw[qbd (by rw[List.length_set];simp at hl;omega),List.getElem_set_self];rw[hq];rfl
  | false=>exact step o rfl (fun _ _ _=>rfl) (by rw[hq];rfl)
theorem qbw:(mgL a b).length=b.length:=qpw _ _
theorem qd0 (h:a.length=b.length) {j:Nat} (hj:j<b.length):gtY (mgL a b) j=if tcB j (gtY a j)=true then gtY a j else gtY b j:=by
 unfold mgL;rw[q5r a 0 b (by omega) j hj,Nat.sub_zero];by_cases t:tcB j (gtY a j)=true
 ·rw[if_pos ⟨by omega,by omega,t⟩,if_pos t]
 ·rw[if_neg (fun h=>t h.2.2),if_neg t]
theorem qrw (h:a.length=b.length) (hg:∀ j,j<b.length->gtY a j=gtY b j):a=b:=by
 refine List.ext_getElem h fun i h1 h2=>?_
 rw[<- qbd h1,<- qbd h2];exact hg i h2
def noCl (a b:List SyT):Prop:=∀ j,j<a.length->tcB j (gtY a j)=true->tcB j (gtY b j)=true->gtY a j=gtY b j
theorem qu0:∀ (r:List Int) (o:List (Int × Int)),0<o.length->0<(rngF r o).length
 | [],_,h=>h
 | i::r,o,h=>by
  rw[rngF];refine qu0 r _ ?_;unfold rngS;split
  ·rw[List.length_set];exact h
  ·simp
theorem qyt {r:List Int}:(rngF r []).length=0↔r=[]:=by
 cases r with
 | nil=>simp[rngF]
 | cons i r=>
  have:=qu0 r (rngS [] i) (by simp[rngS]);rw[rngF];constructor
  ·intro h;omega
  ·intro h;cases h
theorem qtw {α:Type} {f:Int->α->Bool}:∀ (l:List α) (i:Nat),whF f i l=[]↔∀ j (h:j<l.length),f ((i+j:Nat):Int) l[j]=false
 | [],i=>by simp[whF]
 | s::l,i=>by
  have ih:=qtw (f:=f) l (i+1);unfold whF;cases h:f i s with
  | true=>
   simp only[reduceCtorEq,false_iff];intro k;have:=k 0 (by simp);simp only[Nat.add_zero,List.getElem_cons_zero] at this;rw[h] at this;cases this
  | false=>
   simp only;rw[ih];constructor
   ·intro k j hj
    cases j with
    | zero=>simpa using h
    | succ j=>have:=k j (by simpa using hj);rw[show i+(j+1)=i+1+j by omega];simpa using this
   ·intro k j hj;have:=k (j+1) (by simpa using hj);rw[show i+(j+1)=i+1+j by omega] at this;simpa using this
theorem qw7 {s t:SyT}:(!decide ((s.1,s.2.1,s.2.2)=(t.1,t.2.1,t.2.2)))=false↔s=t:=by
 obtain ⟨s1,s2,s3⟩:=s;obtain ⟨t1,t2,t3⟩:=t;simp
theorem qu2:(rgCV a b).length=0↔noCl a b:=by
 unfold rgCV;rw[qyt,List.map_eq_nil_iff,qtw];constructor
 ·intro h j hj h1 h2;have:=h j hj;rw[Nat.zero_add,<- qbd hj] at this;unfold clB at this;rw[h1,Int.toNat_natCast,h2,Bool.true_and,Bool.true_and] at this;exact qw7.1 this
 ·intro h j hj;rw[Nat.zero_add,<- qbd hj];unfold clB;rw[Int.toNat_natCast]
  cases h1:tcB j (gtY a j) with
  | false=>rfl
  | true=>
   cases h2:tcB j (gtY b j) with
   | false=>rfl
   | true=>rw[Bool.true_and,Bool.true_and];exact qw7.2 (h j hj h1 h2)
theorem qfe (hl:a.length=b.length):noCl a b↔noCl b a:=
 ⟨fun h j hj h1 h2=>(h j (by omega) h2 h1).symm,fun h j hj h1 h2=>(h j (by omega) h2 h1).symm⟩
theorem qzj (h:IsP n a p) (k:IsP n b q) (hc:¬ noCl a b):mgV p q=(z4,110):=by
 unfold mgV;rw[h.all k,h.sySy,k.sySy];have:0<(rgCV a b).length:=by
  have:=mt qu2.1 hc;omega
 rw[show decide ((([a,b],(0:Int)):List (List SyT) × Int).2≠0)=false from rfl,decide_eq_true this]
theorem qn7 (h:IsP n a p) (k:IsP n b q) (hc:noCl a b):mgV p q=(nfP false n (mgL a b),0)/\IsP n (mgL a b) (nfP false n (mgL a b)):=by
 have hl:(mgL a b).length=n:=by rw[qbw,k.len]
 have hs:=q8z h.ok k.ok;refine ⟨?_,q2h hl h.le hs⟩;have hcp:=q9g (m:=n) hs (by omega) (by have:=h.le;omega) (by rw[hl];exact h.le);unfold mgV;rw[h.all k,h.sySy,k.sySy,show decide ((([a,b],(0:Int)):List (List SyT) × Int).2≠0)=false from rfl,decide_eq_false (show ¬ 0<(rgCV a b).length by have:=qu2.2 hc;omega),h.hm,hcp,h.li];rfl
theorem q35 {j:Nat} {s:SyT} (h:tcB j s=false):s=(true,(j:Int),0):=by unfold tcB at h;exact (qw7 (s:=s) (t:=(true,(j:Int),0))).1 h
theorem qzl (hl:a.length=b.length) (hc:noCl a b):mgL a b=mgL b a:=by
 refine qrw (by rw[qbw,qbw,hl]) fun j hj=>?_
 rw[qbw] at hj;rw[qd0 hl (by omega),qd0 hl.symm hj]
 cases h1:tcB j (gtY a j) <;> cases h2:tcB j (gtY b j) <;> simp only[if_true,if_false,Bool.false_eq_true]
 ·have e1:gtY a j=(true,(j:Int),0):=by
   exact q35 h1
  have e2:gtY b j=(true,(j:Int),0):=by
   exact q35 h2
  rw[e1,e2]
 ·exact hc j hj h1 h2
theorem qzk:mgL a a=a:=qrw qbw fun j hj=>by rw[qd0 rfl hj];split <;> rfl
theorem q74 {j:Nat}:tcB j (true,(j:Int),0)=false:=by simp[tcB]
theorem q73 (hl:a.length=b.length) {j:Nat} (hj:j<b.length):tcB j (gtY (mgL a b) j)=(tcB j (gtY a j) || tcB j (gtY b j)):=by
 rw[qd0 hl hj]
 cases h1:tcB j (gtY a j) <;> simp[h1]
theorem qv5 (h1:a.length=b.length) (hac:noCl a c) (hbc:noCl b c):noCl (mgL a b) c:=by
 intro j hj t1 t2;rw[qbw] at hj;rw[q73 h1 hj] at t1;rw[qd0 h1 hj]
 cases q:tcB j (gtY a j) with
 | true=>rw[if_pos rfl];exact hac j (by omega) q t2
 | false=>
  rw[if_neg (by decide)];rw[q,Bool.false_or] at t1;exact hbc j hj t1 t2
theorem qwb (h1:a.length=b.length) (h2:b.length=c.length):mgL (mgL a b) c=mgL a (mgL b c):=by
 refine qrw (by rw[qbw,qbw,qbw]) fun j hj=>?_
 rw[qbw,qbw] at hj;rw[qd0 (by rw[qbw,h2]) hj,q73 h1 (by omega),qd0 h1 (by omega),qd0 (by rw[qbw,h1,h2]) (by rw[qbw];exact hj),qd0 h2 hj]
 cases q1:tcB j (gtY a j) <;> cases q2:tcB j (gtY b j) <;> simp
theorem qjg (p:PaT):smB p p=true:=by
 have:∀ l:List OpT,smL l l=true:=by
  intro l
  induction l with
  | nil=>rfl
  | cons x l ih=>rw[smL,ih,Bool.and_true];unfold soB;simp
 unfold smB;simp[this]
end Go.Proofs.YtnmkfdgnenkhpaaDoor
namespace Go.Proofs.YtnmkfdgnenkhpaaDoor
open Go.Px Go.Ax
set_option maxRecDepth 100000
attribute [local irreducible] Go.Px.sy Go.Px.syE
def idL (n:Nat):List SyT:=(List.range n).map fun i=>(true,((i:Nat):Int),0)
theorem qku {n:Nat}:(idL n).length=n:=by simp[idL]
theorem qwv {n j:Nat} (h:j<n):gtY (idL n) j=(true,(j:Int),0):=by
 rw[qbd (by rw[qku];exact h)];simp[idL]
theorem wh_13:∀ n:Nat,n<13->(chkV (whV n)).2=0/\symF (whV n).2.2.2=idL n:=by decide +kernel
theorem q82 {n:Nat} (h:n<13):IsP n (idL n) (whV n):=by
 obtain ⟨h1,h2⟩:=wh_13 n h;refine ⟨h1,h2,rfl,rfl,rfl,qku,by omega,fun s hs=>?_⟩;simp only[idL,List.mem_map,List.mem_range] at hs;obtain ⟨i,hi,rfl⟩:=hs;simp[sOK];omega
theorem q5g {n:Nat} {a:List SyT} (h:a.length=n):noCl a (idL n):=fun j hj _ h2=>by
 rw[qwv (by omega),q74] at h2;cases h2
theorem q80 {n:Nat} {a:List SyT} (h:a.length=n):mgL a (idL n)=a:=by
 refine qrw (by rw[qbw,qku,h]) fun j hj=>?_
 rw[qd0 (by rw[qku,h]) (by rw[qku];omega)]
 cases q:tcB j (gtY a j) with
 | true=>rw[if_pos rfl]
 | false=>rw[if_neg (by decide),qwv (by omega),<- q35 q]
theorem qv4 {a:List SyT}:noCl a a:=fun _ _ _ _=>rfl
theorem IsP.ops {n:Nat} {l:List SyT} {p:PaT} (h:IsP n l p):p.2.2.2.length<1099511627776:=by
 have:=(qii h.ck).2.2.2;omega
theorem qxp {n:Nat} {v:PaT} (h:P11 n v):∃ l,IsP n l v:=by
 obtain ⟨l,h1,h2,rfl⟩:=h;have h2:l.length=n:=by omega
 subst h2;exact ⟨l,q83 h1⟩
def preX (x:List (Int × List (List Int))):Prop:=∀ j,qvg (gtRa x j).1 (gtRa x j).2
theorem oP_ok {x:List (Int × List (List Int))} (h:preX x):∃ n:Nat,n<13/\∃ a,IsP n a (oP x):=by
 have k:=q2f (h 0);have k1:=(qxo (z:=(gtRa x 0).1) k).1;obtain ⟨_,k2,k3,_⟩:=k;obtain ⟨n,hn⟩:=Int.eq_ofNat_of_zero_le k2;have k1:P11 ((IntKind.i64.wrap (gtRa x 0).1).tmod 13) (oP x):=k1;rw[hn] at k1 k3;exact ⟨n,by omega,qxp k1⟩
theorem qvx {x:List (Int × List (List Int))} (h:preX x) {n:Nat} (hn:n<13) (e:(oP x).2.1=n) (i:Nat):qq9 (oP x).2.1 (gtRa x i).2:=by
 rw[e];exact ⟨(h i).2.1,by omega,by omega,(h i).2.2⟩
theorem q8u {x:List (Int × List (List Int))} (h:preX x) {n:Nat} (hn:n<13) (e:(oP x).2.1=n) (i:Nat):∃ b,IsP n b (oQ x i):=by
 have k:=(qxo (z:=(gtRa x i).1) (qvx h hn e i)).1;rw[e] at k;have k:P11 n (oQ x i):=by show P11 n (S11V (gtRa x i).1 (oP x).2.1 (gtRa x i).2);rw[e];exact k
 exact qxp k
theorem q6q:(z4).2.2.2.length<1099511627776:=by decide
def ctMo:Ctr:=⟨[.arr 3 raS],fun x=>preX x.1,fun _=>[.bool true],fun _=>[]⟩
theorem q5o (x:List (Int × List (List Int))) (hx:preX x) (Q:List SV->Prop) (R:List Item->PS->Prop) (hQ:Q [.bool true]):sy tt G0 CLo Tryd.f3.ntmps Tryd.f3.results.toList (fun rs _=>Q rs) R 1000 [.code (qae Tryd.f3)] (entry [.arr 3 raS] (x,())):=by
 obtain ⟨n,hn,a,hp⟩:=oP_ok hx;have h1:=qvx hx hn hp.hm 1;have h2:=qvx hx hn hp.hm 2;obtain ⟨b,hq⟩:=q8u hx hn hp.hm 1;obtain ⟨c,hr⟩:=q8u hx hn hp.hm 2;refine (q7c x _ _).mpr ⟨trivial,by omega,by omega,by decide,hx 0,by omega,by omega,by decide,h1,by omega,by omega,by decide,h2,trivial,trivial,trivial,trivial,?_⟩;have hw:=q82 hn;have lab:a.length=b.length:=by rw[hp.len,hq.len]
 have lbc:b.length=c.length:=by rw[hq.len,hr.len]
 have lac:a.length=c.length:=by rw[hp.len,hr.len]
 have f1:=hp.fo;have f2:=(qn7 hp hp qv4).1;have f3:=(qn7 hp hw (q5g hp.len)).1;rw[qzk] at f2;rw[q80 hp.len,<- hp.hm] at f3;have hf:(nfP false n a).2.2.2.length<1099511627776:=(q2h hp.len hp.le hp.ok).ops;rw[hp.hm] at f3;rw[hp.hm];rw[f1,f2,f3];simp only[qjg,ne_eq,not_true_eq_false,decide_false,Bool.not_true,cond_false,bc_f];refine ⟨hf,hf,trivial,trivial,trivial,trivial,?_⟩;by_cases c1:noCl a b
 ·obtain ⟨g1,g2⟩:=qn7 hp hq c1;have g3:=(qn7 hq hp ((qfe lab).1 c1)).1;rw[<- qzl lab c1] at g3;rw[g1,g3];simp only[qjg,ne_eq,not_true_eq_false,decide_false,Bool.not_true,cond_false,bc_f];refine ⟨g2.ops,?_⟩;by_cases c2:noCl b c
  ·obtain ⟨g4,g5⟩:=qn7 hq hr c2;rw[g4];by_cases c3:noCl a c
   ·rw[(qn7 hp hr c3).1];obtain ⟨g6,g7⟩:=qn7 g2 hr (qv5 lab c3 c2);have k1:noCl a (mgL b c):=(qfe (by rw[qbw,lac])).1 (qv5 lbc ((qfe lab).1 c1) ((qfe lac).1 c3));have g8:=(qn7 hp g5 k1).1;rw[<- qwb lab lbc] at g8;simp only[ne_eq,not_true_eq_false,decide_false,cond_false,bc_f];rw[g6,g8];simp only[qjg,decide_true,bc_t,cond_true];exact ⟨trivial,trivial,g7.ops,hQ⟩
   ·rw[qzj hp hr c3];simp only[ne_eq,not_true_eq_false,decide_false,cond_false,bc_f];exact hQ
  ·rw[qzj hq hr c2];simp only[ne_eq,not_true_eq_false,decide_false,cond_false,bc_f];exact ⟨trivial,hQ⟩
 ·rw[qzj hp hq c1,qzj hq hp (fun h=>c1 ((qfe lab).2 h))];simp only[qjg,ne_eq,not_true_eq_false,decide_false,Bool.not_true,cond_false,bc_f];exact ⟨q6q,trivial,trivial,hQ⟩
theorem qzi:Held Tryd.prog G0 3 ctMo:=Held.of cxLo (fn:=Tryd.f3) rfl rfl ⟨by decide,by decide⟩ fun ⟨x,_⟩ hp=>(qaj cxLo _ _ _ (q5o x hp (fun rs=>rs=[.bool true]) _ rfl)).post fun rs blk hq=>QC.flat (by rw[hq];rfl) rfl (by rw[hq];rfl)
def u8L (b:List Int):Prop:=∀ j,0<=gtB b j/\gtB b j<256
theorem q70 {n:Int} (h:wfD uB n):0<=n/\n<256:=by
 have h:(Lit.int IntKind.u8 n).wf=true:=h;simp[Lit.wf,IntKind.min,IntKind.max,IntKind.signed,IntKind.bits] at h;omega
theorem q34 {l:List Int} (h:∀ x∈l,wfD uB x):u8L l:=fun j=>by
 by_cases hj:j<l.length
 ·rw[q2j hj];exact q70 (h _ (List.getElem_mem hj))
 ·have:gtB l j=0:=by
   show gt uB _ _=_
   unfold gt;rw[List.getElem?_eq_none (by omega)];rfl
  rw[this];decide
theorem l4_of {l:List (List Int)} (h:∀ x∈l,wfD a4S x):qvh l:=fun j=>by
 by_cases hj:j<l.length
 ·have e:gt a4S l j=l[j]:=gtE (e:=a4S) hj;rw[e];exact q34 (h _ (List.getElem_mem hj)).2
 ·have:gt a4S l j=List.replicate 4 (0:Int):=by
   unfold gt;rw[List.getElem?_eq_none (by omega)];rfl
  rw[this];exact q34 fun x hx=>by
   rw[List.eq_of_mem_replicate hx];rfl
theorem x_of {x:List (Int × List (List Int))} (h:∀ r∈x,wfD raS r):preX x:=fun j=>by
 by_cases hj:j<x.length
 ·have e:gtRa x j=x[j]:=gtE (e:=raS) hj;rw[e];have k:=h _ (List.getElem_mem hj);exact ⟨q70 k.1,l4_of k.2.2,k.2.1⟩
 ·have:gtRa x j=((0:Int),([]:List (List Int))):=by
   unfold gtRa gt;rw[List.getElem?_eq_none (by omega)];rfl
  rw[this];exact ⟨⟨Int.le_refl 0,by decide⟩,fun k i=>by rw[show gt a4S ([]:List (List Int)) k=List.replicate 4 (0:Int) from rfl];exact q34 (fun x hx=>by rw[List.eq_of_mem_replicate hx];rfl) i,by decide⟩
theorem qtt {g:Nat} {x:ABlk} (h:rawG.get g=some x):g=0/\x=.cells qhr 129 2:=by
 unfold rawG T.get at h;split at h
 ·rename_i e;cases h;exact ⟨e,rfl⟩
 ·split at h <;> (simp[T.get] at h)
theorem hG:Glob G0.raw:=⟨fun g x h=>by rw[(qtt h).1];decide,fun g x h=>by rw[(qtt h).2];decide⟩
abbrev H0:AHeap:=⟨qlj,G0.raw⟩
def Z0:Nat->Option ABlk:=fun g=>rawG.get g
theorem gz0:GZ Z0 G0:=by
 refine ⟨fun g x e=>?_,fun g x e=>e⟩;simp only[G0,lk] at e;split at e
 ·rename_i h;subst h;cases e;refine ⟨by decide,fun ν=>⟨0,0,qhr,129,2,rfl,rfl,by decide,?_⟩⟩;exact qyp (.arr 5 coS) costsL ⟨rfl,fun x _=>⟨trivial,trivial⟩⟩
 ·cases e
theorem fro0:Px.Fro G0 H0:=⟨fun i x h=>by rw[(qtt h).2];rfl,fun i x h=>by rw[(qtt h).2];trivial,fun i x h=>by rw[(qtt h).1];decide,gz0⟩
end Go.Proofs.YtnmkfdgnenkhpaaDoor
