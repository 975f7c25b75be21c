/-
  A part of the proof: what pieces of the program give; conditions: those of each theorem.
-/
import Derived.Test.YtnmkfdgnenkhpaaDoorQ4
import Derived.Test.YtnmkfdgnenkhpaaDoorHD
set_option linter.unusedVariables false
set_option linter.unusedSimpArgs false
namespace Go.Proofs.YtnmkfdgnenkhpaaDoor
open Go.Px Go.Ax
set_option maxRecDepth 100000
structure IsP (n:Nat) (l:List SyT) (p:PaT):Prop where
 ck:(chkV p).2=0
 sf:symF p.2.2.2=l
 li:p.1=false
 hm:p.2.1=n
 ho:p.2.2.1=n
 len:l.length=n
 le:n<=4096
 ok:∀ s∈l,sOK n s=true
variable {n:Nat} {l a b c:List SyT} {p q r:PaT}
theorem IsP.sy (h:IsP n l p):symV p=(l,0):=by rw[sy_ok h.ck,h.sf]
theorem IsP.sySy (h:IsP n l p):sySy p=l:=by unfold Go.Proofs.YtnmkfdgnenkhpaaDoor.sySy;rw[h.sy]
theorem q9d {l:List SyT} (h:qz8 l):IsP l.length l (mkP l):=by
 obtain ⟨_,h2,h3⟩:=q2d h;exact ⟨h2,h3,rfl,rfl,rfl,rfl,h.1,h.2⟩
theorem q9c (h1:l.length=n) (h2:n<=4096) (h3:∀ s∈l,sOK n s=true):IsP n l (nfP false n l):=by
 obtain ⟨k1,k2,_⟩:=nf_ok (m:=n) false h3 (by omega) (by omega) (by omega);exact ⟨k1,k2,rfl,rfl,by show (l.length:Int)=n;omega,h1,h2,h3⟩
theorem q4c (h:IsP n a p) (k:IsP n b q):syEr [p,q]=0:=by
 unfold syEr syEr syEr;rw[h.sy,k.sy];rfl
theorem IsP.all (h:IsP n a p) (k:IsP n b q):qah [p,q]=([a,b],0):=by
 rw[qpa (q4c h k)]
 ·show ([Go.Proofs.YtnmkfdgnenkhpaaDoor.sySy p,Go.Proofs.YtnmkfdgnenkhpaaDoor.sySy q],(0:Int))=_
  rw[h.sySy,k.sySy]
 ·simp[othB,qz7,h.li,k.li]
 ·simp[uneB,qz7,h.hm,k.hm,h.ho,k.ho]
theorem q9a (ha:∀ s∈a,sOK n s=true) (hb:∀ s∈b,sOK n s=true):∀ s∈mgL a b,sOK n s=true:=by
 have key:∀ (rs:List (Int × SyT)) (o:List SyT),(∀ x∈rs,sOK n x.2=true)->(∀ s∈o,sOK n s=true)->∀ s∈mgF rs o,sOK n s=true:=by
  intro rs
  induction rs with
  | nil=>intro o _ h;exact h
  | cons x rs ih=>exact fun o h1 h2=>ih _ (fun y hy=>h1 y (by simp[hy])) (q1w h2 (h1 x (by simp)))
 refine key _ _ (fun x hx=>?_) hb;have:∀ (i:Nat) (a:List SyT),(∀ s∈a,sOK n s=true)->∀ x∈whF tcB i a,sOK n x.2=true:=by
  intro i a
  induction a generalizing i with
  | nil=>intro _ x hx;cases hx
  | cons s a ih=>
   intro h x hx;unfold whF at hx;split at hx
   ·rcases List.mem_cons.1 hx with rfl | hx
    ·exact h s (by simp)
    ·exact ih (i+1) (fun y hy=>h y (by simp[hy])) x hx
   ·exact ih (i+1) (fun y hy=>h y (by simp[hy])) x hx
 exact this 0 a ha x hx
theorem q5y:(mgL a b).length=b.length:=qps _ _
def noCl (a b:List SyT):Prop:=∀ j,j<a.length->tcB j (gtY a j)=true->tcB j (gtY b j)=true->gtY a j=gtY b j
theorem qu5:∀ (r:List Int) (o:List (Int × Int)),0<o.length->0<(rngF r o).length
 | [],_,h=>h
 | i::r,o,h=>by
  rw[rngF];refine qu5 r _ ?_;unfold rngS;split
  ·rw[List.length_set];exact h
  ·simp
theorem qyo {r:List Int}:(rngF r []).length=0↔r=[]:=by
 cases r with
 | nil=>simp[rngF]
 | cons i r=>
  have:=qu5 r (rngS [] i) (by simp[rngS]);rw[rngF];constructor
  ·intro h;omega
  ·intro h;cases h
theorem qtw {α:Type} {f:Int->α->Bool}:∀ (l:List α) (i:Nat),whF f i l=[]↔∀ j (h:j<l.length),f ((i+j:Nat):Int) l[j]=false
 | [],i=>by simp[whF]
 | s::l,i=>by
  have ih:=qtw (f:=f) l (i+1);unfold whF;cases h:f i s with
  | true=>
   simp only[reduceCtorEq,false_iff];intro k;have:=k 0 (by simp);simp only[Nat.add_zero,List.getElem_cons_zero] at this;rw[h] at this;cases this
  | false=>
   simp only;rw[ih];constructor
   ·intro k j hj
    cases j with
    | zero=>simpa using h
    | succ j=>have:=k j (by simpa using hj);rw[show i+(j+1)=i+1+j by omega];simpa using this
   ·intro k j hj;have:=k (j+1) (by simpa using hj);rw[show i+(j+1)=i+1+j by omega] at this;simpa using this
theorem q2n {s t:SyT}:(!decide ((s.1,s.2.1,s.2.2)=(t.1,t.2.1,t.2.2)))=false↔s=t:=by
 obtain ⟨s1,s2,s3⟩:=s;obtain ⟨t1,t2,t3⟩:=t;simp
theorem qmr:(rgCV a b).length=0↔noCl a b:=by
 unfold rgCV;rw[qyo,List.map_eq_nil_iff,qtw];constructor
 ·intro h j hj h1 h2;have:=h j hj;rw[Nat.zero_add,<- qbn hj] at this;unfold clB at this;rw[h1,Int.toNat_natCast,h2,Bool.true_and,Bool.true_and] at this;exact q2n.1 this
 ·intro h j hj;rw[Nat.zero_add,<- qbn hj];unfold clB;rw[Int.toNat_natCast]
  cases h1:tcB j (gtY a j) with
  | false=>rfl
  | true=>
   cases h2:tcB j (gtY b j) with
   | false=>rfl
   | true=>rw[Bool.true_and,Bool.true_and];exact q2n.2 (h j hj h1 h2)
theorem mg_cl (h:IsP n a p) (k:IsP n b q) (hc:¬ noCl a b):mgV p q=(z4,110):=by
 unfold mgV;rw[h.all k,h.sySy,k.sySy];have:0<(rgCV a b).length:=by
  have:=mt qmr.1 hc;omega
 rw[show decide ((([a,b],(0:Int)):List (List SyT) × Int).2≠0)=false from rfl,decide_eq_true this]
theorem mg_ok (h:IsP n a p) (k:IsP n b q) (hc:noCl a b):mgV p q=(nfP false n (mgL a b),0)/\IsP n (mgL a b) (nfP false n (mgL a b)):=by
 have hl:(mgL a b).length=n:=by rw[q5y,k.len]
 have hs:=q9a h.ok k.ok;refine ⟨?_,q9c hl h.le hs⟩;have hcp:=q9q (m:=n) hs (by omega) (by have:=h.le;omega) (by rw[hl];exact h.le);unfold mgV;rw[h.all k,h.sySy,k.sySy,show decide ((([a,b],(0:Int)):List (List SyT) × Int).2≠0)=false from rfl,decide_eq_false (show ¬ 0<(rgCV a b).length by have:=qmr.2 hc;omega),h.hm,hcp,h.li];rfl
end Go.Proofs.YtnmkfdgnenkhpaaDoor
namespace Go.Proofs.YtnmkfdgnenkhpaaDoor
open Go.Px Go.Ax
set_option maxRecDepth 100000
theorem q8s (o:List (Int × Int)) (f t i:Int):rngS (o++[(f,t)]) i=if t=i then o++[(f,i+1)] else o++[(f,t)]++[(i,i+1)]:=by
 unfold rngS;have hl:(o++[(f,t)]).length-1=o.length:=by simp
 have hg:gtR (o++[(f,t)]) o.length=(f,t):=by rw[qlx (by simp)];simp
 rw[hl,hg];by_cases h:t=i
 ·rw[decide_eq_true (by simp[h]),if_pos h];simp
 ·rw[decide_eq_false (by simp[h]),if_neg h]
structure RJ (o:List (Int × Int)) (s:List Int) (hi:Int):Prop where
 rt:∀ r∈o,0<=r.1/\r.1<r.2/\r.2<=hi
 pw:o.Pairwise (fun a b=>a.2<b.1)
 mem:∀ x:Int,(∃ r∈o,r.1<=x/\x<r.2)↔x∈s
theorem RJ.add {o:List (Int × Int)} {s:List Int} {hi i:Int} (h:RJ o s hi) (h0:0<=i) (h1:hi<=i) (h2:∀ r∈o,r.2<i):RJ (o++[(i,i+1)]) (s++[i]) (i+1):=by
 refine ⟨fun r hr=>?_,?_,fun x=>?_⟩
 ·rcases List.mem_append.1 hr with hr | hr
  ·have:=h.rt r hr;omega
  ·rw[List.mem_singleton] at hr;subst hr;simp only;omega
 ·rw[List.pairwise_append];exact ⟨h.pw,List.pairwise_singleton _ _,fun a ha b hb=>by rw[List.mem_singleton] at hb;subst hb;exact h2 a ha⟩
 ·rw[List.mem_append,List.mem_singleton,<- h.mem x];constructor
  ·rintro ⟨r,hr,k1,k2⟩;rcases List.mem_append.1 hr with hr | hr
   ·exact .inl ⟨r,hr,k1,k2⟩
   ·rw[List.mem_singleton] at hr;subst hr;simp only at k1 k2;right;omega
  ·rintro (⟨r,hr,k1,k2⟩ | rfl)
   ·exact ⟨r,List.mem_append_left _ hr,k1,k2⟩
   ·exact ⟨_,List.mem_append_right _ (List.mem_singleton.2 rfl),Int.le_refl _,by simp only;omega⟩
theorem RJ.step {o:List (Int × Int)} {s:List Int} {hi i:Int} (h:RJ o s hi) (h0:0<=i) (h1:hi<=i):RJ (rngS o i) (s++[i]) (i+1):=by
 rcases List.eq_nil_or_concat o with rfl | ⟨o,⟨f,t⟩,rfl⟩
 ·exact h.add h0 h1 (by simp)
 ·rw[List.concat_eq_append] at h |-;rw[q8s];have hl:=h.rt (f,t) (by simp);simp only at hl;have hp:=List.pairwise_append.1 h.pw;split
  ·rename_i e;subst e;refine ⟨fun r hr=>?_,?_,fun x=>?_⟩
   ·rcases List.mem_append.1 hr with hr | hr
    ·have:=h.rt r (by simp[hr]);omega
    ·rw[List.mem_singleton] at hr;subst hr;simp only;omega
   ·rw[List.pairwise_append];refine ⟨hp.1,List.pairwise_singleton _ _,fun a ha b hb=>?_⟩;rw[List.mem_singleton] at hb;subst hb;exact hp.2.2 a ha (f,t) (by simp)
   ·rw[List.mem_append,List.mem_singleton,<- h.mem x];constructor
    ·rintro ⟨r,hr,k1,k2⟩;rcases List.mem_append.1 hr with hr | hr
     ·exact .inl ⟨r,List.mem_append_left _ hr,k1,k2⟩
     ·rw[List.mem_singleton] at hr;subst hr;simp only at k1 k2;by_cases e:x=t
      ·exact .inr e
      ·exact .inl ⟨(f,t),by simp,k1,by simp only;omega⟩
    ·rintro (⟨r,hr,k1,k2⟩ | rfl)
     ·rcases List.mem_append.1 hr with hr | hr
      ·exact ⟨r,List.mem_append_left _ hr,k1,k2⟩
      ·rw[List.mem_singleton] at hr;subst hr;simp only at k1 k2;exact ⟨(f,t+1),by simp,k1,by simp only;omega⟩
     ·exact ⟨(f,x+1),by simp,by simp only;omega,by simp only;omega⟩
  ·rename_i e;refine h.add h0 h1 fun r hr=>?_
   rcases List.mem_append.1 hr with hr | hr
   ·have:=hp.2.2 r hr (f,t) (by simp);simp only at this;omega
   ·rw[List.mem_singleton] at hr;subst hr;simp only;omega
theorem RJ.fold {n:Int}:∀ (r:List Int) (o:List (Int × Int)) (s:List Int) (hi:Int),RJ o s hi->r.Pairwise (·<·)->(∀ x∈r,hi<=x/\0<=x/\x<n)->hi<=n->RJ (rngF r o) (s++r) n
 | [],o,s,hi,h,_,_,hn=>by
  rw[List.append_nil];exact ⟨fun r hr=>by have:=h.rt r hr;omega,h.pw,h.mem⟩
 | i::r,o,s,hi,h,hp,hb,hn=>by
  have hi':=hb i (by simp);have hp':=List.pairwise_cons.1 hp;rw[rngF,show s++i::r=(s++[i])++r by simp];exact RJ.fold r _ _ (i+1) (h.step hi'.2.1 hi'.1) hp'.2 (fun x hx=>⟨hp'.1 x hx,(hb x (by simp[hx])).2⟩) (by omega)
theorem RJ.nil:RJ [] [] 0:=⟨by simp,List.Pairwise.nil,by simp⟩
section
variable {α β:Type} {f:Int->α->Bool} {g:Int->β->Bool}
theorem qtv {s:α} {l:List α} {i:Nat} (h:f i s=true):whF f i (s::l)=((i:Int),s)::whF f (i+1) l:=by
 conv=>lhs;unfold whF;rw[h]
theorem qtx {s:α} {l:List α} {i:Nat} (h:f i s=false):whF f i (s::l)=whF f (i+1) l:=by
 conv=>lhs;unfold whF;rw[h]
theorem qmg:∀ (l:List α) (i:Nat) (x:Int),x∈(whF f i l).map (·.1)↔∃ j,∃ h:j<l.length,x=((i+j:Nat):Int)/\f ((i+j:Nat):Int) l[j]=true
 | [],i,x=>by simp[whF]
 | s::l,i,x=>by
  have ih:=qmg l (i+1) x;have key:(∃ j,∃ h:j<(s::l).length,x=((i+j:Nat):Int)/\f ((i+j:Nat):Int) (s::l)[j]=true)↔(x=i/\f i s=true)\/x∈(whF f (i+1) l).map (·.1):=by
   rw[ih];constructor
   ·rintro ⟨j,hj,e,k⟩
    cases j with
    | zero=>exact .inl ⟨by simpa using e,by simpa using k⟩
    | succ j=>exact .inr ⟨j,by simpa using hj,by rw[e];omega,by rw[show i+1+j=i+(j+1) by omega];simpa using k⟩
   ·rintro (⟨e,k⟩ | ⟨j,hj,e,k⟩)
    ·exact ⟨0,by simp,by simpa using e,by simpa using k⟩
    ·exact ⟨j+1,by simpa using hj,by rw[e];omega,by rw[show i+(j+1)=i+1+j by omega];simpa using k⟩
  rw[key];cases h:f i s with
  | true=>rw[qtv h,List.map_cons,List.mem_cons];simp
  | false=>rw[qtx h];simp
theorem qty:∀ (l:List α) (i:Nat),((whF f i l).map (·.1)).Pairwise (·<·)
 | [],i=>by simp[whF]
 | s::l,i=>by
  have ih:=qty l (i+1);cases h:f i s with
  | true=>
   rw[qtv h];simp only[List.map_cons,List.pairwise_cons];refine ⟨fun x hx=>?_,ih⟩;obtain ⟨j,hj,e,_⟩:=(qmg l (i+1) x).1 hx;rw[e];omega
  | false=>rw[qtx h];exact ih
theorem qqj:∀ (l:List α) (m:List β) (i:Nat),l.length=m.length->(∀ j (h:j<l.length) (h2:j<m.length),f ((i+j:Nat):Int) l[j]=g ((i+j:Nat):Int) m[j])->(whF f i l).map (·.1)=(whF g i m).map (·.1)
 | [],[],i,_,_=>rfl
 | s::l,t::m,i,hl,hs=>by
  have ih:=qqj l m (i+1) (by simpa using hl) (fun j h1 h2=>by
   have:=hs (j+1) (by simpa using h1) (by simpa using h2);rw[show i+(j+1)=i+1+j by omega] at this
   simpa using this)
  have h0:f i s=g i t:=hs 0 (by simp) (by simp);cases h:g i t with
  | true=>rw[qtv h,qtv (h0.trans h),List.map_cons,List.map_cons,ih]
  | false=>rw[qtx h,qtx (h0.trans h),ih]
 | [],_::_,_,h,_=>by cases h
 | _::_,[],_,h,_=>by cases h
theorem q4x (l:List α):RJ (rngF ((whF f 0 l).map (·.1)) []) ((whF f 0 l).map (·.1)) l.length:=by
 have:=RJ.fold (n:=l.length) _ [] [] 0 RJ.nil (qty (f:=f) l 0) (fun x hx=>by
  obtain ⟨j,hj,e,_⟩:=(qmg l 0 x).1 hx
  rw[e];omega) (by omega)
 rwa[List.nil_append] at this
end
theorem q0l {a b:List SyT} {j:Nat}:clB b j (gtY a j)=clB a j (gtY b j):=by
 unfold clB;rw[Int.toNat_natCast];generalize gtY a j=s;generalize gtY b j=t
 cases h1:tcB j s <;> cases h2:tcB j t <;> simp only[Bool.true_and,Bool.false_and,Bool.and_false]
 obtain ⟨s1,s2,s3⟩:=s;obtain ⟨t1,t2,t3⟩:=t
 congr 1
 simp only[decide_eq_decide];exact eq_comm
theorem qyt {a b:List SyT} (h:a.length=b.length):rgCV a b=rgCV b a:=by
 unfold rgCV
 rw[qqj a b 0 h fun j h1 h2=>by
  rw[Nat.zero_add,<- qbn h1,<- qbn h2];exact q0l]
theorem q1y (a b:List SyT):RJ (rgCV a b) ((whF (clB b) 0 a).map (·.1)) a.length:=q4x a
theorem q4z {a b:List SyT} {j:Nat} (hj:j<a.length):(∃ r∈rgCV a b,r.1<=(j:Int)/\(j:Int)<r.2)↔clB b j (gtY a j)=true:=by
 rw[(q1y a b).mem,qmg];constructor
 ·rintro ⟨k,hk,e,q⟩;have:k=j:=by omega
  subst this;rw[Nat.zero_add,<- qbn hk] at q;exact q
 ·intro q;exact ⟨j,hj,by simp,by rw[Nat.zero_add,<- qbn hj];exact q⟩
attribute [local irreducible] Go.Px.sy Go.Px.syE
theorem qvh:Held Tryd.prog G0 39 ctIn:=Held.run cx0 (fn:=Tryd.f39) rfl rfl ⟨by decide,by decide⟩ fun ⟨n,a,b,_⟩ _=>by
 refine (q3e n a b _ _).mpr (qaf (fun h=>?_) (fun h=>⟨rfl,?_⟩))
 ·exact QC.flat (by simp only[ctIn,h];rfl) rfl rfl
 ·exact QC.flat (by simp only[ctIn,h];rfl) rfl rfl
theorem cxIn:CxOK Tryd.prog tt G0 CIn:=cx0.cons qvh (fn:=Tryd.f39) rfl rfl rfl
def q45 (l:List (Int × Int)) (n:Int):Prop:=l.length<1099511627776/\(∀ r∈l,0<=r.1/\r.1<r.2/\r.2<=n)/\l.Pairwise (fun a b=>a.2<b.1)
def ctRt:Ctr:=⟨[.sl rgS,iI],fun x=>q45 x.1 x.2.1,fun _=>[.bool true],fun _=>[]⟩
theorem q4u (l:List (Int × Int)) (n:Int) (hp:q45 l n):∀ (k i:Nat),l.length-i=k->i<=l.length ->
  GD 15 Tryd.f15 (fun rs _=>rs=[.bool true]) (hd Tryd.f15 0) ⟨[(0,.sl rgS l),(1,.int .i64 n),(4,.bool false),(5,.int .i64 (i:Nat))],[]⟩:=by
 obtain ⟨hl,hr,hw⟩:=hp;intro k
 induction k with
 | zero=>
  intro i hk hi;refine qak cx0 (q1h l n i _ _) ?_;rw[decide_eq_false (show ¬ (i:Int)<(l.length:Int) by omega),bc_f]
 | succ k ih=>
  intro i hk hi;have hx:i<l.length:=by omega
  have nx:=ih (i+1) (by omega) (by omega);have h1:=hr _ (List.getElem_mem hx);refine qak cx0 (q1h l n i _ _) ?_;rw[decide_eq_true (show (i:Int)<(l.length:Int) by omega),bc_t,Int.toNat_natCast,qlx hx,IntWalk.i64_in ((i:Int)+1) (by omega),IntWalk.i64_in ((i:Int)-1) (by omega),decide_eq_false (show ¬ l[i].1<0 by omega),bc_f,decide_eq_false (show ¬ l[i].2<=l[i].1 by omega),decide_eq_false (show ¬ n<l[i].2 by omega)];simp only[cond_false,cond_true,bc_f];refine ⟨by omega,by omega,by omega,by omega,by omega,by omega,by omega,by omega,qaf (fun h=>?_) (fun h=>?_)⟩
  ·have h:=of_decide_eq_true h;have e:((i:Int)-1).toNat=i-1:=by omega
   have hp:=List.pairwise_iff_getElem.1 hw (i-1) i (by omega) hx (by omega);rw[e,qlx (show i-1<l.length by omega),decide_eq_false (show ¬ l[i].1<=l[i-1].2 by omega)];exact ⟨by omega,by omega,by omega,by omega,nx.only ⟨rfl,rfl,rfl,rfl,trivial⟩ trivial⟩
  ·first | exact ⟨trivial,nx.only ⟨rfl,rfl,rfl,rfl,trivial⟩ trivial⟩ | exact ⟨rfl,nx.only ⟨rfl,rfl,rfl,rfl,trivial⟩ trivial⟩
theorem q4v:Held Tryd.prog G0 15 ctRt:=Held.of cx0 (fn:=Tryd.f15) rfl rfl ⟨by decide,by decide⟩ fun ⟨l,n,_⟩ hp=>
 (qaj cx0 _ _ _ ((vc_rt l n _ _).mpr ((q4u l n hp _ 0 rfl (Nat.zero_le _)).only ⟨rfl,rfl,rfl,rfl,trivial⟩ trivial))).post fun rs blk hq=>QC.flat (by rw[hq];rfl) rfl (by rw[hq];rfl)
def inrB (n:Int) (r:Int × Int):Bool:=decide (r.1<=n)&&decide (n<=r.2-1)
def qyy (l:List (Int × Int)):Prop:=l.length<1099511627776/\∀ r∈l,0<=r.2/\r.2<1099511627776
def ctIr:Ctr:=⟨[.sl rgS,iI],fun x=>qyy x.1,fun x=>[.bool (List.any x.1 (inrB x.2.1))],fun _=>[]⟩
theorem q58 (l:List (Int × Int)) (n:Int) (hp:qyy l):∀ (k i:Nat),l.length-i=k->i<=l.length ->
  GD 18 Tryd.f18 (fun rs _=>rs=[.bool ((l.drop i).any (inrB n))]) (hd Tryd.f18 0) ⟨[(0,.sl rgS l),(1,.int .i64 n),(4,.bool false),(5,.int .i64 (i:Nat))],[]⟩:=by
 obtain ⟨hl,hr⟩:=hp;intro k
 induction k with
 | zero=>
  intro i hk hi;refine qak cxIn (que l n i _ _) ?_;rw[decide_eq_false (show ¬ (i:Int)<(l.length:Int) by omega),bc_f,List.drop_of_length_le (by omega)];rfl
 | succ k ih=>
  intro i hk hi;have hx:i<l.length:=by omega
  have nx:=ih (i+1) (by omega) (by omega);have h1:=hr _ (List.getElem_mem hx);refine qak cxIn (que l n i _ _) ?_;rw[decide_eq_true (show (i:Int)<(l.length:Int) by omega),bc_t,Int.toNat_natCast,qlx hx,IntWalk.i64_in ((i:Int)+1) (by omega),IntWalk.i64_in (l[i].2-1) (by omega),List.drop_eq_getElem_cons hx,List.any_cons];refine ⟨by omega,by omega,by omega,by omega,trivial,qaf (fun h=>?_) (fun h=>?_)⟩
  ·have h:inrB n l[i]=true:=h;rw[h];rfl
  ·have h:inrB n l[i]=false:=h;rw[h,Bool.false_or];exact nx.only ⟨rfl,rfl,rfl,rfl,trivial⟩ trivial
theorem q59:Held Tryd.prog G0 18 ctIr:=Held.of cxIn (fn:=Tryd.f18) rfl rfl ⟨by decide,by decide⟩ fun ⟨l,n,_⟩ hp=>
 (qaj cxIn _ _ _ ((q7y l n _ _).mpr ((q58 l n hp _ 0 rfl (Nat.zero_le _)).only ⟨rfl,rfl,rfl,rfl,trivial⟩ trivial))).post fun rs blk hq=>QC.flat (by rw[hq];rfl) rfl (by rw[hq];rfl)
def toI (s:List SyT) (i:Nat):List Bool:=(List.range s.length).map fun j=>decide (j<i)&&tcB j (gtY s j)
theorem qgi (s:List SyT) (i:Nat):(toI s i).length=s.length:=by simp[toI]
theorem q38 {s:List SyT} {i:Nat}:(toI s i).set i (tcB i (gtY s i))=toI s (i+1):=by
 refine List.ext_getElem (by simp[toI]) fun j h1 h2=>?_
 rw[List.getElem_set];simp only[toI,List.getElem_map,List.getElem_range];by_cases e:i=j
 ·subst e;rw[if_pos rfl,decide_eq_true (show i<i+1 by omega),Bool.true_and]
 ·rw[if_neg e]
  congr 1
  exact decide_eq_decide.2 (by omega)
theorem toI_z (s:List SyT):toI s 0=List.replicate s.length false:=by
 refine List.ext_getElem (by simp[toI]) fun j h1 h2=>?_
 simp[toI]
def ctTo:Ctr:=⟨[paS],fun x=>evP x.1,fun x=>[.win true .bool 0 0 (toI (sySy x.1) (sySy x.1).length).length],fun x=>[.row 4 .bool (toI (sySy x.1) (sySy x.1).length)]⟩
theorem q36 {s:List SyT} {Q:List SV->List (Nat × LB)->Prop} (hs:s.length<=65536) (hQ:∀ blk,lk blk 8=some (.row 4 .bool (toI s s.length))->Q [.win true .bool 8 0 s.length] blk):∀ (k i:Nat),s.length-i=k->i<=s.length ->
  GD 16 Tryd.f16 Q (hd Tryd.f16 0) ⟨[(3,.win true .bool 8 0 (toI s i).length),(4,.win true syS 1040960 0 s.length),(5,.int .i64 (i:Nat))],[(8,.row 4 .bool (toI s i)),(1040960,.row 51 syS s)]⟩:=by
 intro k
 induction k with
 | zero=>
  intro i hk hi;refine qak cxTo (q1d (toI s i) s i _ _) ?_;rw[decide_eq_false (show ¬ (i:Int)<(s.length:Int) by omega),bc_f,qgi];have e:i=s.length:=by omega
  subst e;exact hQ _ rfl
 | succ k ih=>
  intro i hk hi;have nx:=ih (i+1) (by omega) (by omega);rw[<- q38,List.length_set] at nx;refine qak cxTo (q1d (toI s i) s i _ _) ?_;rw[decide_eq_true (show (i:Int)<(s.length:Int) by omega),bc_t,Int.toNat_natCast,Nat.zero_add,IntWalk.i64_in ((i:Int)+1) (by omega)];have e:(!decide ([Cl.cb (gtY s i).1,Cl.ci IntKind.i64 (gtY s i).2.1,Cl.ci IntKind.u8 (gtY s i).2.2]=[Cl.cb true,Cl.ci IntKind.i64 (i:Int),Cl.ci IntKind.u8 (0:Int)]))=tcB i (gtY s i):=by
   unfold tcB;generalize gtY s i=y;obtain ⟨y1,y2,y3⟩:=y;simp
  rw[e];have hl:=qgi s i;exact ⟨by omega,by omega,by omega,by omega,by omega,by omega,nx.only ⟨rfl,rfl,rfl,trivial⟩ ⟨rfl,rfl,trivial⟩⟩
theorem q37:Held Tryd.prog G0 16 ctTo:=Held.of cxTo (fn:=Tryd.f16) rfl rfl ⟨by decide,by decide⟩ fun ⟨p,_⟩ hp=>by
 have hp:evP p:=hp;obtain ⟨h1,⟨h2,h3⟩,_⟩:=qiv hp;have hs:(sySy p).length<=65536:=by omega
 have e:Int.toNat p.2.1=(sySy p).length:=by omega
 refine qak cxTo (vc_to p _ _) ⟨h2,by omega,by omega,by omega,trivial,?_⟩;rw[e];have g:=q36 (s:=sySy p) (Q:=QC ctTo (p,())) hs (fun blk hb=>QC.row0 (e:=.bool) (et:=4) (xs:=toI (sySy p) (sySy p).length) rfl rfl rfl (by rw[qgi]) hb) _ 0 rfl (Nat.zero_le _);rw[toI_z,List.length_replicate] at g;exact g.only ⟨rfl,rfl,rfl,trivial⟩ ⟨rfl,rfl,trivial⟩
open Go.IntKind(i64 u32 u8)
noncomputable def CLc:CV:=[(6,.inl ctSn11),(7,.inl ctM11),(8,.inl ctS11),(13,.inl ctCl),(10,.inl ctMg),(14,.inl ctSr),(15,.inl ctRt),(16,.inl ctTo),(17,.inl ctSym),(18,.inl ctIr)]
theorem cxLc:CxOK Tryd.prog tt G0 CLc:=(((((((((cx0.cons q59 (fn:=Tryd.f18) rfl rfl rfl).cons qpg (fn:=Tryd.f17) rfl rfl rfl).cons q37 (fn:=Tryd.f16) rfl rfl rfl).cons q4v (fn:=Tryd.f15) rfl rfl rfl).cons quv (fn:=Tryd.f14) rfl rfl rfl).cons qrj (fn:=Tryd.f10) rfl rfl rfl).cons qrk (fn:=Tryd.f13) rfl rfl rfl).cons qqy (fn:=Tryd.f8) rfl rfl rfl).cons qzm (fn:=Tryd.f7) rfl rfl rfl).cons qwc (fn:=Tryd.f6) rfl rfl rfl
set_option maxRecDepth 100000
theorem q7p (x:List (Int × List (List Int))) (Q:List SV->Prop) (R:List Item->PS->Prop):sy tt G0 CLc Tryd.f4.ntmps Tryd.f4.results.toList (fun rs _=>Q rs) (fun it S=>R it (qa4 [2,3,4,6,12,13,14,16,18] [4,1131072,1339968,1348160,1360448,1380928] S)) 1000 [.code (qae Tryd.f4)] (entry [.arr 2 raS] (x,())) =
  (ctSn11.pre () /\
 (0:Int)<=0 /\
 (0:Int)<(↑(2:Nat):Int) /\
 0<2 /\
 ctM11.pre (((gtRa x (0)).1,(gtRa x (0)).2),()) /\
 (0:Int)<=1 /\
 (1:Int)<(↑(2:Nat):Int) /\
 1<2 /\
 ctS11.pre (((gtRa x (1)).1,(gtRa x (1)).2),(oP x).2.1,()) /\
 ctCl.pre ((oP x),(oQ x 1),()) /\
 ctCl.pre ((oQ x 1),(oP x),()) /\
 ctMg.pre ((oP x),(oQ x 1),()) /\
 bc (decide ((clV (oP x) (oQ x 1)).2≠0)) (true=true /\
 true=true /\
 true=true /\
 true=true /\
 true=true /\
 Q [.bool false]) (bc (bif false then true else decide ((clV (oQ x 1) (oP x)).2≠0)) (true=true /\
 true=true /\
 true=true /\
 true=true /\
 Q [.bool false]) (0+(clV (oP x) (oQ x 1)).1.length<=(clV (oP x) (oQ x 1)).1.length /\
 0+(clV (oQ x 1) (oP x)).1.length<=(clV (oQ x 1) (oP x)).1.length /\
 ctSr.pre (winL rgS 0 (clV (oP x) (oQ x 1)).1.length (clV (oP x) (oQ x 1)).1,winL rgS 0 (clV (oQ x 1) (oP x)).1.length (clV (oQ x 1) (oP x)).1,()) /\
 bc (bif false then true else !decide ((have this:=winL rgS 0 (clV (oP x) (oQ x 1)).1.length (clV (oP x) (oQ x 1)).1;this)=winL rgS 0 (clV (oQ x 1) (oP x)).1.length (clV (oQ x 1) (oP x)).1)) (true=true /\
 true=true /\
 true=true /\
 Q [.bool false]) (0+(clV (oP x) (oQ x 1)).1.length<=(clV (oP x) (oQ x 1)).1.length /\
 ctRt.pre (winL rgS 0 (clV (oP x) (oQ x 1)).1.length (clV (oP x) (oQ x 1)).1,(oP x).2.1,()) /\
 bc (bif false then true else !decide ((mgV (oP x) (oQ x 1)).2=(0:Int)) == decide ((↑(clV (oP x) (oQ x 1)).1.length:Int)=(0:Int))) (true=true /\
 Q [.bool false]) (bc (decide ((mgV (oP x) (oQ x 1)).2≠0)) (bc (bif false then true else bif true then decide ((mgV (oP x) (oQ x 1)).2≠110) else false) (Q [.bool false]) (ctTo.pre ((oP x),()) /\
 ctTo.pre ((oQ x 1),()) /\
 ctSym.pre ((oP x),()) /\
 ctSym.pre ((oQ x 1),()) /\
 R (hd Tryd.f4 0) { env:=[(2,.bool false),(3,.bool true),(4,.ptr 4 0),(6,.win true rgS 1131072 0 (clV (oP x) (oQ x 1)).1.length),(12,.win true Sh.bool (1339968:Nat) (0:Nat) (toI (sySy (oP x)) (sySy (oP x)).length).length),(13,.win true Sh.bool (1348160:Nat) (0:Nat) (toI (sySy (oQ x 1)) (sySy (oQ x 1)).length).length),(14,.win true syS 1360448 0 (symV (oP x)).1.length),(16,.win true syS 1380928 0 (symV (oQ x 1)).1.length),(18,.int .i64 0)],blk:=[(4,.var [.bool (oP x).1,.int .i64 (oP x).2.1,.int .i64 (oP x).2.2.1,.sl opS (oP x).2.2.2]),(1131072,.row 69 rgS (clV (oP x) (oQ x 1)).1),(1339968,.row 4 Sh.bool (toI (sySy (oP x)) (sySy (oP x)).length)),(1348160,.row 4 Sh.bool (toI (sySy (oQ x 1)) (sySy (oQ x 1)).length)),(1360448,.row 51 syS (symV (oP x)).1),(1380928,.row 51 syS (symV (oQ x 1)).1)] })) (false=false /\
 ctTo.pre ((oP x),()) /\
 ctTo.pre ((oQ x 1),()) /\
 ctSym.pre ((oP x),()) /\
 ctSym.pre ((oQ x 1),()) /\
 R (hd Tryd.f4 0) { env:=[(2,.bool false),(3,.bool true),(4,.ptr 4 0),(6,.win true rgS 1131072 0 (clV (oP x) (oQ x 1)).1.length),(12,.win true Sh.bool (1339968:Nat) (0:Nat) (toI (sySy (oP x)) (sySy (oP x)).length).length),(13,.win true Sh.bool (1348160:Nat) (0:Nat) (toI (sySy (oQ x 1)) (sySy (oQ x 1)).length).length),(14,.win true syS 1360448 0 (symV (oP x)).1.length),(16,.win true syS 1380928 0 (symV (oQ x 1)).1.length),(18,.int .i64 0)],blk:=[(4,.var [.bool (oP x).1,.int .i64 (oP x).2.1,.int .i64 (oP x).2.2.1,.sl opS (oP x).2.2.2]),(1131072,.row 69 rgS (clV (oP x) (oQ x 1)).1),(1339968,.row 4 Sh.bool (toI (sySy (oP x)) (sySy (oP x)).length)),(1348160,.row 4 Sh.bool (toI (sySy (oQ x 1)) (sySy (oQ x 1)).length)),(1360448,.row 51 syS (symV (oP x)).1),(1380928,.row 51 syS (symV (oQ x 1)).1)] })))))):=by kernel_rfl
theorem qt7 (p:PaT) (l:List (Int × Int)) (a b:List Bool) (s t:List SyT) (i:Int) (Q:List SV->Prop) (R:List Item->PS->Prop):sy tt G0 CLc Tryd.f4.ntmps Tryd.f4.results.toList (fun rs _=>Q rs) (fun it S=>R it (qa4 [2,3,4,6,12,13,14,16,18] [4,1131072,1339968,1348160,1360448,1380928] S)) 1000 (hd Tryd.f4 0) ⟨[(2,.bool false),(3,.bool true),(4,.ptr 4 0),(6,.win true rgS 1131072 0 l.length),(12,.win true .bool 1339968 0 a.length),(13,.win true .bool 1348160 0 b.length),(14,.win true syS 1360448 0 s.length),(16,.win true syS 1380928 0 t.length),(18,.int .i64 i)],[(4,.var [.bool p.1,.int .i64 p.2.1,.int .i64 p.2.2.1,.sl opS p.2.2.2]),(1131072,.row 69 rgS l),(1339968,.row 4 .bool a),(1348160,.row 4 .bool b),(1360448,.row 51 syS s),(1380928,.row 51 syS t)]⟩ =
  (bc (decide (i<p.2.1)) ((0:Int)<=i /\
 i<(a.length:Int) /\
 0+i.toNat<a.length /\
 bc (gtT a (0+i.toNat)) ((0:Int)<=i /\
 i<(b.length:Int) /\
 0+i.toNat<b.length /\
 bc (bif true then gtT b (0+i.toNat) else false) ((0:Int)<=i /\
 i<(s.length:Int) /\
 0+i.toNat<s.length /\
 (0:Int)<=i /\
 i<(t.length:Int) /\
 0+i.toNat<t.length /\
 0+l.length<=l.length /\
 ctIr.pre (winL rgS 0 l.length l,i,()) /\
 bc (!(bif true then !decide ([Cl.cb (gtY s (0+i.toNat)).1,Cl.ci i64 (gtY s (0+i.toNat)).2.1,Cl.ci u8 (gtY s (0+i.toNat)).2.2]=[Cl.cb (gtY t (0+i.toNat)).1,Cl.ci i64 (gtY t (0+i.toNat)).2.1,Cl.ci u8 (gtY t (0+i.toNat)).2.2]) else false) == (winL rgS 0 l.length l).any (inrB i)) (Q [.bool false]) (R (hd Tryd.f4 0) { env:=[(2,.bool false),(3,.bool true),(4,.ptr 4 0),(6,.win true rgS 1131072 0 l.length),(12,.win true Sh.bool (1339968:Nat) (0:Nat) a.length),(13,.win true Sh.bool (1348160:Nat) (0:Nat) b.length),(14,.win true syS 1360448 0 s.length),(16,.win true syS 1380928 0 t.length),(18,.int .i64 (i64.wrap (i+1)))],blk:=[(4,.var [.bool p.1,.int .i64 p.2.1,.int .i64 p.2.2.1,.sl opS p.2.2.2]),(1131072,.row 69 rgS l),(1339968,.row 4 Sh.bool a),(1348160,.row 4 Sh.bool b),(1360448,.row 51 syS s),(1380928,.row 51 syS t)] })) (false=false /\
 0+l.length<=l.length /\
 ctIr.pre (winL rgS 0 l.length l,i,()) /\
 bc (!false == (winL rgS 0 l.length l).any (inrB i)) (Q [.bool false]) (R (hd Tryd.f4 0) { env:=[(2,.bool false),(3,.bool true),(4,.ptr 4 0),(6,.win true rgS 1131072 0 l.length),(12,.win true Sh.bool (1339968:Nat) (0:Nat) a.length),(13,.win true Sh.bool (1348160:Nat) (0:Nat) b.length),(14,.win true syS 1360448 0 s.length),(16,.win true syS 1380928 0 t.length),(18,.int .i64 (i64.wrap (i+1)))],blk:=[(4,.var [.bool p.1,.int .i64 p.2.1,.int .i64 p.2.2.1,.sl opS p.2.2.2]),(1131072,.row 69 rgS l),(1339968,.row 4 Sh.bool a),(1348160,.row 4 Sh.bool b),(1360448,.row 51 syS s),(1380928,.row 51 syS t)] }))) (false=false /\
 false=false /\
 0+l.length<=l.length /\
 ctIr.pre (winL rgS 0 l.length l,i,()) /\
 bc (!false == (winL rgS 0 l.length l).any (inrB i)) (Q [.bool false]) (R (hd Tryd.f4 0) { env:=[(2,.bool false),(3,.bool true),(4,.ptr 4 0),(6,.win true rgS 1131072 0 l.length),(12,.win true Sh.bool (1339968:Nat) (0:Nat) a.length),(13,.win true Sh.bool (1348160:Nat) (0:Nat) b.length),(14,.win true syS 1360448 0 s.length),(16,.win true syS 1380928 0 t.length),(18,.int .i64 (i64.wrap (i+1)))],blk:=[(4,.var [.bool p.1,.int .i64 p.2.1,.int .i64 p.2.2.1,.sl opS p.2.2.2]),(1131072,.row 69 rgS l),(1339968,.row 4 Sh.bool a),(1348160,.row 4 Sh.bool b),(1360448,.row 51 syS s),(1380928,.row 51 syS t)] }))) (Q [.bool true])):=by kernel_rfl
theorem qxn {n:Nat} {v:PaT} (h:P11 n v):∃ l,IsP n l v:=by
 obtain ⟨l,h1,h2,rfl⟩:=h;have h2:l.length=n:=by omega
 subst h2;exact ⟨l,q9d h1⟩
def preX (x:List (Int × List (List Int))):Prop:=∀ j,qvm (gtRa x j).1 (gtRa x j).2
theorem oP_ok {x:List (Int × List (List Int))} (h:preX x):∃ n:Nat,n<13/\∃ a,IsP n a (oP x):=by
 have k:=q2f (h 0);have k1:=(qxm (z:=(gtRa x 0).1) k).1;obtain ⟨_,k2,k3,_⟩:=k;obtain ⟨n,hn⟩:=Int.eq_ofNat_of_zero_le k2;have k1:P11 ((IntKind.i64.wrap (gtRa x 0).1).tmod 13) (oP x):=k1;rw[hn] at k1 k3;exact ⟨n,by omega,qxn k1⟩
theorem q19 {x:List (Int × List (List Int))} (h:preX x) {n:Nat} (hn:n<13) (e:(oP x).2.1=n) (i:Nat):qq6 (oP x).2.1 (gtRa x i).2:=by
 rw[e];exact ⟨(h i).2.1,by omega,by omega,(h i).2.2⟩
theorem oQ_ok {x:List (Int × List (List Int))} (h:preX x) {n:Nat} (hn:n<13) (e:(oP x).2.1=n) (i:Nat):∃ b,IsP n b (oQ x i):=by
 have k:=(qxm (z:=(gtRa x i).1) (q19 h hn e i)).1;rw[e] at k;have k:P11 n (oQ x i):=by show P11 n (S11V (gtRa x i).1 (oP x).2.1 (gtRa x i).2);rw[e];exact k
 exact qxn k
theorem qu6:∀ (r:List Int) (o:List (Int × Int)),(rngF r o).length<=o.length+r.length
 | [],o=>Nat.le_refl _
 | i::r,o=>by
  have:=qu6 r (rngS o i);have h:(rngS o i).length<=o.length+1:=by
   unfold rngS;split
   ·rw[List.length_set];omega
   ·simp
  rw[rngF,List.length_cons];omega
theorem q1b {α:Type} {f:Int->α->Bool}:∀ (l:List α) (i:Nat),(whF f i l).length<=l.length
 | [],_=>Nat.le_refl _
 | s::l,i=>by
  have:=q1b (f:=f) l (i+1);cases h:f i s with
  | true=>rw[qtv h,List.length_cons,List.length_cons];omega
  | false=>rw[qtx h,List.length_cons];omega
theorem q40 (a b:List SyT):(rgCV a b).length<=a.length:=by
 have h:=qu6 ((whF (clB b) 0 a).map (·.1)) [];have h2:=q1b (f:=clB b) a 0;rw[List.length_map] at h;unfold rgCV;simp only[List.length_nil,Nat.zero_add] at h;omega
theorem q41 {a b:List SyT} {j:Nat} (hj:j<a.length):(rgCV a b).any (inrB j)=clB b j (gtY a j):=by
 rw[Bool.eq_iff_iff,List.any_eq_true,<- q4z hj];constructor
 ·rintro ⟨r,h1,h2⟩;simp only[inrB,Bool.and_eq_true,decide_eq_true_eq] at h2;exact ⟨r,h1,h2.1,by omega⟩
 ·rintro ⟨r,h1,h2,h3⟩;exact ⟨r,h1,by simp only[inrB,Bool.and_eq_true,decide_eq_true_eq];exact ⟨h2,by omega⟩⟩
theorem q2h {s:List SyT} {i:Nat} (hi:i<s.length):gtT (toI s s.length) i=tcB i (gtY s i):=by
 have h:gtT (toI s s.length) i=(toI s s.length)[i]'(by rw[qgi];exact hi):=gtE (e:=.bool) (by rw[qgi];exact hi);rw[h];simp[toI,hi]
abbrev GD4 (it:List Item) (S:PS):Prop:=GD 4 Tryd.f4 (fun rs _=>rs=[SV.bool true]) it S
abbrev mclS (p:PaT) (l:List (Int × Int)) (a b:List Bool) (s t:List SyT) (i:Nat):PS:=⟨[(2,.bool false),(3,.bool true),(4,.ptr 4 0),(6,.win true rgS 1131072 0 l.length),(12,.win true .bool 1339968 0 a.length),(13,.win true .bool 1348160 0 b.length),(14,.win true syS 1360448 0 s.length),(16,.win true syS 1380928 0 t.length),(18,.int .i64 (i:Nat))],[(4,.var [.bool p.1,.int .i64 p.2.1,.int .i64 p.2.2.1,.sl opS p.2.2.2]),(1131072,.row 69 rgS l),(1339968,.row 4 .bool a),(1348160,.row 4 .bool b),(1360448,.row 51 syS s),(1380928,.row 51 syS t)]⟩
theorem cl_eq (s t:SyT):(!decide ([Cl.cb s.1,Cl.ci IntKind.i64 s.2.1,Cl.ci IntKind.u8 s.2.2]=[Cl.cb t.1,Cl.ci IntKind.i64 t.2.1,Cl.ci IntKind.u8 t.2.2])) = !decide ((s.1,s.2.1,s.2.2)=(t.1,t.2.1,t.2.2)):=by
 obtain ⟨s1,s2,s3⟩:=s;obtain ⟨t1,t2,t3⟩:=t;simp
theorem qzh (p:PaT) (l:List (Int × Int)) (s t:List SyT) (hm:p.2.1=(s.length:Int)) (ht:t.length=s.length) (hn:s.length<=4096) (hir:qyy l) (hin:∀ j:Nat,j<s.length->l.any (inrB j)=clB t j (gtY s j)):∀ (k i:Nat),s.length-i=k->i<=s.length ->
  GD4 (hd Tryd.f4 0) (mclS p l (toI s s.length) (toI t t.length) s t i):=by
 have la:=qgi s s.length;have lb:=qgi t t.length;intro k
 induction k with
 | zero=>
  intro i hk hi;refine qak cxLc (qt7 p l (toI s s.length) (toI t t.length) s t i _ _) ?_;rw[decide_eq_false (show ¬ (i:Int)<p.2.1 by omega),bc_f]
 | succ k ih=>
  intro i hk hi;have hx:i<s.length:=by omega
  have nx:=ih (i+1) (by omega) (by omega);have key:=hin i hx;unfold clB at key;rw[Int.toNat_natCast] at key;have nd:=nx.only (S:=⟨[(2,.bool false),(3,.bool true),(4,.ptr 4 0),(6,.win true rgS 1131072 0 l.length),(12,.win true .bool 1339968 0 (toI s s.length).length),(13,.win true .bool 1348160 0 (toI t t.length).length),(14,.win true syS 1360448 0 s.length),(16,.win true syS 1380928 0 t.length),(18,.int .i64 ((i:Int)+1))],[(4,.var [.bool p.1,.int .i64 p.2.1,.int .i64 p.2.2.1,.sl opS p.2.2.2]),(1131072,.row 69 rgS l),(1339968,.row 4 .bool (toI s s.length)),(1348160,.row 4 .bool (toI t t.length)),(1360448,.row 51 syS s),(1380928,.row 51 syS t)]⟩) ⟨rfl,rfl,rfl,rfl,rfl,rfl,rfl,rfl,rfl,trivial⟩ ⟨rfl,rfl,rfl,rfl,rfl,rfl,trivial⟩;refine qak cxLc (qt7 p l (toI s s.length) (toI t t.length) s t i _ _) ?_;rw[decide_eq_true (show (i:Int)<p.2.1 by omega),bc_t,Int.toNat_natCast,Nat.zero_add,q2h hx,q2h (show i<t.length by omega),show winL rgS 0 l.length l=l from winA (e:=rgS) l,key,cl_eq,IntWalk.i64_in ((i:Int)+1) (by omega)];refine ⟨by omega,by omega,by omega,?_⟩
  cases h1:tcB i (gtY s i) with
  | false=>
   rw[bc_f];exact ⟨rfl,rfl,by omega,hir,nd⟩
  | true=>
   rw[bc_t];refine ⟨by omega,by omega,by omega,?_⟩
   cases h2:tcB i (gtY t i) with
   | false=>exact ⟨rfl,by omega,hir,nd⟩
   | true=>
    refine ⟨by omega,by omega,by omega,by omega,by omega,by omega,by omega,hir,qaf (fun q=>?_) (fun _=>nd)⟩;simp at q
def q8w (x:List (Int × List (List Int))):Prop:=preX x
def ctMc:Ctr:=⟨[.arr 2 raS],fun x=>q8w x.1,fun _=>[.bool true],fun _=>[]⟩
theorem q2r {n:Nat} {a b:List SyT} {p q:PaT} (h:IsP n a p) (k:IsP n b q):clV p q=(rgCV a b,0):=by
 unfold clV;rw[h.all k,h.sySy,k.sySy];rfl
theorem IsP.ev {n:Nat} {a:List SyT} {p:PaT} (h:IsP n a p):evP p:=⟨by rw[h.sy],by rw[h.hm,h.ho]⟩
theorem q5z (x:List (Int × List (List Int))) (hx:q8w x):GD4 [.code (qae Tryd.f4)] (entry [.arr 2 raS] (x,())):=by
 obtain ⟨n,hn,a,hp⟩:=oP_ok hx;have h1:=q19 hx hn hp.hm 1;obtain ⟨b,hq⟩:=oQ_ok hx hn hp.hm 1;have c1:=q2r hp hq;have c2:=q2r hq hp;rw[<- qyt (show a.length=b.length by rw[hp.len,hq.len])] at c2;have hl:=q40 a b;have hla:=hp.len;have RJ1:=q1y a b;have hrt:q45 (rgCV a b) n:=⟨by omega,fun r hr=>by have:=RJ1.rt r hr;omega,RJ1.pw⟩;have hir:qyy (rgCV a b):=⟨by omega,fun r hr=>by have:=RJ1.rt r hr;omega⟩;have fin:=qzh (oP x) (rgCV a b) a b (by rw[hp.hm,hp.len]) (by rw[hp.len,hq.len]) (by omega) hir (fun j hj=>q41 hj) _ 0 rfl (Nat.zero_le _);refine qak cxLc (q7p x _ _) ?_;rw[c1,c2,hp.sySy,hq.sySy,hp.sy,hq.sy];rw[show winL rgS 0 (rgCV a b).length (rgCV a b)=rgCV a b from winA (e:=rgS) _,hp.hm];have fin2:=fin.only (S:=⟨[(2,.bool false),(3,.bool true),(4,.ptr 4 0),(6,.win true rgS 1131072 0 (rgCV a b).length),(12,.win true .bool 1339968 0 (toI a a.length).length),(13,.win true .bool 1348160 0 (toI b b.length).length),(14,.win true syS 1360448 0 a.length),(16,.win true syS 1380928 0 b.length),(18,.int .i64 0)],[(4,.var [.bool (oP x).1,.int .i64 (n:Int),.int .i64 (oP x).2.2.1,.sl opS (oP x).2.2.2]),(1131072,.row 69 rgS (rgCV a b)),(1339968,.row 4 .bool (toI a a.length)),(1348160,.row 4 .bool (toI b b.length)),(1360448,.row 51 syS a),(1380928,.row 51 syS b)]⟩) ⟨rfl,rfl,rfl,rfl,rfl,rfl,rfl,rfl,rfl,trivial⟩ ⟨by rw[hp.hm];rfl,rfl,rfl,rfl,rfl,rfl,trivial⟩;refine ⟨trivial,by omega,by omega,by decide,hx 0,by omega,by omega,by decide,by rw[<- hp.hm];exact h1,trivial,trivial,trivial,?_⟩;by_cases hc:noCl a b
 ·have g:=(mg_ok hp hq hc).1;have l0:=qmr.2 hc;rw[g];simp only[ne_eq,not_true_eq_false,decide_false,cond_false,bc_f,decide_true,Bool.not_true];refine ⟨by omega,by omega,hrt.1,by omega,hrt,?_⟩;rw[decide_eq_true (show (((rgCV a b).length:Nat):Int)=0 by omega)];exact ⟨trivial,hp.ev,hq.ev,trivial,trivial,fin2⟩
 ·have g:=mg_cl hp hq hc;have l0:(rgCV a b).length≠0:=fun e=>hc (qmr.1 e)
  rw[g];simp only[ne_eq,not_true_eq_false,decide_false,cond_false,bc_f,decide_true,Bool.not_true];refine ⟨by omega,by omega,hrt.1,by omega,hrt,?_⟩;rw[decide_eq_false (show ¬ (((rgCV a b).length:Nat):Int)=0 by omega)];exact ⟨hp.ev,hq.ev,trivial,trivial,fin2⟩
theorem qzi:Held Tryd.prog G0 4 ctMc:=Held.of cxLc (fn:=Tryd.f4) rfl rfl ⟨by decide,by decide⟩ fun ⟨x,_⟩ hp=>(q5z x hp).post fun rs blk hq=>QC.flat (by rw[hq];rfl) rfl (by rw[hq];rfl)
def u8L (b:List Int):Prop:=∀ j,0<=gtB b j/\gtB b j<256
theorem q8c {n:Int} (h:wfD uB n):0<=n/\n<256:=by
 have h:(Lit.int IntKind.u8 n).wf=true:=h;simp[Lit.wf,IntKind.min,IntKind.max,IntKind.signed,IntKind.bits] at h;omega
theorem q35 {l:List Int} (h:∀ x∈l,wfD uB x):u8L l:=fun j=>by
 by_cases hj:j<l.length
 ·rw[q2i hj];exact q8c (h _ (List.getElem_mem hj))
 ·have:gtB l j=0:=by
   show gt uB _ _=_
   unfold gt;rw[List.getElem?_eq_none (by omega)];rfl
  rw[this];decide
theorem l4_of {l:List (List Int)} (h:∀ x∈l,wfD a4S x):qvn l:=fun j=>by
 by_cases hj:j<l.length
 ·have e:gt a4S l j=l[j]:=gtE (e:=a4S) hj;rw[e];exact q35 (h _ (List.getElem_mem hj)).2
 ·have:gt a4S l j=List.replicate 4 (0:Int):=by
   unfold gt;rw[List.getElem?_eq_none (by omega)];rfl
  rw[this];exact q35 fun x hx=>by
   rw[List.eq_of_mem_replicate hx];rfl
theorem x_of {x:List (Int × List (List Int))} (h:∀ r∈x,wfD raS r):preX x:=fun j=>by
 by_cases hj:j<x.length
 ·have e:gtRa x j=x[j]:=gtE (e:=raS) hj;rw[e];have k:=h _ (List.getElem_mem hj);exact ⟨q8c k.1,l4_of k.2.2,k.2.1⟩
 ·have:gtRa x j=((0:Int),([]:List (List Int))):=by
   unfold gtRa gt;rw[List.getElem?_eq_none (by omega)];rfl
  rw[this];exact ⟨⟨Int.le_refl 0,by decide⟩,fun k i=>by rw[show gt a4S ([]:List (List Int)) k=List.replicate 4 (0:Int) from rfl];exact q35 (fun x hx=>by rw[List.eq_of_mem_replicate hx];rfl) i,by decide⟩
theorem qts {g:Nat} {x:ABlk} (h:rawG.get g=some x):g=0/\x=.cells qhp 129 2:=by
 unfold rawG T.get at h;split at h
 ·rename_i e;cases h;exact ⟨e,rfl⟩
 ·split at h <;> (simp[T.get] at h)
theorem hG:Glob G0.raw:=⟨fun g x h=>by rw[(qts h).1];decide,fun g x h=>by rw[(qts h).2];decide⟩
abbrev H0:AHeap:=⟨qlf,G0.raw⟩
def Z0:Nat->Option ABlk:=fun g=>rawG.get g
theorem gz0:GZ Z0 G0:=by
 refine ⟨fun g x e=>?_,fun g x e=>e⟩;simp only[G0,lk] at e;split at e
 ·rename_i h;subst h;cases e;refine ⟨by decide,fun ν=>⟨0,0,qhp,129,2,rfl,rfl,by decide,?_⟩⟩;exact qyk (.arr 5 coS) costsL ⟨rfl,fun x _=>⟨trivial,trivial⟩⟩
 ·cases e
theorem fro0:Px.Fro G0 H0:=⟨fun i x h=>by rw[(qts h).2];rfl,fun i x h=>by rw[(qts h).2];trivial,fun i x h=>by rw[(qts h).1];decide,gz0⟩
end Go.Proofs.YtnmkfdgnenkhpaaDoor
