/-
  A part of the proof: what pieces of the program give; conditions: those of each theorem.
-/
import Derived.Test.YtdeacfammdjajaaDoorQ1
import Derived.Test.YtdeacfammdjajaaDoorQ0
import Derived.Test.YtdeacfammdjajaaDoorHD
set_option linter.unusedVariables false
set_option linter.unusedSimpArgs false
namespace Go.Proofs.YtdeacfammdjajaaDoor
open Go.Px Go.Ax
set_option maxRecDepth 100000
attribute [local irreducible] Go.Px.sy Go.Px.syE
theorem q5k (a b:Int) (R:List Item->PS->Prop):sA CNan Tryd.f81 (QC ctCmp (a,b,())) R [.code (qae Tryd.f81)] (entry [iI,iI] (a,b,())):=by
 refine (q6x a b _ _).mpr ⟨trivial,trivial,?_⟩;have out:∀ n,cmF a b=n->ctCmp.out (a,b,())=[SV.i n]:=λ b e=>congrArg (λ b=>[SV.i b]) e
 refine qag (λ h=>?_) (λ h=>qag (λ h2=>?_) (λ h2=>?_))
 ·exact QC.flat (out _ (by unfold cmF;rw[if_pos (of_decide_eq_true h)])) rfl rfl
 ·exact QC.flat (out _ (by unfold cmF;rw[if_neg (of_decide_eq_false h),if_pos (of_decide_eq_true h2)])) rfl rfl
 ·exact QC.flat (out _ (by unfold cmF;rw[if_neg (of_decide_eq_false h),if_neg (of_decide_eq_false h2)])) rfl rfl
theorem q0c:Held Tryd.prog G0 81 ctCmp:=Held.run cxNan (fn:=Tryd.f81) rfl rfl ⟨by decide,by decide⟩ λ ⟨a,b,_⟩ _=>q5k a b _
def ctBet:Ctr:=⟨[liS,liS],λ _=>True,λ x=>[.bool (betB x.1 x.2.1)],λ _=>[]⟩
theorem q77:CxOK Tryd.prog tt G0 [(81,.inl ctCmp),(80,.inl ctOr)]:=(cx0.k q4b (fn:=Tryd.f80)).k q0c (fn:=Tryd.f81)
theorem q45 (k n c o k' n' c' o':Int) (R:List Item->PS->Prop):sA [(81,.inl ctCmp),(80,.inl ctOr)] Tryd.f77 (QC ctBet ((k,n,c,o),(k',n',c',o'),())) R [.code (qae Tryd.f77)] (entry [liS,liS] ((k,n,c,o),(k',n',c',o'),())):=by
 refine (q6o (k,n,c,o) (k',n',c',o') _ _).mpr ?_;have out:∀ b,betB (k,n,c,o) (k',n',c',o')=b->ctBet.out ((k,n,c,o),(k',n',c',o'),())=[SV.bool b]:=λ b e=>congrArg (λ b=>[SV.bool b]) e
 refine qag (λ h=>⟨rfl,?_⟩) (λ h=>qag (λ h2=>?_) (λ h2=>?_))
 ·have h:n=0:=of_decide_eq_true h;refine qag (λ h2=>?_) (λ h2=>⟨rfl,?_⟩)
  ·have h2:0<n:=of_decide_eq_true h2;exact QC.flat (out _ (by unfold betB;rw[if_pos (.inl h)];simp[h2])) rfl rfl
  ·have h2:¬ 0<n:=of_decide_eq_false h2;exact QC.flat (out _ (by unfold betB;rw[if_pos (.inl h)];simp[h2])) rfl rfl
 ·have h2:decide (n'=0)=true:=h2;have h2:n'=0:=of_decide_eq_true h2;refine qag (λ h3=>?_) (λ h3=>⟨rfl,?_⟩)
  ·have h3:0<n:=of_decide_eq_true h3;exact QC.flat (out _ (by unfold betB;rw[if_pos (.inr h2)];simp[h3])) rfl rfl
  ·have h3:¬ 0<n:=of_decide_eq_false h3;exact QC.flat (out _ (by unfold betB;rw[if_pos (.inr h2)];simp[h3])) rfl rfl
 ·have h:¬ n=0:=of_decide_eq_false h;have h2:decide (n'=0)=false:=h2;have h2:¬ n'=0:=of_decide_eq_false h2;have hz:¬ (n=0\/n'=0):=by omega
  refine qag (λ h3=>⟨trivial,trivial,Nat.le_refl 2,(show (2:Nat)<1000000 by decide),?_⟩) (λ h3=>qag (λ h4=>?_) (λ h4=>?_))
  ·have h3:¬ (c=c'/\o=o'):=by
    intro e;rw[e.1,e.2] at h3;simp at h3
   have ev:orF (winL iI 0 2 (((List.replicate 2 iI.dflt).set 0 (cmF c c')).set 1 (cmF o o')))=orF [cmF c c',cmF o o']:=rfl;refine QC.flat (out _ ?_) rfl rfl
   show betB (k,n,c,o) (k',n',c',o')=decide (orF (winL iI 0 2 (((List.replicate 2 iI.dflt).set 0 (cmF c c')).set 1 (cmF o o')))<0)
   rw[ev];unfold betB;simp only[if_neg hz];by_cases hc:c=c'
   ·have ho:o≠o':=λ e=>h3 ⟨hc,e⟩
    rw[if_neg (by simpa using hc),if_pos ho];refine decide_eq_decide.2 ?_;have e1:cmF c c'=0:=by unfold cmF;rw[if_neg (by omega),if_neg (by omega)]
    rw[orF,if_neg (by simpa using e1)];unfold cmF;simp only[orF];split
    ·simp;omega
    ·split
     ·simp;omega
     ·omega
   ·rw[if_pos hc];refine decide_eq_decide.2 ?_;unfold cmF;simp only[orF];split
    ·simp;omega
    ·split
     ·simp;omega
     ·omega
  ·have h3:c=c'/\o=o':=by simpa using h3
   have h4:k≠k':=of_decide_eq_true h4;exact QC.flat (out _ (by unfold betB;simp only[if_neg hz];rw[if_neg (by simpa using h3.1),if_neg (by simpa using h3.2),if_pos h4])) rfl rfl
  ·have h3:c=c'/\o=o':=by simpa using h3
   have h4:¬ k≠k':=of_decide_eq_false h4;exact QC.flat (out _ (by unfold betB;simp only[if_neg hz];rw[if_neg (by simpa using h3.1),if_neg (by simpa using h3.2),if_neg h4])) rfl rfl
theorem qru:Held Tryd.prog G0 77 ctBet:=Held.run q77 (fn:=Tryd.f77) rfl rfl ⟨by decide,by decide⟩ λ ⟨⟨k,n,c,o⟩,⟨k',n',c',o'⟩,_⟩ _=>q45 k n c o k' n' c' o' _
def mdK (k:Int) (l:List SyT):OpT:=(k,(gtY l 0).2.1,(l.length:Int),if k=3 then (gtY l 0).2.2 else 0,if k=2\/k=4 then l.map λ s=>s.2.2 else [])
def isK (k:Int) (l:List SyT) (n:Nat):Prop:=∀ j,j<n->canB k (gtY l j)=true/\(k=1\/k=2->(gtY l j).2.1=(gtY l 0).2.1+j)/\(k=3->(gtY l j).2.2=(gtY l 0).2.2)
theorem qhy {k:Int} {s:SyT} (hk:k=1\/k=2) (h:canB k s=true):s.1=true:=by
 unfold canB at h;rcases hk with e | e
 ·subst e;rw[if_pos rfl] at h;simp at h;exact h.1
 ·subst e;rw[if_neg (by decide),if_pos rfl] at h;exact h
theorem q70 (s:SyT) (r:List SyT) (j:Nat):gtY (s::r) (j+1)=gtY r j:=by
 simp[gt]
theorem q48 (s:SyT) (r:List SyT):gtY (s::r) 0=s:=by
 simp[gt]
section
variable {m:Int} (hm:m<16777216)
include hm
theorem q16 {k:Int}:∀ {l:List SyT},(∀ s∈l,sOK m s=true)->isK k l (fitN k l)
 | [],_=>λ j h=>by rw[fitN] at h;omega
 | s::r,hr=>by
  have ih:=q16 (k:=k) (l:=r) λ x hx=>hr x (by simp[hx])
  have hs:=hr s (by simp);intro j hj;rw[fitN] at hj;by_cases hc:canB k s=true
  ·rw[if_pos hc] at hj;rcases j with _ | j
   ·rw[q48];exact ⟨hc,λ _=>by simp,λ _=>rfl⟩
   ·rw[q70,q48];by_cases hg:goK k s (gtY r 0)=true
    ·rw[if_pos hg] at hj;obtain ⟨h1,h2,h3⟩:=ih j (by omega);refine ⟨h1,λ hk=>?_,λ hk=>?_⟩
     ·have b:=qu1 hs (qhy hk hc);unfold goK at hg;rw[if_pos hk,decide_eq_true_eq,IntWalk.i64_in _ (by omega)] at hg;rw[h2 hk,hg];omega
     ·unfold goK at hg;rw[if_neg (by omega),if_pos hk,decide_eq_true_eq] at hg;rw[h3 hk,hg]
    ·rw[if_neg hg] at hj;omega
  ·rw[if_neg hc] at hj;omega
theorem q4v {k:Int} {l:List SyT} (hk:kOK k) (hr:∀ s∈l,sOK m s=true) (hi:isK k l l.length):qa8 k.toNat (mdK k l)=l:=by
 have key:∀ (el:Nat->SyT),(∀ j,j<l.length->el j=gtY l j)->gen el l.length 0=l:=λ el h=>by
  refine List.ext_getElem? λ j=>?_
  by_cases hj:j<l.length
  ·rw[qwt _ _ _ _ (by omega),Nat.zero_add,h j hj,List.getElem?_eq_getElem (by omega),<- qkt (by omega)]
  ·rw[List.getElem?_eq_none (by rw[qni];omega),List.getElem?_eq_none (by omega)]
 have dat:∀ j,j<l.length->gtB (l.map λ s=>s.2.2) j=(gtY l j).2.2:=λ j hj=>by
  rw[q13 (by rw[List.length_map];omega),List.getElem_map,<- qkt (by omega)]
 have ext3:∀ (s:SyT) (x:Bool) (y z:Int),s.1=x->s.2.1=y->s.2.2=z->(x,y,z)=s:=λ s x y z h1 h2 h3=>by subst h1;subst h2;subst h3;rfl
 have ok:∀ j,j<l.length->sOK m (gtY l j)=true:=λ j hj=>by rw[qkt hj];exact hr _ (List.getElem_mem hj)
 have at':k=1\/k=2->∀ j,j<l.length->(gtY l j).1=true/\IntKind.i64.wrap ((gtY l 0).2.1+(j:Int))=(gtY l j).2.1:=λ hk j hj=>by
  have h:=hi j hj;have o:=qhy hk h.1;have b:=qu1 (ok j hj) o;have e:=h.2.1 hk;have h0:=hi 0 (by omega);have b0:=qu1 (ok 0 (by omega)) (qhy hk h0.1);exact ⟨o,by rw[IntWalk.i64_in _ (by omega),e]⟩
 have lit:¬ (k=1\/k=2)->∀ j,j<l.length->(gtY l j).1=false/\(gtY l j).2.1=0:=λ hk j hj=>by
  have h:=(hi j hj).1;unfold canB at h;rw[if_neg (by omega),if_neg (by omega)] at h;have o:(gtY l j).1=false:=by simpa using h
  exact ⟨o,q7j (ok j hj) o⟩
 rcases (show k=1\/k=2\/k=3\/k=4 by unfold kOK at hk;omega) with e | e | e | e
 ·subst e;have c:cntO 1 (mdK 1 l)=l.length:=by show ((l.length:Int)).toNat=_;omega
  show gen _ (cntO 1 _) 0=_
  rw[c];refine key _ λ j hj=>?_
  obtain ⟨o,w⟩:=at' (.inl rfl) j hj;have h:=(hi j hj).1;unfold canB at h;rw[if_pos rfl] at h;simp at h;exact ext3 _ _ _ _ o w.symm h.2
 ·subst e;have c:cntO 2 (mdK 2 l)=l.length:=by show (l.map λ s=>s.2.2).length=_;rw[List.length_map]
  show gen _ (cntO 2 _) 0=_
  rw[c];refine key _ λ j hj=>?_
  obtain ⟨o,w⟩:=at' (.inr rfl) j hj;exact ext3 _ _ _ _ o w.symm (dat j hj).symm
 ·subst e;have c:cntO 3 (mdK 3 l)=l.length:=by show ((l.length:Int)).toNat=_;omega
  show gen _ (cntO 3 _) 0=_
  rw[c];refine key _ λ j hj=>?_
  obtain ⟨o,w⟩:=lit (by decide) j hj;exact ext3 _ _ _ _ o w ((hi j hj).2.2 rfl)
 ·subst e;have c:cntO 4 (mdK 4 l)=l.length:=by show (l.map λ s=>s.2.2).length=_;rw[List.length_map]
  show gen _ (cntO 4 _) 0=_
  rw[c];refine key _ λ j hj=>?_
  obtain ⟨o,w⟩:=lit (by decide) j hj;exact ext3 _ _ _ _ o w (dat j hj).symm
theorem qv5 {k:Int} {l:List SyT} (hk:kOK k) (hr:∀ s∈l,sOK m s=true) (hi:isK k l l.length) (h1:1<=l.length) (hl:l.length<=65536):isRB (mdK k l) m=true:=by
 have ok:∀ j,j<l.length->sOK m (gtY l j)=true:=λ j hj=>by rw[qkt hj];exact hr _ (List.getElem_mem hj)
 have part:k=1\/k=2->qcu (gtY l 0).2.1 l.length m=true:=λ hk=>by
  have h0:=hi 0 (by omega);have b0:=qu1 (ok 0 (by omega)) (qhy hk h0.1);have h9:=hi (l.length-1) (by omega);have b9:=qu1 (ok (l.length-1) (by omega)) (qhy hk h9.1);have e:=h9.2.1 hk;have w:IntKind.i64.wrap (m-(l.length:Int))=m-l.length:=IntWalk.i64_in _ (by omega);unfold qcu;rw[w];simp only[Bool.and_eq_true,decide_eq_true_eq];omega
 have lens:decide (1<=(mdK k l).2.2.1)=true/\decide ((mdK k l).2.2.1<=65536)=true:=by
  show decide (1<=(l.length:Int))=true/\decide ((l.length:Int)<=65536)=true
  simp only[decide_eq_true_eq];omega
 have lit:¬ (k=1\/k=2)->(gtY l 0).2.1=0:=λ hk=>by
  have h:=(hi 0 (by omega)).1;unfold canB at h;rw[if_neg (by omega),if_neg (by omega)] at h;have o:(gtY l 0).1=false:=by simpa using h
  exact q7j (ok 0 (by omega)) o
 unfold isRB;rw[lens.1,lens.2];unfold mdK kR;rcases (show k=1\/k=2\/k=3\/k=4 by unfold kOK at hk;omega) with e | e | e | e
 ·subst e;simp[rB,part (.inl rfl)]
 ·subst e;simp[rB,part (.inr rfl)]
 ·subst e;simp[rB,lit (by decide)]
 ·subst e;simp[rB,lit (by decide)]
end
theorem qzi {k:Int} {l:List SyT} (hk:kOK k) (hl:l.length<=65536):cN k.toNat (mdK k l)=hdC k+eaC k*(l.length:Int):=by
 rcases (show k=1\/k=2\/k=3\/k=4 by unfold kOK at hk;omega) with e | e | e | e
 ·subst e;show (4:Int)=hdC 1+eaC 1*_;simp[hdC,eaC]
 ·subst e
  show IntKind.i64.wrap (4+(l.length:Int))=_
  rw[IntWalk.i64_in _ (by omega)];simp[hdC,eaC]
 ·subst e;show (4:Int)=hdC 3+eaC 3*_;simp[hdC,eaC]
 ·subst e
  show IntKind.i64.wrap (2+(l.length:Int))=_
  rw[IntWalk.i64_in _ (by omega)];simp[hdC,eaC]
def cst (l:List SyT):Int:=(bst l).2.2.1
def oct (l:List SyT):Int:=(bst l).2.2.2
theorem eaN (k:Int) (n:Nat):0<=eaC k*(n:Int)/\eaC k*(n:Int)<=n:=by
 unfold eaC;split
 ·omega
 ·omega
theorem q2l {l:List SyT} (hl:l.length<=65536) (h0:l≠[]):kOK (bst l).1/\∃ n:Nat,(bst l).2.1=(n:Int)/\1<=n/\n<=fitN (bst l).1 l/\(∀ k,kOK k->∀ m:Nat,1<=m->m<=fitN k l->keyL (bst l).1 n l<=keyL k m l)/\ cst l=hdC (bst l).1+eaC (bst l).1*(n:Int)+cst (l.drop n)/\oct l=1+oct (l.drop n):=by
 rcases (qrl l hl).2 with ⟨h,_⟩ | ⟨_,hk,n,h1,h2,h3,h4,h5,h6⟩
 ·exact absurd h h0
 refine ⟨hk,n,h1,h2,h3,h5,?_⟩;have hd:(l.drop n).length<=65536:=by rw[List.length_drop];omega
 have hb:=qr9 (l.drop n) hd;have hf:=qfo (bst l).1 l;unfold keyT keyL wB at h4;unfold boL at hb h6;unfold cst oct;have e1:=eaN (bst l).1 n;generalize eaC (bst l).1*(n:Int)=e at *;generalize (bst (l.drop n))=b at *;rw[List.length_drop] at hb;omega
def chF:Nat->List SyT->List OpT
 | 0,_=>[]
 | f+1,l=>if l=[] then [] else mdK (bst l).1 (l.take (bst l).2.1.toNat)::chF f (l.drop (bst l).2.1.toNat)
def chL (l:List SyT):List OpT:=chF l.length l
theorem qzr {k:Int} {l:List SyT} {n q:Nat} (hq:n<=q) (h:isK k l q):isK k (l.take n) n:=λ j hj=>by
 have e:∀ j,j<n->gtY (l.take n) j=gtY l j:=λ j hj=>by simp[gt,hj]
 rw[e j hj,e 0 (by omega)];exact h j (by omega)
theorem ch_ok {m:Int} (hm:m<16777216):∀ (f:Nat) (l:List SyT),l.length<=f->l.length<=65536->(∀ s∈l,sOK m s=true) ->
  symF (chF f l)=l/\(∀ x∈chF f l,isRB x m=true)/\qz9 (chF f l)=cst l/\((chF f l).length:Int)=oct l:=by
 intro f
 induction f with
 | zero=>
  intro l hf hl hr;have e:l=[]:=List.eq_nil_of_length_eq_zero (by omega);subst e;exact ⟨rfl,(λ x hx=>by cases hx),rfl,rfl⟩
 | succ f ih=>
  intro l hf hl hr;by_cases h0:l=[]
  ·subst h0;exact ⟨rfl,(λ x hx=>by cases hx),rfl,rfl⟩
  ·obtain ⟨hb,q,q1,q2,q3,q4,q5,q6⟩:=q2l hl h0;have hq:=qfo (bst l).1 l;have e:chF (f+1) l=mdK (bst l).1 (l.take q)::chF f (l.drop q):=by rw[chF,if_neg h0,q1,Int.toNat_natCast]
   rw[e];have tl:(l.take q).length=q:=by rw[List.length_take];omega
   have dl:(l.drop q).length=l.length-q:=List.length_drop ..;obtain ⟨i1,i2,i3,i4⟩:=ih (l.drop q) (by omega) (by omega) λ s hs=>hr s (List.mem_of_mem_drop hs)
   have tr:∀ s∈l.take q,sOK m s=true:=λ s hs=>hr s (List.mem_of_mem_take hs)
   have ti:isK (bst l).1 (l.take q) (l.take q).length:=by rw[tl];exact qzr q3 (q16 hm hr)
   refine ⟨?_,λ x hx=>?_,?_,?_⟩
   ·rw[symF,i1]
    show qa8 (bst l).1.toNat _++_=_
    rw[q4v hm hb tr ti,List.take_append_drop]
   ·rcases List.mem_cons.1 hx with h | h
    ·subst h;exact qv5 hm hb tr ti (by omega) (by omega)
    ·exact i2 x h
   ·rw[qz9,i3]
    show cN (bst l).1.toNat _+_=_
    rw[qzi hb (by omega),q5,tl]
   ·rw[List.length_cons,q6];omega
open Go.IntKind(i64 u32 u8)
def CBe:CV:=[(78,.inl ctCan),(79,.inl ctGoe),(77,.inl ctBet)]
theorem cxBe:CxOK Tryd.prog tt G0 CBe:=((cx0.k qru (fn:=Tryd.f77)).k qz0 (fn:=Tryd.f79)).k q0i (fn:=Tryd.f78)
def q35 (k:Int) (l:List SyT) (g:LiT):Prop:=kOK k/\1<=l.length/\(g.2.1=0\/2<=l.length)
def begL (k:Int) (l:List SyT) (w:Int × Int) (g:LiT):LiT:=begF k (gtY l 0) (gtY l 1) w g
def boB (w:Int × Int) (g:LiT):Prop:=(0<=w.1/\w.1<16777216/\0<=w.2/\w.2<16777216)/\0<=g.2.1/\g.2.1<16777216/\0<=g.2.2.1/\g.2.2.1<16777216
def ctBg:Ctr:=⟨[iI,.sl syS,suS,liS],λ x=>q35 x.1 x.2.1 x.2.2.2.1/\boB x.2.2.1 x.2.2.2.1,λ x=>[.agg [.i (begL x.1 x.2.1 x.2.2.1 x.2.2.2.1).1,.i (begL x.1 x.2.1 x.2.2.1 x.2.2.2.1).2.1,.i (begL x.1 x.2.1 x.2.2.1 x.2.2.2.1).2.2.1,.i (begL x.1 x.2.1 x.2.2.1 x.2.2.2.1).2.2.2]],λ _=>[]⟩
def qpw (k:Int) (l:List SyT):Prop:=kOK k/\1<=l.length/\l.length<16777216
def ctMk:Ctr:=⟨[iI,.sl syS],λ x=>qpw x.1 x.2.1,λ x=>mdV (mdK x.1 x.2.1),λ _=>[]⟩
set_option maxRecDepth 100000
def ql5 (k:Int) (w:Int × Int) (g:LiT):List (Nat × LB):=[(6,.var [.i w.1,.i w.2]),(7,.var [.i g.1,.i g.2.1,.i g.2.2.1,.i g.2.2.2]),(8,.var [.i k,.i 1,.i (i64.wrap (i64.wrap (w.1+(gt (iI.pair iI) costsL k.toNat).1)+(gt (iI.pair iI) costsL k.toNat).2)),.i (i64.wrap (w.2+(1:Int)))]),(9,.var [.i (gt (iI.pair iI) costsL k.toNat).1,.i (gt (iI.pair iI) costsL k.toNat).2]),(10,.var [.i k,.i 1,.i (i64.wrap (i64.wrap (w.1+(gt (iI.pair iI) costsL k.toNat).1)+(gt (iI.pair iI) costsL k.toNat).2)),.i (i64.wrap (w.2+(1:Int)))])]
theorem q63 (k:Int) (l:List SyT) (w:Int × Int) (g:LiT) (Q:QT) (R:RT):sA CBe Tryd.f76 Q R [.code (qae Tryd.f76)] (entry [iI,.sl syS,suS,liS] (k,l,w,g,())) =
  ((0:Int)<=0/\(0:Int)<(l.length:Int)/\ctCan.pre (k,(gtY l (0)),())/\bc (!canB k (gtY l (0))) (Q [.agg [.i 0,.i 0,.i 0,.i 0]] [(6,.var [.i w.1,.i w.2]),(7,.var [.i g.1,.i g.2.1,.i g.2.2.1,.i g.2.2.2]),(8,.var [.i 0,.i 0,.i 0,.i 0])]) ((0:Int)<=k/\k<(↑(5:Nat):Int)/\bc (decide (g.2.1=(0:Int))) (true=true/\Q [.agg [.i k,.i 1,.i (i64.wrap (i64.wrap (w.1+(gt (iI.pair iI) costsL k.toNat).1)+(gt (iI.pair iI) costsL k.toNat).2)),.i (i64.wrap (w.2+1))]] (ql5 k w g)) ((0:Int)<=0/\(0:Int)<(l.length:Int)/\(0:Int)<=1/\(1:Int)<(l.length:Int)/\ctGoe.pre (k,(gtY l (0)),(gtY l (1)),())/\bc (bif false then true else !goK k (gtY l (0)) (gtY l (1))) (Q [.agg [.i k,.i 1,.i (i64.wrap (i64.wrap (w.1+(gt (iI.pair iI) costsL k.toNat).1)+(gt (iI.pair iI) costsL k.toNat).2)),.i (i64.wrap (w.2+1))]] (ql5 k w g)) (ctBet.pre ((k,(1:Int),i64.wrap (i64.wrap (w.1+(gt (iI.pair iI) costsL k.toNat).1)+(gt (iI.pair iI) costsL k.toNat).2),i64.wrap (w.2+1)),(k,i64.wrap (g.2.1+1),i64.wrap (g.2.2.1+(gt (iI.pair iI) costsL k.toNat).2),g.2.2.2),())/\bc (betB (k,(1:Int),i64.wrap (i64.wrap (w.1+(gt (iI.pair iI) costsL k.toNat).1)+(gt (iI.pair iI) costsL k.toNat).2),i64.wrap (w.2+1)) (k,i64.wrap (g.2.1+1),i64.wrap (g.2.2.1+(gt (iI.pair iI) costsL k.toNat).2),g.2.2.2)) (Q [.agg [.i k,.i 1,.i (i64.wrap (i64.wrap (w.1+(gt (iI.pair iI) costsL k.toNat).1)+(gt (iI.pair iI) costsL k.toNat).2)),.i (i64.wrap (w.2+1))]] [(6,.var [.i w.1,.i w.2]),(7,.var [.i g.1,.i g.2.1,.i g.2.2.1,.i g.2.2.2]),(8,.var [.i k,.i 1,.i (i64.wrap (i64.wrap (w.1+(gt (iI.pair iI) costsL k.toNat).1)+(gt (iI.pair iI) costsL k.toNat).2)),.i (i64.wrap (w.2+1))]),(9,.var [.i (gt (iI.pair iI) costsL k.toNat).1,.i (gt (iI.pair iI) costsL k.toNat).2]),(10,.var [.i k,.i 1,.i (i64.wrap (i64.wrap (w.1+(gt (iI.pair iI) costsL k.toNat).1)+(gt (iI.pair iI) costsL k.toNat).2)),.i (i64.wrap (w.2+1))]),(11,.var [.i k,.i (i64.wrap (g.2.1+1)),.i (i64.wrap (g.2.2.1+(gt (iI.pair iI) costsL k.toNat).2)),.i g.2.2.2])]) (Q [.agg [.i k,.i (i64.wrap (g.2.1+1)),.i (i64.wrap (g.2.2.1+(gt (iI.pair iI) costsL k.toNat).2)),.i g.2.2.2]] [(6,.var [.i w.1,.i w.2]),(7,.var [.i g.1,.i g.2.1,.i g.2.2.1,.i g.2.2.2]),(8,.var [.i k,.i (i64.wrap (g.2.1+1)),.i (i64.wrap (g.2.2.1+(gt (iI.pair iI) costsL k.toNat).2)),.i g.2.2.2]),(9,.var [.i (gt (iI.pair iI) costsL k.toNat).1,.i (gt (iI.pair iI) costsL k.toNat).2]),(10,.var [.i k,.i 1,.i (i64.wrap (i64.wrap (w.1+(gt (iI.pair iI) costsL k.toNat).1)+(gt (iI.pair iI) costsL k.toNat).2)),.i (i64.wrap (w.2+1))]),(11,.var [.i k,.i (i64.wrap (g.2.1+1)),.i (i64.wrap (g.2.2.1+(gt (iI.pair iI) costsL k.toNat).2)),.i g.2.2.2])]))))):=by kernel_rfl
def qon (k:Int) (l:List SyT):List (Nat × LB):=[(4,.var [.i k,.i (gtY l (0)).2.1,.i (l.length:Int),.u 0,.nils]),(5,.var [.i k,.i (gtY l (0)).2.1,.i (l.length:Int),.u 0,.nils])]
theorem q20 (k:Int) (l:List SyT) (Q:QT) (R:RT):sA [] Tryd.f73 Q (λ it S=>R it (qbx [4,5,31,32,33] [4,5,29] S)) [.code (qae Tryd.f73)] (entry [iI,.sl syS] (k,l,())) =
  ((0:Int)<=0/\(0:Int)<(l.length:Int)/\bc (decide (k=(3:Int))) ((0:Int)<=0/\(0:Int)<(l.length:Int)/\Q [.agg [.i k,.i (gtY l (0)).2.1,.i (l.length:Int),.u (gtY l (0)).2.2,.nils]] [(4,.var [.i k,.i (gtY l (0)).2.1,.i (l.length:Int),.u (gtY l (0)).2.2,.nils]),(5,.var [.i k,.i (gtY l (0)).2.1,.i (l.length:Int),.u (gtY l (0)).2.2,.nils])]) (bc (decide (k=(2:Int))) (bc (decide (k=(2:Int))) ((0:Int)<=(l.length:Int)/\(l.length:Int)<=(l.length:Int)/\(l.length:Int)<2 ^ 24/\(↑(1:Nat):Int)*(l.length:Int)<=2 ^ 48/\R (hd Tryd.f73 0) { env:=[(4,.ptr 4 0),(5,.ptr 5 0),(31,.sl syS l),(32,.i (l.length:Int)),(33,.i 0)],blk:=[(4,.var [.i 0,.i 0,.i 0,.u 0,.nils]),(5,.var [.i k,.i (gtY l (0)).2.1,.i (l.length:Int),.u 0,.win true uB 29 0 (l.length:Int).toNat]),(29,.row 5 uB (List.replicate (l.length:Int).toNat uB.dflt))] }) (Q [.agg [.i k,.i (gtY l (0)).2.1,.i (l.length:Int),.u 0,.nils]] (qon k l))) (bc (decide (k=(4:Int))) ((0:Int)<=(l.length:Int)/\(l.length:Int)<=(l.length:Int)/\(l.length:Int)<2 ^ 24/\(↑(1:Nat):Int)*(l.length:Int)<=2 ^ 48/\R (hd Tryd.f73 0) { env:=[(4,.ptr 4 0),(5,.ptr 5 0),(31,.sl syS l),(32,.i (l.length:Int)),(33,.i 0)],blk:=[(4,.var [.i 0,.i 0,.i 0,.u 0,.nils]),(5,.var [.i k,.i (gtY l (0)).2.1,.i (l.length:Int),.u 0,.win true uB 29 0 (l.length:Int).toNat]),(29,.row 5 uB (List.replicate (l.length:Int).toNat uB.dflt))] }) (Q [.agg [.i k,.i (gtY l (0)).2.1,.i (l.length:Int),.u 0,.nils]] (qon k l))))):=by kernel_rfl
theorem qqx (k a:Int) (b:List Int) (l:List SyT) (i:Nat) (Q:QT) (R:RT):sA [] Tryd.f73 Q (λ it S=>R it (qbx [4,5,31,32,33] [4,5,29] S)) (hd Tryd.f73 0) ⟨[(4,.ptr 4 0),(5,.ptr 5 0),(31,.sl syS l),(32,.i l.length),(33,.i (i:Nat))],[(4,.var [.i 0,.i 0,.i 0,.u 0,.nils]),(5,.var [.i k,.i a,.i l.length,.u 0,.win true uB 29 0 b.length]),(29,.row 5 uB b)]⟩ =
  (bc (decide ((i:Int)<(l.length:Int))) ((0:Int)<=(i:Int)/\(i:Int)<(l.length:Int)/\(0:Int)<=(i:Int)/\(i:Int)<(b.length:Int)/\0+(i:Int).toNat<b.length/\R (hd Tryd.f73 0) { env:=[(4,.ptr 4 0),(5,.ptr 5 0),(31,.sl syS l),(32,.i (l.length:Int)),(33,.i (IntKind.i64.wrap ((i:Int)+1)))],blk:=[(4,.var [.i 0,.i 0,.i 0,.u 0,.nils]),(5,.var [.i k,.i a,.i (l.length:Int),.u 0,.win true uB 29 0 b.length]),(29,.row 5 uB (b.set (0+(i:Int).toNat) (gtY l (i:Int).toNat).2.2))] }) (Q [.agg [.i k,.i a,.i (l.length:Int),.u 0,.win true uB 29 0 b.length]] [(4,.var [.i k,.i a,.i (l.length:Int),.u 0,.win true uB 29 0 b.length]),(5,.var [.i k,.i a,.i (l.length:Int),.u 0,.win true uB 29 0 b.length]),(29,.row 5 uB b)])):=by kernel_rfl
theorem q6l (k a:Int) (d:List Int) (l:List SyT) (i:Nat) (Q:QT) (R:RT):sA [] Tryd.f73 Q (λ it S=>R it (qbx [4,5,31,32,33] [4,5,29] S)) (hd Tryd.f73 0) ⟨[(4,.ptr 4 0),(5,.ptr 5 0),(31,.sl syS l),(32,.i l.length),(33,.i (i:Nat))],[(4,.var [.i 0,.i 0,.i 0,.u 0,.nils]),(5,.var [.i k,.i a,.i l.length,.u 0,.sl uB d])]⟩ =
  (bc (decide ((i:Int)<(l.length:Int))) ((0:Int)<=(i:Int)/\(i:Int)<(l.length:Int)/\(0:Int)<=(i:Int)/\(i:Int)<(d.length:Int)/\False) (Q [.agg [.i k,.i a,.i (l.length:Int),.u 0,.sl uB d]] [(4,.var [.i k,.i a,.i (l.length:Int),.u 0,.sl uB d]),(5,.var [.i k,.i a,.i (l.length:Int),.u 0,.sl uB d])])):=by kernel_rfl
theorem q5j {k:Int} (hk:kOK k):gt (iI.pair iI) costsL k.toNat=(hdC k,eaC k):=by
 rcases (show k=1\/k=2\/k=3\/k=4 by unfold kOK at hk;omega) with e | e | e | e <;> subst e <;> rfl
theorem q50 (k:Int) (l:List SyT) (c o gk gn gc go:Int) (hp:q35 k l (gk,gn,gc,go)) (hb:boB (c,o) (gk,gn,gc,go)) (R:List Item->PS->Prop):sA CBe Tryd.f76 (QC ctBg (k,l,(c,o),(gk,gn,gc,go),())) R [.code (qae Tryd.f76)] (entry [iI,.sl syS,suS,liS] (k,l,(c,o),(gk,gn,gc,go),())):=by
 refine (q63 k l (c,o) (gk,gn,gc,go) _ _).mpr ?_;have out:∀ a b d e,begL k l (c,o) (gk,gn,gc,go)=(a,b,d,e)->ctBg.out (k,l,(c,o),(gk,gn,gc,go),())=[SV.agg [.i a,.i b,.i d,.i e]]:=λ a b d e q=>congrArg (λ x:LiT=>[SV.agg [.i x.1,.i x.2.1,.i x.2.2.1,.i x.2.2.2]]) q
 obtain ⟨hk,h1,h2⟩:=hp;obtain ⟨⟨b1,b2,b3,b4⟩,b5,b6,b7,b8⟩:=hb;simp only at b1 b2 b3 b4 b5 b6 b7 b8 h2;have hh:=q7z k;have he:=q76 k;have hk':0<=k/\k<5:=by unfold kOK at hk;omega
 rw[q5j hk];simp only;have w1:IntKind.i64.wrap (c+hdC k)=c+hdC k:=IntWalk.i64_in _ (by omega);have w2:IntKind.i64.wrap (c+hdC k+eaC k)=c+hdC k+eaC k:=IntWalk.i64_in _ (by omega);have w3:IntKind.i64.wrap (o+1)=o+1:=IntWalk.i64_in _ (by omega);have w4:IntKind.i64.wrap (gn+1)=gn+1:=IntWalk.i64_in _ (by omega);have w5:IntKind.i64.wrap (gc+eaC k)=gc+eaC k:=IntWalk.i64_in _ (by omega);rw[w1,w2,w3,w4,w5];refine ⟨by omega,by omega,trivial,qag (λ h=>?_) (λ h=>⟨hk'.1,hk'.2,qag (λ h3=>⟨by trivial,?_⟩) (λ h3=>⟨by omega,by omega,by omega,?_,trivial,qag (λ h4=>?_) (λ h4=>⟨trivial,qag (λ h5=>?_) (λ h5=>?_)⟩)⟩)⟩)⟩
 ·have h:canB k (gtY l 0)=false:=by simpa using h
  exact QC.flat (out _ _ _ _ (by unfold begL begF;rw[if_pos h];rfl)) rfl rfl
 ·have h:¬ canB k (gtY l 0)=false:=by
   have:(!canB k (gtY l 0))=false:=h;simpa using this
  have h3:gn=0:=of_decide_eq_true h3;exact QC.flat (out _ _ _ _ (by unfold begL begF;rw[if_neg h,if_pos (.inl h3)];rfl)) rfl rfl
 ·have h3:¬ gn=0:=of_decide_eq_false h3;omega
 ·have h:¬ canB k (gtY l 0)=false:=by
   have:(!canB k (gtY l 0))=false:=h;simpa using this
  have h4:(!goK k (gtY l 0) (gtY l 1))=true:=h4;have h4:goK k (gtY l 0) (gtY l 1)=false:=by simpa using h4
  exact QC.flat (out _ _ _ _ (by unfold begL begF;rw[if_neg h,if_pos (.inr h4)];rfl)) rfl rfl
 ·have h:¬ canB k (gtY l 0)=false:=by
   have:(!canB k (gtY l 0))=false:=h;simpa using this
  have h3:¬ gn=0:=of_decide_eq_false h3;have h4:(!goK k (gtY l 0) (gtY l 1))=false:=h4;have h4:goK k (gtY l 0) (gtY l 1)=true:=by simpa using h4
  have hz:¬ ((gk,gn,gc,go).2.1=0\/goK k (gtY l 0) (gtY l 1)=false):=by
   rw[h4];intro q;rcases q with q | q
   ·exact h3 q
   ·cases q
  have h5:betB (oneF k (c,o)) (qkj k (gk,gn,gc,go))=true:=h5;exact QC.flat (out _ _ _ _ (by unfold begL begF;rw[if_neg h,if_neg hz,if_pos h5];rfl)) rfl rfl
 ·have h:¬ canB k (gtY l 0)=false:=by
   have:(!canB k (gtY l 0))=false:=h;simpa using this
  have h3:¬ gn=0:=of_decide_eq_false h3;have h4:(!goK k (gtY l 0) (gtY l 1))=false:=h4;have h4:goK k (gtY l 0) (gtY l 1)=true:=by simpa using h4
  have hz:¬ ((gk,gn,gc,go).2.1=0\/goK k (gtY l 0) (gtY l 1)=false):=by
   rw[h4];intro q;rcases q with q | q
   ·exact h3 q
   ·cases q
  have h5:betB (oneF k (c,o)) (qkj k (gk,gn,gc,go))=false:=h5;exact QC.flat (out _ _ _ _ (by unfold begL begF;rw[if_neg h,if_neg hz,if_neg (by rw[h5];decide)];rfl)) rfl rfl
theorem q0k:Held Tryd.prog G0 76 ctBg:=Held.run cxBe (fn:=Tryd.f76) rfl rfl ⟨by decide,by decide⟩ λ ⟨k,l,⟨c,o⟩,⟨gk,gn,gc,go⟩,_⟩ hp=>q50 k l c o gk gn gc go hp.1 hp.2 _
theorem qp3 (k a:Int) (l:List SyT) (hl:l.length<16777216):∀ (n i:Nat) (b:List Int),l.length-i=n->i<=l.length->b.length=l.length->(∀ j,j<i->b[j]?=(l.map λ s=>s.2.2)[j]?) ->
  GD 73 Tryd.f73 (λ rs _=>rs=[.agg [.i k,.i a,.i l.length,.u 0,.sl uB (l.map λ s=>s.2.2)]]) (hd Tryd.f73 0) ⟨[(4,.ptr 4 0),(5,.ptr 5 0),(31,.sl syS l),(32,.i l.length),(33,.i (i:Nat))],[(4,.var [.i 0,.i 0,.i 0,.u 0,.nils]),(5,.var [.i k,.i a,.i l.length,.u 0,.win true uB 29 0 b.length]),(29,.row 5 uB b)]⟩:=by
 intro n
 induction n with
 | zero=>
  intro i b hk hi hb hj;have hi:i=l.length:=by omega
  subst hi;have hbl:b=l.map λ s=>s.2.2:=by
   refine List.ext_getElem? λ j=>?_
   by_cases h:j<l.length
   ·exact hj j h
   ·rw[List.getElem?_eq_none (by omega),List.getElem?_eq_none (by rw[List.length_map];omega)]
  refine Good.frz (i:=29) (e:=uB) (et:=5) (xs:=b) rfl (λ c hc=>?_) ?_
  ·have hc:c∈[0+b.length<=b.length]:=hc;rw[List.mem_singleton] at hc;subst hc;omega
  ·have e:GD 73 Tryd.f73 (λ rs _=>rs=[.agg [.i k,.i a,.i l.length,.u 0,.sl uB (l.map λ s=>s.2.2)]]) (hd Tryd.f73 0) ⟨[(4,.ptr 4 0),(5,.ptr 5 0),(31,.sl syS l),(32,.i l.length),(33,.i (l.length:Nat))],[(4,.var [.i 0,.i 0,.i 0,.u 0,.nils]),(5,.var [.i k,.i a,.i l.length,.u 0,.sl uB (winL uB 0 b.length b)])]⟩:=by
    refine qaw cx0 (q6l k a (winL uB 0 b.length b) l l.length _ _) ?_;rw[decide_eq_false (by omega),bc_f,winA,hbl]
   exact e.only ⟨rfl,rfl,rfl,rfl,rfl,trivial⟩ ⟨rfl,rfl,trivial⟩
 | succ n ih=>
  intro i b hk hi hb hj;have hil:i<l.length:=by omega
  refine qaw cx0 (qqx k a b l i _ _) ?_;rw[decide_eq_true (show (i:Int)<(l.length:Int) by omega),bc_t,Int.toNat_natCast,qkt hil,IntWalk.i64_in ((i:Int)+1) (by omega),Nat.zero_add];refine ⟨by omega,by omega,by omega,by omega,by omega,?_⟩;refine (ih (i+1) (b.set i l[i].2.2) (by omega) (by omega) (by rw[List.length_set];exact hb) (λ j h=>?_)).only ⟨rfl,rfl,rfl,rfl,rfl,trivial⟩ ⟨rfl,?_,rfl,trivial⟩
  ·rw[List.getElem?_set];by_cases hji:i=j
   ·subst hji;rw[if_pos rfl,if_pos (by omega),List.getElem?_map,List.getElem?_eq_getElem hil];rfl
   ·rw[if_neg hji];exact hj j (by omega)
  ·rw[List.length_set];rfl
theorem qv3 (k:Int) (l:List SyT) (hp:qpw k l):GD 73 Tryd.f73 (QC ctMk (k,l,())) [.code (qae Tryd.f73)] (entry [iI,.sl syS] (k,l,())):=by
 obtain ⟨hk,h0,h1⟩:=hp;have dat:k=2\/k=4->GD 73 Tryd.f73 (QC ctMk (k,l,())) (hd Tryd.f73 0) ⟨[(4,.ptr 4 0),(5,.ptr 5 0),(31,.sl syS l),(32,.i l.length),(33,.i ((0:Nat):Int))],[(4,.var [.i 0,.i 0,.i 0,.u 0,.nils]),(5,.var [.i k,.i (gtY l 0).2.1,.i l.length,.u 0,.win true uB 29 0 (List.replicate (l.length:Int).toNat (0:Int)).length]),(29,.row 5 uB (List.replicate (l.length:Int).toNat (0:Int)))]⟩:=λ hk2=>by
  refine (qp3 k (gtY l 0).2.1 l h1 _ 0 (List.replicate (l.length:Int).toNat 0) rfl (by omega) (by rw[List.length_replicate,Int.toNat_natCast]) (λ j h=>by omega)).post λ rs blk hq=>QC.flat ?_ rfl (by rw[hq];rfl)
  rw[hq]
  show mdV (mdK k l)=_
  unfold mdK;rw[if_neg (show ¬ k=3 by omega),if_pos hk2];rfl
 have room:(0:Int)<=(l.length:Int)/\(l.length:Int)<=(l.length:Int)/\(l.length:Int)<(2:Int) ^ (24:Nat)/\((1:Nat):Int)*(l.length:Int)<=(2:Int) ^ (48:Nat):=by
  refine ⟨by omega,by omega,?_,?_⟩
  ·show (l.length:Int)<16777216
   omega
  ·show (1:Int)*(l.length:Int)<=281474976710656
   omega
 refine qaw cx0 (q20 k l _ _) ⟨by omega,by omega,qag (λ h=>⟨by omega,by omega,?_⟩) (λ h=>qag (λ h2=>?_) (λ h2=>qag (λ h3=>?_) (λ h3=>?_)))⟩
 ·have h:=of_decide_eq_true h;subst h;refine QC.mt ?_ rfl
  show MtL _ (mdV (mdK 3 l)) _
  exact ⟨_,_,rfl,⟨_,rfl,_,_,rfl,rfl,_,_,rfl,rfl,_,_,rfl,rfl,_,_,rfl,rfl,_,_,rfl,.inr ⟨rfl,rfl⟩,rfl⟩,rfl⟩
 ·have h2':=of_decide_eq_true h2;rw[h2,bc_t];refine ⟨room.1,room.2.1,room.2.2.1,room.2.2.2,(dat (.inl h2')).only ⟨rfl,rfl,rfl,rfl,rfl,trivial⟩ ⟨rfl,?_,rfl,trivial⟩⟩;rw[List.length_replicate];rfl
 ·have h3':=of_decide_eq_true h3;refine ⟨room.1,room.2.1,room.2.2.1,room.2.2.2,(dat (.inr h3')).only ⟨rfl,rfl,rfl,rfl,rfl,trivial⟩ ⟨rfl,?_,rfl,trivial⟩⟩;rw[List.length_replicate];rfl
 ·have h:=of_decide_eq_false h;have h2:=of_decide_eq_false h2;have h3:=of_decide_eq_false h3;unfold kOK at hk;have hk1:k=1:=by omega
  subst hk1;refine QC.mt ?_ rfl
  show MtL _ (mdV (mdK 1 l)) _
  exact ⟨_,_,rfl,⟨_,rfl,_,_,rfl,rfl,_,_,rfl,rfl,_,_,rfl,rfl,_,_,rfl,rfl,_,_,rfl,.inr ⟨rfl,rfl⟩,rfl⟩,rfl⟩
theorem qp4:Held Tryd.prog G0 73 ctMk:=Held.of cx0 (fn:=Tryd.f73) rfl rfl ⟨by decide,by decide⟩ λ ⟨k,l,_⟩ hp=>qv3 k l hp
def CBs:CV:=[(76,.inl ctBg),(77,.inl ctBet)]
theorem cxBs:CxOK Tryd.prog tt G0 CBs:=(cx0.k qru (fn:=Tryd.f77)).k q0k (fn:=Tryd.f76)
abbrev gtL (l:List LiT) (i:Nat):LiT:=gt liS l i
set_option maxRecDepth 100000
theorem vc_bs (l:List SyT) (Q:QT) (R:RT):sA CBs Tryd.f72 Q (λ it S=>R it (qbx [0,3,4,5,6] [4,10] S)) [.code (qae Tryd.f72)] (entry [.sl syS] (l,())) =
  ((0:Int)<=i64.wrap ((l.length:Int)+1)/\i64.wrap ((l.length:Int)+1)<=i64.wrap ((l.length:Int)+1)/\i64.wrap ((l.length:Int)+1)<2 ^ 24/\(↑(32:Nat):Int)*i64.wrap ((l.length:Int)+1)<=2 ^ 48/\R (hd Tryd.f72 0) { env:=[(0,.sl syS l),(3,.win true liS 10 0 (i64.wrap ((l.length:Int)+1)).toNat),(4,.ptr 4 0),(5,.i (i64.wrap ((l.length:Int)-1)))],blk:=[(4,.var [.arr (5:Nat) liS (Sh.arr (5:Nat) liS).dflt]),(10,.row 130 liS (List.replicate (i64.wrap ((l.length:Int)+1)).toNat liS.dflt))] }):=by kernel_rfl
theorem q1f (l:List SyT) (b bg:List LiT) (i:Int) (Q:QT) (R:RT):sA CBs Tryd.f72 Q (λ it S=>R it (qbx [0,3,4,5,6] [4,10] S)) (hd Tryd.f72 0) ⟨[(0,.sl syS l),(3,.win true liS 10 0 b.length),(4,.ptr 4 0),(5,.i i)],[(4,.var [.arr 5 liS bg]),(10,.row 130 liS b)]⟩ =
  (bc (decide ((0:Int)<=i)) (R (hd Tryd.f72 1) { env:=[(0,.sl syS l),(3,.win true liS 10 0 b.length),(4,.ptr 4 0),(5,.i i),(6,.i 1)],blk:=[(4,.var [.arr (5:Nat) liS bg]),(10,.row 130 liS b)] }) (Q [.win true liS 10 0 b.length] [(4,.var [.arr (5:Nat) liS bg]),(10,.row 130 liS b)])):=by kernel_rfl
theorem q1g (l:List SyT) (b bg:List LiT) (i k:Int) (Q:QT) (R:RT):sA CBs Tryd.f72 Q (λ it S=>R it (qbx [0,3,4,5,6] [4,10] S)) (hd Tryd.f72 1) ⟨[(0,.sl syS l),(3,.win true liS 10 0 b.length),(4,.ptr 4 0),(5,.i i),(6,.i k)],[(4,.var [.arr 5 liS bg]),(10,.row 130 liS b)]⟩ =
  (bc (decide (k<=4)) ((0:Int)<=i/\i<=(l.length:Int)/\(0:Int)<=i64.wrap (i+1)/\i64.wrap (i+1)<(b.length:Int)/\0+(i64.wrap (i+1)).toNat<b.length/\(0:Int)<=k/\k<(↑(5:Nat):Int)/\k.toNat<5/\ctBg.pre (k,List.drop i.toNat l,((gtL b (0+(i64.wrap (i+1)).toNat)).2.2),(gtL bg k.toNat),())/\(0:Int)<=k/\k<(↑(5:Nat):Int)/\k.toNat<5/\(0:Int)<=k/\k<(↑(5:Nat):Int)/\k.toNat<5/\(0:Int)<=i/\i<(b.length:Int)/\0+i.toNat<b.length/\ctBet.pre ((gtL (bg.set k.toNat (begL k (List.drop i.toNat l) ((gtL b (0+(i64.wrap (i+1)).toNat)).2.2) (gtL bg k.toNat))) k.toNat),(gtL b (0+i.toNat)),())/\bc (betB (gtL (bg.set k.toNat (begL k (List.drop i.toNat l) ((gtL b (0+(i64.wrap (i+1)).toNat)).2.2) (gtL bg k.toNat))) k.toNat) (gtL b (0+i.toNat))) ((0:Int)<=k/\k<(↑(5:Nat):Int)/\k.toNat<5/\(0:Int)<=i/\i<(b.length:Int)/\0+i.toNat<b.length/\R (hd Tryd.f72 1) { env:=[(0,.sl syS l),(3,.win true liS 10 0 b.length),(4,.ptr 4 0),(5,.i i),(6,.i (i64.wrap (k+1)))],blk:=[(4,.var [.arr (5:Nat) liS (bg.set k.toNat (begL k (List.drop i.toNat l) ((gtL b (0+(i64.wrap (i+1)).toNat)).2.2) (gtL bg k.toNat)))]),(10,.row 130 liS (b.set (0+i.toNat) (gtL (bg.set k.toNat (begL k (List.drop i.toNat l) ((gtL b (0+(i64.wrap (i+1)).toNat)).2.2) (gtL bg k.toNat))) k.toNat)))] }) (R (hd Tryd.f72 1) { env:=[(0,.sl syS l),(3,.win true liS 10 0 b.length),(4,.ptr 4 0),(5,.i i),(6,.i (i64.wrap (k+1)))],blk:=[(4,.var [.arr (5:Nat) liS (bg.set k.toNat (begL k (List.drop i.toNat l) ((gtL b (0+(i64.wrap (i+1)).toNat)).2.2) (gtL bg k.toNat)))]),(10,.row 130 liS b)] })) (R (hd Tryd.f72 0) { env:=[(0,.sl syS l),(3,.win true liS 10 0 b.length),(4,.ptr 4 0),(5,.i (i64.wrap (i-1))),(6,.i k)],blk:=[(4,.var [.arr (5:Nat) liS bg]),(10,.row 130 liS b)] })):=by kernel_rfl
def bT (l:List SyT) (m:Nat):List LiT:=(List.range (l.length+1)).map λ j=>if m<=j then bst (l.drop j) else zLi
theorem qmi (l:List SyT) (m:Nat):(bT l m).length=l.length+1:=by simp[bT]
theorem q8m (l:List SyT) (i:Nat) (hi:i<=l.length):bT l i=(bT l (i+1)).set i (bst (l.drop i)):=by
 refine List.ext_getElem? λ j=>?_
 rw[List.getElem?_set];by_cases h:i=j
 ·subst h;rw[if_pos rfl,if_pos (by rw[qmi];omega)];simp[bT,show i<l.length+1 by omega]
 ·rw[if_neg h];unfold bT;by_cases hj:j<l.length+1
  ·simp only[List.getElem?_map,List.getElem?_range hj,Option.map_some];by_cases h2:i<=j
   ·rw[if_pos h2,if_pos (by omega)]
   ·rw[if_neg h2,if_neg (by omega)]
  ·simp[show l.length+1<=j by omega]
theorem bT_z (l:List SyT) (i:Nat) (hi:i<=l.length):(bT l (i+1)).set i zLi=bT l (i+1):=by
 refine List.ext_getElem? λ j=>?_
 rw[List.getElem?_set];by_cases h:i=j
 ·subst h;rw[if_pos rfl,if_pos (by rw[qmi];omega)];simp[bT,show i<l.length+1 by omega,show ¬ (i+1<=i) by omega]
 ·rw[if_neg h]
theorem qxf (l:List SyT) (m j:Nat) (hj:j<=l.length) (hm:m<=j):gtL (bT l m) j=bst (l.drop j):=by
 show ((bT l m)[j]?).getD _=_
 simp[bT,show j<l.length+1 by omega,hm]
theorem q8n (l:List SyT):List.replicate (l.length+1) (liS.dflt:LiT)=bT l l.length:=by
 refine List.ext_getElem? λ j=>?_
 by_cases hj:j<l.length+1
 ·simp only[bT,List.getElem?_replicate,List.getElem?_map,List.getElem?_range hj,Option.map_some,if_pos hj];by_cases h:l.length<=j
  ·rw[if_pos h,List.drop_eq_nil_of_le h];rfl
  ·rw[if_neg h];rfl
 ·simp[bT,show l.length+1<=j by omega]
def bgL (r:List SyT):List LiT:=[zLi,beg r 1,beg r 2,beg r 3,beg r 4]
def qch (l:List SyT):List LiT:=bT l 0
def q34 (l:List SyT):Prop:=l.length<=65536
def ctBs:Ctr:=⟨[.sl syS],λ x=>q34 x.1,λ x=>[.win true liS 0 0 (qch x.1).length],λ x=>[.row 130 liS (qch x.1)]⟩
section
variable (l:List SyT) (hl:l.length<=65536)
abbrev BQ:List SV->List (Nat × LB)->Prop:=QC ctBs (l,())
abbrev bsO (b bg:List LiT) (i:Int):PS:=⟨[(0,.sl syS l),(3,.win true liS 10 0 b.length),(4,.ptr 4 0),(5,.i i)],[(4,.var [.arr 5 liS bg]),(10,.row 130 liS b)]⟩
abbrev bsI (b bg:List LiT) (i k:Int):PS:=⟨[(0,.sl syS l),(3,.win true liS 10 0 b.length),(4,.ptr 4 0),(5,.i i),(6,.i k)],[(4,.var [.arr 5 liS bg]),(10,.row 130 liS b)]⟩
include hl
theorem qnu (i:Nat) (hi:i<l.length) (k:Nat) (hk:1<=k/\k<=4) (b bg:List LiT) (hb:b.length=l.length+1) (hbg:bg.length=5) (c:LiT) (h1:gtL b (i+1)=bst (l.drop (i+1))) (hg:gtL bg k=beg (l.drop (i+1)) k)
  (nx:GD 72 Tryd.f72 (BQ l) (hd Tryd.f72 1) (bsI l (b.set i (upd c (beg (l.drop i) k))) (bg.set k (beg (l.drop i) k)) i ((k+1:Nat):Int))) :
  GD 72 Tryd.f72 (BQ l) (hd Tryd.f72 1) (bsI l (b.set i c) bg i (k:Nat)):=by
 have kk:kOK (k:Int):=by unfold kOK;omega
 have hd:l.drop i=l[i]::l.drop (i+1):=List.drop_eq_getElem_cons hi;have rl:(l.drop (i+1)).length=l.length-(i+1):=List.length_drop ..;have ra:=qrl (l.drop (i+1)) (by omega);have rb:=qr9 (l.drop (i+1)) (by omega);have eb:begL k (l.drop i) (bst (l.drop (i+1))).2.2 (beg (l.drop (i+1)) k)=beg (l.drop i) k:=by
  rw[hd,qsb];unfold begL;rw[q48,q70 l[i] (l.drop (i+1)) 0]
 refine qaw cxBs (q1g l (b.set i c) bg i k _ _) ?_;have w1:IntKind.i64.wrap ((i:Int)+1)=((i+1:Nat):Int):=by rw[IntWalk.i64_in _ (by omega)];omega
 have w2:IntKind.i64.wrap ((k:Int)+1)=((k+1:Nat):Int):=by rw[IntWalk.i64_in _ (by omega)];omega
 have g1:gtL (b.set i c) (0+(i+1))=bst (l.drop (i+1)):=by
  rw[<- h1,Nat.zero_add]
  show ((b.set i c)[i+1]?).getD _=(b[i+1]?).getD _
  rw[List.getElem?_set_ne (by omega)]
 have g2:∀ x,gtL (bg.set k x) k=x:=λ x=>by
  show ((bg.set k x)[k]?).getD _=_
  rw[List.getElem?_set_self (by omega)];rfl
 have g3:gtL (b.set i c) (0+i)=c:=by
  rw[Nat.zero_add]
  show ((b.set i c)[i]?).getD _=_
  rw[List.getElem?_set_self (by omega)];rfl
 rw[w1,w2,decide_eq_true (show (k:Int)<=4 by omega),bc_t];simp only[Int.toNat_natCast];rw[g1,hg,eb,g2,g3];have pl:(l.drop i).length=l.length-i:=List.length_drop ..;have pre1:q35 k (l.drop i) (beg (l.drop (i+1)) k):=by
  refine ⟨kk,by omega,?_⟩;rcases ra.1 k kk with h | ⟨_,n,n1,n2,n3,_⟩
  ·left;rw[h.2];rfl
  ·right;have:=qfo k (l.drop (i+1));omega
 have pre2:boB (bst (l.drop (i+1))).2.2 (beg (l.drop (i+1)) k):=by
  unfold boL at rb;refine ⟨by omega,?_⟩;rcases ra.1 k kk with h | ⟨_,n,n1,n2,n3,_,_,h⟩
  ·rw[h.2];exact (show 0<=(0:Int)/\(0:Int)<16777216/\0<=(0:Int)/\(0:Int)<16777216 by decide)
  ·have:=qfo k (l.drop (i+1));unfold boL at h;omega
 have bl:(b.set i c).length=l.length+1:=by rw[List.length_set];exact hb
 refine ⟨by omega,by omega,by omega,by omega,by omega,by omega,by omega,by omega,⟨pre1,pre2⟩,by omega,by omega,by omega,by omega,by omega,by omega,by omega,by omega,by omega,trivial,qag (λ h=>?_) (λ h=>?_)⟩
 ·have eu:upd c (beg (l.drop i) k)=beg (l.drop i) k:=by unfold upd;rw[if_pos h]
  rw[eu] at nx;refine ⟨by omega,by omega,by omega,by omega,by omega,by omega,?_⟩;rw[Nat.zero_add,List.set_set];exact nx.only ⟨rfl,by simp only[List.length_set];rfl,rfl,rfl,rfl,trivial⟩ ⟨rfl,rfl,trivial⟩
 ·have eu:upd c (beg (l.drop i) k)=c:=by unfold upd;rw[if_neg (by rw[h];decide)]
  rw[eu] at nx;exact nx.only ⟨rfl,rfl,rfl,rfl,rfl,trivial⟩ ⟨rfl,rfl,trivial⟩
theorem q5y:∀ (n:Nat),n<=l.length->GD 72 Tryd.f72 (BQ l) (hd Tryd.f72 0) (bsO l (bT l n) (bgL (l.drop n)) ((n:Int)-1)):=by
 intro n
 induction n with
 | zero=>
  intro hn;refine qaw cxBs (q1f l (bT l 0) (bgL (l.drop 0)) (((0:Nat):Int)-1) _ _) ?_;rw[decide_eq_false (by omega),bc_f];exact q1q (e:=liS) (et:=130) (a:=10) (xs:=qch l) rfl rfl rfl rfl rfl
 | succ n ih=>
  intro hn;have e:((n+1:Nat):Int)-1=(n:Int):=by omega
  rw[e];refine qaw cxBs (q1f l (bT l (n+1)) (bgL (l.drop (n+1))) n _ _) ?_;rw[decide_eq_true (show (0:Int)<=(n:Int) by omega),bc_t];have fin:GD 72 Tryd.f72 (BQ l) (hd Tryd.f72 1) (bsI l (bT l n) (bgL (l.drop n)) n 5):=by
   refine qaw cxBs (q1g l (bT l n) (bgL (l.drop n)) n 5 _ _) ?_;rw[decide_eq_false (by omega),bc_f,IntWalk.i64_in ((n:Int)-1) (by omega)];exact (ih (by omega)).only ⟨rfl,rfl,rfl,rfl,trivial⟩ ⟨rfl,rfl,trivial⟩
  have hb:=qmi l (n+1);have h1:=qxf l (n+1) (n+1) (by omega) (Nat.le_refl _);rw[q8m l n (by omega)] at fin;have hd:l.drop n=l[n]::l.drop (n+1):=List.drop_eq_getElem_cons hn;have up:bst (l.drop n)=upd (upd (upd (upd zLi (beg (l.drop n) 1)) (beg (l.drop n) 2)) (beg (l.drop n) 3)) (beg (l.drop n) 4):=by rw[hd];rfl
  rw[up] at fin;have s4:=qnu l hl n hn 4 ⟨by omega,by omega⟩ (bT l (n+1)) [zLi,beg (l.drop n) 1,beg (l.drop n) 2,beg (l.drop n) 3,beg (l.drop (n+1)) 4] hb rfl _ h1 rfl (fin.only ⟨rfl,by simp only[List.length_set];rfl,rfl,rfl,rfl,trivial⟩ ⟨rfl,rfl,trivial⟩);have s3:=qnu l hl n hn 3 ⟨by omega,by omega⟩ (bT l (n+1)) [zLi,beg (l.drop n) 1,beg (l.drop n) 2,beg (l.drop (n+1)) 3,beg (l.drop (n+1)) 4] hb rfl _ h1 rfl (s4.only ⟨rfl,by simp only[List.length_set];rfl,rfl,rfl,rfl,trivial⟩ ⟨rfl,rfl,trivial⟩);have s2:=qnu l hl n hn 2 ⟨by omega,by omega⟩ (bT l (n+1)) [zLi,beg (l.drop n) 1,beg (l.drop (n+1)) 2,beg (l.drop (n+1)) 3,beg (l.drop (n+1)) 4] hb rfl _ h1 rfl (s3.only ⟨rfl,by simp only[List.length_set];rfl,rfl,rfl,rfl,trivial⟩ ⟨rfl,rfl,trivial⟩);have s1:=qnu l hl n hn 1 ⟨by omega,by omega⟩ (bT l (n+1)) [zLi,beg (l.drop (n+1)) 1,beg (l.drop (n+1)) 2,beg (l.drop (n+1)) 3,beg (l.drop (n+1)) 4] hb rfl zLi h1 rfl (s2.only ⟨rfl,by simp only[List.length_set];rfl,rfl,rfl,rfl,trivial⟩ ⟨rfl,rfl,trivial⟩);rw[bT_z l n (by omega)] at s1;exact s1.only ⟨rfl,rfl,rfl,rfl,rfl,trivial⟩ ⟨rfl,rfl,trivial⟩
theorem q8k:GD 72 Tryd.f72 (BQ l) [.code (qae Tryd.f72)] (entry [.sl syS] (l,())):=by
 refine qaw cxBs (vc_bs l _ _) ?_;rw[IntWalk.i64_in ((l.length:Int)+1) (by omega),IntWalk.i64_in ((l.length:Int)-1) (by omega)];have e:((l.length:Int)+1).toNat=l.length+1:=by omega
 rw[e];refine ⟨by omega,by omega,?_,?_,?_⟩
 ·show (l.length:Int)+1<16777216
  omega
 ·show (32:Int)*((l.length:Int)+1)<=281474976710656
  omega
 ·have h:=q5y l hl l.length (Nat.le_refl _);rw[List.drop_length] at h;rw[q8n l];exact h.only ⟨rfl,by rw[qmi];rfl,rfl,rfl,trivial⟩ ⟨rfl,rfl,trivial⟩
end
theorem q5z:Held Tryd.prog G0 72 ctBs:=Held.of cxBs (fn:=Tryd.f72) rfl rfl ⟨by decide,by decide⟩ λ ⟨l,_⟩ hp=>q8k l hp
def CCh:CV:=[(72,.inl ctBs),(73,.inl ctMk)]
theorem cxCh:CxOK Tryd.prog tt G0 CCh:=(cx0.k qp4 (fn:=Tryd.f73)).k q5z (fn:=Tryd.f72)
set_option maxRecDepth 100000
theorem vc_ch (l:List SyT) (Q:QT) (R:RT):sA CCh Tryd.f66 Q (λ it S=>R it (qbx [0,3,4,5] [3,8,14,1032768] S)) [.code (qae Tryd.f66)] (entry [.sl syS] (l,())) =
  (ctBs.pre (l,())/\(0:Int)<=0/\(0:Int)<(↑(qch l).length:Int)/\0+0<(qch l).length/\(0:Int)<=0/\(0:Int)<=(gtL (qch l) (0+0)).2.2.2/\(gtL (qch l) (0+0)).2.2.2<2 ^ 24/\(↑(56:Nat):Int)*(gtL (qch l) (0+0)).2.2.2<=2 ^ 48/\R (hd Tryd.f66 0) { env:=[(0,.sl syS l),(3,.win true liS 1032768 0 (qch l).length),(4,.win true opS 14 0 (0:Nat)),(5,.i 0)],blk:=[(14,.row 55 opS (List.replicate (0) opS.dflt)),(1032768,.row 130 liS (qch l))] }):=by kernel_rfl
theorem q60 (l:List SyT) (b:List LiT) (o:List OpT) (a:Nat) (Q:QT) (R:RT):sA CCh Tryd.f66 Q (λ it S=>R it (qbx [0,3,4,5] [14,46,1032768] S)) (hd Tryd.f66 0) ⟨[(0,.sl syS l),(3,.win true liS 1032768 0 b.length),(4,.win true opS 14 0 o.length),(5,.i (a:Nat))],[(14,.row 55 opS o),(1032768,.row 130 liS b)]⟩ =
  (bc (decide ((a:Int)<(l.length:Int))) ((0:Int)<=(a:Int)/\(a:Int)<(b.length:Int)/\0+(a:Int).toNat<b.length/\(0:Int)<=(a:Int)/\(a:Int)<(b.length:Int)/\0+(a:Int).toNat<b.length/\(0:Int)<=(a:Int)/\(a:Int)<i64.wrap ((a:Int)+(gtL b (0+(a:Int).toNat)).2.1)/\i64.wrap ((a:Int)+(gtL b (0+(a:Int).toNat)).2.1)<=i64.wrap ((a:Int)+(gtL b (0+(a:Int).toNat)).2.1)/\i64.wrap ((a:Int)+(gtL b (0+(a:Int).toNat)).2.1)<=(l.length:Int)/\i64.wrap ((a:Int)+(gtL b (0+(a:Int).toNat)).2.1)<1099511627776/\ctMk.pre ((gtL b (0+(a:Int).toNat)).1,Px.part l (some (a:Int)) (some (i64.wrap ((a:Int)+(gtL b (0+(a:Int).toNat)).2.1))),())/\0+1<=([(mdK (gtL b (0+(a:Int).toNat)).1 (Px.part l (some (a:Int)) (some (i64.wrap ((a:Int)+(gtL b (0+(a:Int).toNat)).2.1)))))]:List opS.D).length/\o.length=o.length/\(0:Nat)=(0:Nat)/\o.length+(([(mdK (gtL b (0+(a:Int).toNat)).1 (Px.part l (some (a:Int)) (some (i64.wrap ((a:Int)+(gtL b (0+(a:Int).toNat)).2.1)))))]:List opS.D)).length<2 ^ 30/\(56:Nat)<=2 ^ 10/\(0:Int)<=(a:Int)/\(a:Int)<(b.length:Int)/\0+(a:Int).toNat<b.length/\R (hd Tryd.f66 0) { env:=[(0,.sl syS l),(3,.win true liS 1032768 0 b.length),(4,.win true opS 46 0 (o.length+(([(mdK (gtL b (0+(a:Int).toNat)).1 (Px.part l (some (a:Int)) (some (i64.wrap ((a:Int)+(gtL b (0+(a:Int).toNat)).2.1)))))]:List opS.D)).length)),(5,.i (i64.wrap ((a:Int)+(gtL b (0+(a:Int).toNat)).2.1)))],blk:=[(46,.row 55 opS (o++([(mdK (gtL b (0+(a:Int).toNat)).1 (Px.part l (some (a:Int)) (some (i64.wrap ((a:Int)+(gtL b (0+(a:Int).toNat)).2.1)))))]:List opS.D))),(1032768,.row 130 liS b)] }) (Q [.win true opS 14 0 o.length] [(14,.row 55 opS o),(1032768,.row 130 liS b)])):=by kernel_rfl
theorem q61 (l:List SyT) (b:List LiT) (o:List OpT) (a:Nat) (Q:QT) (R:RT):sA CCh Tryd.f66 Q (λ it S=>R it (qbx [0,3,4,5] [14,1032768] S)) (hd Tryd.f66 0) ⟨[(0,.sl syS l),(4,.sl opS o),(5,.i (a:Nat))],[]⟩ =
  (bc (decide ((a:Int)<(l.length:Int))) False (Q [.sl opS o] [])):=by kernel_rfl
def ctCh:Ctr:=⟨[.sl syS],λ x=>q34 x.1,λ x=>[.sl opS (chL x.1)],λ _=>[]⟩
theorem q38 (l:List SyT) (a n:Nat):Px.part l (some (a:Int)) (some ((a+n:Nat):Int))=(l.drop a).take n:=by
 simp only[Px.part,Int.toNat_natCast]
 first
  | (rw[List.drop_take];congr 1;omega)
  | (rw[List.take_drop];done)
  | simp[List.drop_take]
section
variable (l:List SyT) (hl:l.length<=65536)
include hl
theorem q2j (o:List OpT) (a:Nat) (ha:a=l.length):GD 66 Tryd.f66 (OQ o) (hd Tryd.f66 0) ⟨[(0,.sl syS l),(3,.win true liS 1032768 0 (qch l).length),(4,.win true opS 14 0 o.length),(5,.i (a:Nat))],[(14,.row 55 opS o),(1032768,.row 130 liS (qch l))]⟩:=by
 have _:=hl;subst ha;refine Good.frz (i:=14) (e:=opS) (et:=55) (xs:=o) rfl (λ c hc=>?_) ?_
 ·have hc:c∈[0+o.length<=o.length]:=hc;rw[List.mem_singleton] at hc;subst hc;omega
 ·have e:GD 66 Tryd.f66 (OQ o) (hd Tryd.f66 0) ⟨[(0,.sl syS l),(4,.sl opS (winL opS 0 o.length o)),(5,.i (l.length:Nat))],[]⟩:=by
   refine qaw cxCh (q61 l [] (winL opS 0 o.length o) l.length _ _) ?_;rw[decide_eq_false (by omega),bc_f,winA]
  exact e.only ⟨rfl,rfl,rfl,trivial⟩ trivial
theorem q5s:∀ (f a:Nat) (o:List OpT),l.length-a<=f->a<=l.length->o.length<=a ->
  GD 66 Tryd.f66 (OQ (o++chF f (l.drop a))) (hd Tryd.f66 0) ⟨[(0,.sl syS l),(3,.win true liS 1032768 0 (qch l).length),(4,.win true opS 14 0 o.length),(5,.i (a:Nat))],[(14,.row 55 opS o),(1032768,.row 130 liS (qch l))]⟩:=by
 intro f
 induction f with
 | zero=>
  intro a o hf ha ho;rw[chF,List.append_nil];exact q2j l hl o a (by omega)
 | succ f ih=>
  intro a o hf ha ho;by_cases he:a=l.length
  ·rw[chF,if_pos (List.drop_eq_nil_of_le (by omega)),List.append_nil];exact q2j l hl o a he
  ·have dl:(l.drop a).length=l.length-a:=List.length_drop ..;have hne:l.drop a≠[]:=λ h=>by rw[h] at dl;simp at dl;omega
   obtain ⟨hb,n,n1,n2,n3,_⟩:=q2l (l:=l.drop a) (by omega) hne;have hfit:=qfo (bst (l.drop a)).1 (l.drop a);have bl:(qch l).length=l.length+1:=qmi l 0;have nx:=ih (a+n) (o++[mdK (bst (l.drop a)).1 ((l.drop a).take n)]) (by omega) (by omega) (by rw[List.length_append,List.length_singleton];omega);have ec:chF (f+1) (l.drop a)=mdK (bst (l.drop a)).1 ((l.drop a).take n)::chF f (l.drop (a+n)):=by rw[chF,if_neg hne,n1,Int.toNat_natCast,List.drop_drop]
   rw[ec];rw[List.append_assoc,List.singleton_append] at nx;refine qaw cxCh (q60 l (qch l) o a _ _) ?_;have g1:gtL (qch l) (0+a)=bst (l.drop a):=by rw[Nat.zero_add];exact qxf l 0 a ha (Nat.zero_le _)
   have w:IntKind.i64.wrap ((a:Int)+(n:Int))=((a+n:Nat):Int):=by rw[IntWalk.i64_in _ (by omega)];omega
   rw[decide_eq_true (show (a:Int)<(l.length:Int) by omega),bc_t,Int.toNat_natCast,g1,n1,w,q38 l a n];have tl:((l.drop a).take n).length=n:=by rw[List.length_take];omega
   refine ⟨by omega,by omega,by omega,by omega,by omega,by omega,by omega,by omega,by omega,by omega,by omega,(show qpw (bst (l.drop a)).1 ((l.drop a).take n) from ⟨hb,by omega,by omega⟩),Nat.le_refl 1,rfl,rfl,?_,by decide,by omega,by omega,by omega,?_⟩
   ·show o.length+1<2 ^ 30
    omega
   ·exact nx.onlyR [(14,46)] rfl ⟨rfl,rfl,by rw[List.length_append];rfl,rfl,trivial⟩ ⟨rfl,rfl,trivial⟩
theorem q8j:GD 66 Tryd.f66 (QC ctCh (l,())) [.code (qae Tryd.f66)] (entry [.sl syS] (l,())):=by
 refine qaw cxCh (vc_ch l _ _) ?_;have bl:(qch l).length=l.length+1:=qmi l 0;have g0:gtL (qch l) (0+0)=bst l:=by
  have:=qxf l 0 0 (Nat.zero_le _) (Nat.le_refl _);rw[List.drop_zero] at this;exact this
 have hb:=qr9 l hl;unfold boL at hb;rw[g0];refine ⟨hl,by omega,by omega,by omega,by omega,hb.2.2.1,?_,?_,?_⟩
 ·show (bst l).2.2.2<16777216
  omega
 ·show (56:Int)*(bst l).2.2.2<=281474976710656
  omega
 ·have h:=q5s l hl l.length 0 [] (by omega) (Nat.zero_le _) (Nat.zero_le _);rw[List.drop_zero,List.nil_append] at h;exact (h.post λ rs blk hq=>QC.flat (by rw[hq];rfl) rfl (by rw[hq];rfl)).only ⟨rfl,rfl,rfl,rfl,trivial⟩ ⟨rfl,rfl,trivial⟩
end
theorem q5t:Held Tryd.prog G0 66 ctCh:=Held.of cxCh (fn:=Tryd.f66) rfl rfl ⟨by decide,by decide⟩ λ ⟨l,_⟩ hp=>q8j l hp
def poV (l:List SyT) (m:Int):PaT × Int:=if 4096<(chL l).length then ((false,0,0,[]),2) else ((false,m,l.length,chL l),0)
def ctPo:Ctr:=⟨[.sl syS,iI],λ x=>q34 x.1,λ x=>[paV (poV x.1 x.2.1).1,.i (poV x.1 x.2.1).2],λ _=>[]⟩
def cpV (l:List SyT) (m:Int):PaT × Int:=if (ofV l m).2=60 then ((false,0,0,[]),60) else poV l m
def ctCp:Ctr:=⟨[.sl syS,iI],λ x=>List.length x.1<16777216,λ x=>[paV (cpV x.1 x.2.1).1,.i (cpV x.1 x.2.1).2],λ _=>[]⟩
def CPo:CV:=[(66,.inl ctCh)]
theorem cxPo:CxOK Tryd.prog tt G0 CPo:=cx0.k q5t (fn:=Tryd.f66)
set_option maxRecDepth 100000
theorem vc_po (l:List SyT) (m:Int) (Q:QT) (R:RT):sA CPo Tryd.f50 Q R [.code (qae Tryd.f50)] (entry [.sl syS,iI] (l,m,())) =
  (ctCh.pre (l,())/\bc (decide ((4096:Int)<(↑(chL l).length:Int))) (Q [.agg [.bool false,.i 0,.i 0,.nils],.i 2] [(4,.var [.bool false,.i 0,.i 0,.nils])]) (Q [.agg [.bool false,.i m,.i (l.length:Int),.sl opS (chL l)],.i 0] [(4,.var [.bool false,.i m,.i (l.length:Int),.sl opS (chL l)])])):=by kernel_rfl
theorem vc_cp (l:List SyT) (m:Int) (Q:QT) (R:RT):sA [(49,.inl ctOfA),(50,.inl ctPo)] Tryd.f31 Q R [.code (qae Tryd.f31)] (entry [.sl syS,iI] (l,m,())) =
  (ctOfA.pre (l,m,())/\bc (decide ((ofV l m).2=(60:Int))) (Q [.agg [.bool false,.i 0,.i 0,.nils],.i (ofV l m).2] [(4,.var [.bool false,.i 0,.i 0,.nils]),(6,.var [.bool (ofV l m).1.1,.i (ofV l m).1.2.1,.i (ofV l m).1.2.2.1,.sl opS (ofV l m).1.2.2.2])]) (ctPo.pre (l,m,())/\Q [.agg [.bool (poV l m).1.1,.i (poV l m).1.2.1,.i (poV l m).1.2.2.1,.sl opS (poV l m).1.2.2.2],.i (poV l m).2] [(4,.var [.bool (poV l m).1.1,.i (poV l m).1.2.1,.i (poV l m).1.2.2.1,.sl opS (poV l m).1.2.2.2]),(6,.var [.bool (ofV l m).1.1,.i (ofV l m).1.2.1,.i (ofV l m).1.2.2.1,.sl opS (ofV l m).1.2.2.2])])):=by kernel_rfl
theorem qmo (z:Int):MtL (λ _=>none) [paV (false,0,0,[]),.i z] [.agg [.bool false,.i 0,.i 0,.nils],.i z]:=
 ⟨_,_,rfl,⟨_,rfl,_,_,rfl,rfl,_,_,rfl,rfl,_,_,rfl,rfl,_,_,rfl,.inr ⟨rfl,rfl⟩,rfl⟩,_,_,rfl,rfl,rfl⟩
theorem q7l (l:List SyT) (m:Int) (hp:l.length<=65536) (R:List Item->PS->Prop):sA CPo Tryd.f50 (QC ctPo (l,m,())) R [.code (qae Tryd.f50)] (entry [.sl syS,iI] (l,m,())):=by
 refine (vc_po l m _ _).mpr ⟨hp,qag (λ h=>?_) (λ h=>?_)⟩
 ·have h:(4096:Int)<((chL l).length:Int):=of_decide_eq_true h;have hv:poV l m=((false,0,0,[]),2):=by unfold poV;rw[if_pos (by omega)]
  exact QC.mt (by show MtL _ [paV (poV l m).1,.i (poV l m).2] _;rw[hv];exact qmo _) rfl
 ·have h:¬ (4096:Int)<((chL l).length:Int):=of_decide_eq_false h;have hv:poV l m=(((false,m,(l.length:Int),chL l):PaT),(0:Int)):=by unfold poV;rw[if_neg (by omega)]
  exact QC.flat (by show [paV (poV l m).1,.i (poV l m).2]=_;rw[hv];rfl) rfl rfl
theorem q36:Held Tryd.prog G0 50 ctPo:=Held.run cxPo (fn:=Tryd.f50) rfl rfl ⟨by decide,by decide⟩ λ ⟨l,m,_⟩ hp=>q7l l m hp _
theorem q7t {l:List SyT} {m:Int} (h:(ofV l m).2≠60):szB m=true/\szB l.length=true/\l.all (sOK m)=true:=by
 unfold ofV at h;split at h
 ·assumption
 ·exact absurd rfl h
theorem q4j {l:List SyT} {m:Int} (h:szB m=true/\szB l.length=true/\l.all (sOK m)=true):(ofV l m).2≠60:=by
 unfold ofV;rw[if_pos h];split
 ·exact (show (2:Int)≠60 by decide)
 ·exact (show (0:Int)≠60 by decide)
theorem q1i {n:Int} (h:szB n=true):0<=n/\n<=65536:=by simpa [szB] using h
theorem cxCp:CxOK Tryd.prog tt G0 [(49,.inl ctOfA),(50,.inl ctPo)]:=(cx0.k q36 (fn:=Tryd.f50)).k qzb (fn:=Tryd.f49)
theorem q8d (l:List SyT) (m:Int) (hp:l.length<16777216) (R:List Item->PS->Prop):sA [(49,.inl ctOfA),(50,.inl ctPo)] Tryd.f31 (QC ctCp (l,m,())) R [.code (qae Tryd.f31)] (entry [.sl syS,iI] (l,m,())):=by
 refine (vc_cp l m _ _).mpr ⟨hp,qag (λ h=>?_) (λ h=>?_)⟩
 ·have h:(ofV l m).2=60:=of_decide_eq_true h;have hv:cpV l m=((false,0,0,[]),60):=by unfold cpV;rw[if_pos h]
  rw[h];exact QC.mt (by show MtL _ [paV (cpV l m).1,.i (cpV l m).2] _;rw[hv];exact qmo _) rfl
 ·have h:¬ (ofV l m).2=60:=of_decide_eq_false h;have hz:=q1i (q7t h).2.1;have hv:cpV l m=poV l m:=by unfold cpV;rw[if_neg h]
  exact ⟨(show l.length<=65536 by omega),QC.flat (by show [paV (cpV l m).1,.i (cpV l m).2]=_;rw[hv];rfl) rfl rfl⟩
theorem qw8:Held Tryd.prog G0 31 ctCp:=Held.run cxCp (fn:=Tryd.f31) rfl rfl ⟨by decide,by decide⟩ λ ⟨l,m,_⟩ hp=>q8d l m hp _
end Go.Proofs.YtdeacfammdjajaaDoor
namespace Go.Proofs.YtdeacfammdjajaaDoor.Im
open Go.Px Go.Ax
open Go.IntKind(i64 u32 u8)
set_option maxRecDepth 100000
abbrev seS:Sh:=.pair .str (.pair (.int .i64) (.pair (.int .i64) .bool))
abbrev rwS:Sh:=.pair (.int .u8) (.pair (.int .u8) (.pair (.int .u8) .bool))
set_option maxRecDepth 100000
theorem q20 (l:List (rwS.D)) (n:Int) (Q:QT) (R:RT):sA [] Tryd.f8 Q R [.code (qae Tryd.f8)] (entry [.sl rwS,iI] (l,n,())) =
  (R (hd Tryd.f8 0) { env:=[(0,.sl ((Sh.int u8).pair ((Sh.int u8).pair ((Sh.int u8).pair Sh.bool))) l),(1,.i n),(4,.nils),(5,.win true Sh.str (10:Nat) (0:Nat) (8:Nat)),(6,.win true (Sh.str.pair ((Sh.int i64).pair ((Sh.int i64).pair Sh.bool))) (11:Nat) (0:Nat) (0:Nat)),(7,.i 0),(8,.i 0),(10,.win true Sh.str (10:Nat) (0:Nat) (8:Nat)),(11,.win true (Sh.str.pair ((Sh.int i64).pair ((Sh.int i64).pair Sh.bool))) (11:Nat) (0:Nat) (0:Nat))],blk:=[(10,.row 9 Sh.str (((((((((List.replicate (8:Nat) Sh.str.dflt).set (0:Nat) (ByteArray.mk #[(98:UInt8),(111:UInt8),(111:UInt8),(116:UInt8)]).data.toList).set (1:Nat) (ByteArray.mk #[(97:UInt8),(112:UInt8),(112:UInt8)]).data.toList).set (2:Nat) (ByteArray.mk #[(68:UInt8),(97:UInt8),(116:UInt8),(97:UInt8)]).data.toList).set (3:Nat) (ByteArray.mk #[(120:UInt8),(49:UInt8)]).data.toList).set (4:Nat) (ByteArray.mk #[(116:UInt8),(97:UInt8),(105:UInt8),(108:UInt8)]).data.toList).set (5:Nat) (ByteArray.mk #[(99:UInt8),(102:UInt8),(103:UInt8)]).data.toList).set (6:Nat) (ByteArray.mk #[(65:UInt8)]).data.toList).set (7:Nat) (ByteArray.mk #[(116:UInt8),(119:UInt8),(101:UInt8),(108:UInt8),(118:UInt8),(101:UInt8),(108:UInt8),(101:UInt8),(116:UInt8),(116:UInt8),(101:UInt8),(114:UInt8)]).data.toList)),(11,.row 59 (Sh.str.pair ((Sh.int i64).pair ((Sh.int i64).pair Sh.bool))) (List.replicate (0:Nat) (Sh.str.pair ((Sh.int i64).pair ((Sh.int i64).pair Sh.bool))).dflt))] }):=by kernel_rfl
theorem qqx (l:List (rwS.D)) (n at_ i:Int) (nm:List (List UInt8)) (o:List seS.D) (Q:QT) (R:RT):sA [] Tryd.f8 Q (λ it S=>R it (qbx [0,1,5,6,7,8] [10,11,90] S)) (hd Tryd.f8 0) ⟨[(0,.sl rwS l),(1,.i n),(5,.win true .str 10 0 nm.length),(6,.win true seS 11 0 o.length),(7,.i at_),(8,.i i)],[(10,.row 9 .str nm),(11,.row 59 seS o)]⟩ =
  (bc (decide (i<(l.length:Int))) (bc (bif true then decide (i<8) else false) ((0:Int)<=i/\i<(nm.length:Int)/\(0:Nat)+i.toNat<nm.length/\(0:Int)<=i/\i<(l.length:Int)/\(8:Int)≠0/\(0:Int)<=i/\i<(l.length:Int)/\bc (gt ((Sh.int u8).pair ((Sh.int u8).pair ((Sh.int u8).pair Sh.bool))) l i.toNat).2.2.2 ((4:Int)≠0/\(0:Int)<=i/\i<(l.length:Int)/\(8:Int)≠0/\bc (decide (n<i64.wrap (i64.wrap (i64.wrap (i64.wrap ((i64.wrap (i64.wrap (at_+i64.wrap (Int.tmod (gt ((Sh.int u8).pair ((Sh.int u8).pair ((Sh.int u8).pair Sh.bool))) l i.toNat).1 (8:Int)))+3)).tdiv (4:Int))*(4:Int))+4)+i64.wrap ((4:Int)*i64.wrap (Int.tmod (gt ((Sh.int u8).pair ((Sh.int u8).pair ((Sh.int u8).pair Sh.bool))) l i.toNat).2.1 (8:Int)))))) (Q [.win true (Sh.str.pair ((Sh.int i64).pair ((Sh.int i64).pair Sh.bool))) (11:Nat) (0:Nat) o.length] [(9,.var [.str (gt Sh.str nm ((0:Nat)+i.toNat)),.i (i64.wrap (i64.wrap ((i64.wrap (i64.wrap (at_+i64.wrap (Int.tmod (gt ((Sh.int u8).pair ((Sh.int u8).pair ((Sh.int u8).pair Sh.bool))) l i.toNat).1 (8:Int)))+3)).tdiv (4:Int))*(4:Int))),.i (i64.wrap (i64.wrap (i64.wrap (i64.wrap ((i64.wrap (i64.wrap (at_+i64.wrap (Int.tmod (gt ((Sh.int u8).pair ((Sh.int u8).pair ((Sh.int u8).pair Sh.bool))) l i.toNat).1 (8:Int)))+3)).tdiv (4:Int))*(4:Int))+4)+i64.wrap ((4:Int)*i64.wrap (Int.tmod (gt ((Sh.int u8).pair ((Sh.int u8).pair ((Sh.int u8).pair Sh.bool))) l i.toNat).2.1 (8:Int))))),.bool (gt ((Sh.int u8).pair ((Sh.int u8).pair ((Sh.int u8).pair Sh.bool))) l i.toNat).2.2.2]),(10,.row 9 Sh.str nm),(11,.row 59 (Sh.str.pair ((Sh.int i64).pair ((Sh.int i64).pair Sh.bool))) o)]) ((0:Nat)+1<=((List.replicate (1:Nat) (Sh.str.pair ((Sh.int i64).pair ((Sh.int i64).pair Sh.bool))).dflt).set (0:Nat) (gt Sh.str nm ((0:Nat)+i.toNat),i64.wrap (i64.wrap ((i64.wrap (i64.wrap (at_+i64.wrap (Int.tmod (gt ((Sh.int u8).pair ((Sh.int u8).pair ((Sh.int u8).pair Sh.bool))) l i.toNat).1 (8:Int)))+3)).tdiv (4:Int))*(4:Int)),i64.wrap (i64.wrap (i64.wrap (i64.wrap ((i64.wrap (i64.wrap (at_+i64.wrap (Int.tmod (gt ((Sh.int u8).pair ((Sh.int u8).pair ((Sh.int u8).pair Sh.bool))) l i.toNat).1 (8:Int)))+3)).tdiv (4:Int))*(4:Int))+4)+i64.wrap ((4:Int)*i64.wrap (Int.tmod (gt ((Sh.int u8).pair ((Sh.int u8).pair ((Sh.int u8).pair Sh.bool))) l i.toNat).2.1 (8:Int)))),(gt ((Sh.int u8).pair ((Sh.int u8).pair ((Sh.int u8).pair Sh.bool))) l i.toNat).2.2.2)).length/\o.length=o.length/\(0:Nat)=(0:Nat)/\o.length+(winL seS 0 1 ((List.replicate (1:Nat) (Sh.str.pair ((Sh.int i64).pair ((Sh.int i64).pair Sh.bool))).dflt).set (0:Nat) (gt Sh.str nm ((0:Nat)+i.toNat),i64.wrap (i64.wrap ((i64.wrap (i64.wrap (at_+i64.wrap (Int.tmod (gt ((Sh.int u8).pair ((Sh.int u8).pair ((Sh.int u8).pair Sh.bool))) l i.toNat).1 (8:Int)))+3)).tdiv (4:Int))*(4:Int)),i64.wrap (i64.wrap (i64.wrap (i64.wrap ((i64.wrap (i64.wrap (at_+i64.wrap (Int.tmod (gt ((Sh.int u8).pair ((Sh.int u8).pair ((Sh.int u8).pair Sh.bool))) l i.toNat).1 (8:Int)))+3)).tdiv (4:Int))*(4:Int))+4)+i64.wrap ((4:Int)*i64.wrap (Int.tmod (gt ((Sh.int u8).pair ((Sh.int u8).pair ((Sh.int u8).pair Sh.bool))) l i.toNat).2.1 (8:Int)))),(gt ((Sh.int u8).pair ((Sh.int u8).pair ((Sh.int u8).pair Sh.bool))) l i.toNat).2.2.2))).length<2 ^ 30/\(40:Nat)<=2 ^ 10/\R (hd Tryd.f8 0) { env:=[(0,.sl ((Sh.int u8).pair ((Sh.int u8).pair ((Sh.int u8).pair Sh.bool))) l),(1,.i n),(5,.win true Sh.str (10:Nat) (0:Nat) nm.length),(6,.win true (Sh.str.pair ((Sh.int i64).pair ((Sh.int i64).pair Sh.bool))) (90:Nat) (0:Nat) (o.length+(winL seS 0 1 ((List.replicate (1:Nat) (Sh.str.pair ((Sh.int i64).pair ((Sh.int i64).pair Sh.bool))).dflt).set (0:Nat) (gt Sh.str nm ((0:Nat)+i.toNat),i64.wrap (i64.wrap ((i64.wrap (i64.wrap (at_+i64.wrap (Int.tmod (gt ((Sh.int u8).pair ((Sh.int u8).pair ((Sh.int u8).pair Sh.bool))) l i.toNat).1 (8:Int)))+3)).tdiv (4:Int))*(4:Int)),i64.wrap (i64.wrap (i64.wrap (i64.wrap ((i64.wrap (i64.wrap (at_+i64.wrap (Int.tmod (gt ((Sh.int u8).pair ((Sh.int u8).pair ((Sh.int u8).pair Sh.bool))) l i.toNat).1 (8:Int)))+3)).tdiv (4:Int))*(4:Int))+4)+i64.wrap ((4:Int)*i64.wrap (Int.tmod (gt ((Sh.int u8).pair ((Sh.int u8).pair ((Sh.int u8).pair Sh.bool))) l i.toNat).2.1 (8:Int)))),(gt ((Sh.int u8).pair ((Sh.int u8).pair ((Sh.int u8).pair Sh.bool))) l i.toNat).2.2.2))).length)),(7,.i (i64.wrap (i64.wrap (i64.wrap (i64.wrap ((i64.wrap (i64.wrap (at_+i64.wrap (Int.tmod (gt ((Sh.int u8).pair ((Sh.int u8).pair ((Sh.int u8).pair Sh.bool))) l i.toNat).1 (8:Int)))+3)).tdiv (4:Int))*(4:Int))+4)+i64.wrap ((4:Int)*i64.wrap (Int.tmod (gt ((Sh.int u8).pair ((Sh.int u8).pair ((Sh.int u8).pair Sh.bool))) l i.toNat).2.1 (8:Int)))))),(8,.i (i64.wrap (i+1)))],blk:=[(10,.row 9 Sh.str nm),(90,.row 59 (Sh.str.pair ((Sh.int i64).pair ((Sh.int i64).pair Sh.bool))) (o++winL (Sh.str.pair ((Sh.int i64).pair ((Sh.int i64).pair Sh.bool))) (0:Nat) (1:Nat) ((List.replicate (1:Nat) (Sh.str.pair ((Sh.int i64).pair ((Sh.int i64).pair Sh.bool))).dflt).set (0:Nat) (gt Sh.str nm ((0:Nat)+i.toNat),i64.wrap (i64.wrap ((i64.wrap (i64.wrap (at_+i64.wrap (Int.tmod (gt ((Sh.int u8).pair ((Sh.int u8).pair ((Sh.int u8).pair Sh.bool))) l i.toNat).1 (8:Int)))+3)).tdiv (4:Int))*(4:Int)),i64.wrap (i64.wrap (i64.wrap (i64.wrap ((i64.wrap (i64.wrap (at_+i64.wrap (Int.tmod (gt ((Sh.int u8).pair ((Sh.int u8).pair ((Sh.int u8).pair Sh.bool))) l i.toNat).1 (8:Int)))+3)).tdiv (4:Int))*(4:Int))+4)+i64.wrap ((4:Int)*i64.wrap (Int.tmod (gt ((Sh.int u8).pair ((Sh.int u8).pair ((Sh.int u8).pair Sh.bool))) l i.toNat).2.1 (8:Int)))),(gt ((Sh.int u8).pair ((Sh.int u8).pair ((Sh.int u8).pair Sh.bool))) l i.toNat).2.2.2))))] })) ((0:Int)<=i/\i<(l.length:Int)/\(8:Int)≠0/\(0:Int)<=i/\i<(l.length:Int)/\(4:Int)≠0/\bc (decide (n<i64.wrap (i64.wrap (i64.wrap (i64.wrap (at_+i64.wrap (Int.tmod (gt ((Sh.int u8).pair ((Sh.int u8).pair ((Sh.int u8).pair Sh.bool))) l i.toNat).1 (8:Int)))+1)+i64.wrap ((4:Int)*i64.wrap (Int.tmod (gt ((Sh.int u8).pair ((Sh.int u8).pair ((Sh.int u8).pair Sh.bool))) l i.toNat).2.1 (8:Int))))+i64.wrap (Int.tmod (gt ((Sh.int u8).pair ((Sh.int u8).pair ((Sh.int u8).pair Sh.bool))) l i.toNat).2.2.1 (4:Int))))) (Q [.win true (Sh.str.pair ((Sh.int i64).pair ((Sh.int i64).pair Sh.bool))) (11:Nat) (0:Nat) o.length] [(9,.var [.str (gt Sh.str nm ((0:Nat)+i.toNat)),.i (i64.wrap (at_+i64.wrap (Int.tmod (gt ((Sh.int u8).pair ((Sh.int u8).pair ((Sh.int u8).pair Sh.bool))) l i.toNat).1 (8:Int)))),.i (i64.wrap (i64.wrap (i64.wrap (i64.wrap (at_+i64.wrap (Int.tmod (gt ((Sh.int u8).pair ((Sh.int u8).pair ((Sh.int u8).pair Sh.bool))) l i.toNat).1 (8:Int)))+1)+i64.wrap ((4:Int)*i64.wrap (Int.tmod (gt ((Sh.int u8).pair ((Sh.int u8).pair ((Sh.int u8).pair Sh.bool))) l i.toNat).2.1 (8:Int))))+i64.wrap (Int.tmod (gt ((Sh.int u8).pair ((Sh.int u8).pair ((Sh.int u8).pair Sh.bool))) l i.toNat).2.2.1 (4:Int)))),.bool (gt ((Sh.int u8).pair ((Sh.int u8).pair ((Sh.int u8).pair Sh.bool))) l i.toNat).2.2.2]),(10,.row 9 Sh.str nm),(11,.row 59 (Sh.str.pair ((Sh.int i64).pair ((Sh.int i64).pair Sh.bool))) o)]) ((0:Nat)+1<=((List.replicate (1:Nat) (Sh.str.pair ((Sh.int i64).pair ((Sh.int i64).pair Sh.bool))).dflt).set (0:Nat) (gt Sh.str nm ((0:Nat)+i.toNat),i64.wrap (at_+i64.wrap (Int.tmod (gt ((Sh.int u8).pair ((Sh.int u8).pair ((Sh.int u8).pair Sh.bool))) l i.toNat).1 (8:Int))),i64.wrap (i64.wrap (i64.wrap (i64.wrap (at_+i64.wrap (Int.tmod (gt ((Sh.int u8).pair ((Sh.int u8).pair ((Sh.int u8).pair Sh.bool))) l i.toNat).1 (8:Int)))+1)+i64.wrap ((4:Int)*i64.wrap (Int.tmod (gt ((Sh.int u8).pair ((Sh.int u8).pair ((Sh.int u8).pair Sh.bool))) l i.toNat).2.1 (8:Int))))+i64.wrap (Int.tmod (gt ((Sh.int u8).pair ((Sh.int u8).pair ((Sh.int u8).pair Sh.bool))) l i.toNat).2.2.1 (4:Int))),(gt ((Sh.int u8).pair ((Sh.int u8).pair ((Sh.int u8).pair Sh.bool))) l i.toNat).2.2.2)).length/\o.length=o.length/\(0:Nat)=(0:Nat)/\o.length+(winL seS 0 1 ((List.replicate (1:Nat) (Sh.str.pair ((Sh.int i64).pair ((Sh.int i64).pair Sh.bool))).dflt).set (0:Nat) (gt Sh.str nm ((0:Nat)+i.toNat),i64.wrap (at_+i64.wrap (Int.tmod (gt ((Sh.int u8).pair ((Sh.int u8).pair ((Sh.int u8).pair Sh.bool))) l i.toNat).1 (8:Int))),i64.wrap (i64.wrap (i64.wrap (i64.wrap (at_+i64.wrap (Int.tmod (gt ((Sh.int u8).pair ((Sh.int u8).pair ((Sh.int u8).pair Sh.bool))) l i.toNat).1 (8:Int)))+1)+i64.wrap ((4:Int)*i64.wrap (Int.tmod (gt ((Sh.int u8).pair ((Sh.int u8).pair ((Sh.int u8).pair Sh.bool))) l i.toNat).2.1 (8:Int))))+i64.wrap (Int.tmod (gt ((Sh.int u8).pair ((Sh.int u8).pair ((Sh.int u8).pair Sh.bool))) l i.toNat).2.2.1 (4:Int))),(gt ((Sh.int u8).pair ((Sh.int u8).pair ((Sh.int u8).pair Sh.bool))) l i.toNat).2.2.2))).length<2 ^ 30/\(40:Nat)<=2 ^ 10/\R (hd Tryd.f8 0) { env:=[(0,.sl ((Sh.int u8).pair ((Sh.int u8).pair ((Sh.int u8).pair Sh.bool))) l),(1,.i n),(5,.win true Sh.str (10:Nat) (0:Nat) nm.length),(6,.win true (Sh.str.pair ((Sh.int i64).pair ((Sh.int i64).pair Sh.bool))) (90:Nat) (0:Nat) (o.length+(winL seS 0 1 ((List.replicate (1:Nat) (Sh.str.pair ((Sh.int i64).pair ((Sh.int i64).pair Sh.bool))).dflt).set (0:Nat) (gt Sh.str nm ((0:Nat)+i.toNat),i64.wrap (at_+i64.wrap (Int.tmod (gt ((Sh.int u8).pair ((Sh.int u8).pair ((Sh.int u8).pair Sh.bool))) l i.toNat).1 (8:Int))),i64.wrap (i64.wrap (i64.wrap (i64.wrap (at_+i64.wrap (Int.tmod (gt ((Sh.int u8).pair ((Sh.int u8).pair ((Sh.int u8).pair Sh.bool))) l i.toNat).1 (8:Int)))+1)+i64.wrap ((4:Int)*i64.wrap (Int.tmod (gt ((Sh.int u8).pair ((Sh.int u8).pair ((Sh.int u8).pair Sh.bool))) l i.toNat).2.1 (8:Int))))+i64.wrap (Int.tmod (gt ((Sh.int u8).pair ((Sh.int u8).pair ((Sh.int u8).pair Sh.bool))) l i.toNat).2.2.1 (4:Int))),(gt ((Sh.int u8).pair ((Sh.int u8).pair ((Sh.int u8).pair Sh.bool))) l i.toNat).2.2.2))).length)),(7,.i (i64.wrap (i64.wrap (i64.wrap (i64.wrap (at_+i64.wrap (Int.tmod (gt ((Sh.int u8).pair ((Sh.int u8).pair ((Sh.int u8).pair Sh.bool))) l i.toNat).1 (8:Int)))+1)+i64.wrap ((4:Int)*i64.wrap (Int.tmod (gt ((Sh.int u8).pair ((Sh.int u8).pair ((Sh.int u8).pair Sh.bool))) l i.toNat).2.1 (8:Int))))+i64.wrap (Int.tmod (gt ((Sh.int u8).pair ((Sh.int u8).pair ((Sh.int u8).pair Sh.bool))) l i.toNat).2.2.1 (4:Int))))),(8,.i (i64.wrap (i+1)))],blk:=[(10,.row 9 Sh.str nm),(90,.row 59 (Sh.str.pair ((Sh.int i64).pair ((Sh.int i64).pair Sh.bool))) (o++winL (Sh.str.pair ((Sh.int i64).pair ((Sh.int i64).pair Sh.bool))) (0:Nat) (1:Nat) ((List.replicate (1:Nat) (Sh.str.pair ((Sh.int i64).pair ((Sh.int i64).pair Sh.bool))).dflt).set (0:Nat) (gt Sh.str nm ((0:Nat)+i.toNat),i64.wrap (at_+i64.wrap (Int.tmod (gt ((Sh.int u8).pair ((Sh.int u8).pair ((Sh.int u8).pair Sh.bool))) l i.toNat).1 (8:Int))),i64.wrap (i64.wrap (i64.wrap (i64.wrap (at_+i64.wrap (Int.tmod (gt ((Sh.int u8).pair ((Sh.int u8).pair ((Sh.int u8).pair Sh.bool))) l i.toNat).1 (8:Int)))+1)+i64.wrap ((4:Int)*i64.wrap (Int.tmod (gt ((Sh.int u8).pair ((Sh.int u8).pair ((Sh.int u8).pair Sh.bool))) l i.toNat).2.1 (8:Int))))+i64.wrap (Int.tmod (gt ((Sh.int u8).pair ((Sh.int u8).pair ((Sh.int u8).pair Sh.bool))) l i.toNat).2.2.1 (4:Int))),(gt ((Sh.int u8).pair ((Sh.int u8).pair ((Sh.int u8).pair Sh.bool))) l i.toNat).2.2.2))))] }))) (Q [.win true (Sh.str.pair ((Sh.int i64).pair ((Sh.int i64).pair Sh.bool))) (11:Nat) (0:Nat) o.length] [(10,.row 9 Sh.str nm),(11,.row 59 (Sh.str.pair ((Sh.int i64).pair ((Sh.int i64).pair Sh.bool))) o)])) (false=false/\Q [.win true (Sh.str.pair ((Sh.int i64).pair ((Sh.int i64).pair Sh.bool))) (11:Nat) (0:Nat) o.length] [(10,.row 9 Sh.str nm),(11,.row 59 (Sh.str.pair ((Sh.int i64).pair ((Sh.int i64).pair Sh.bool))) o)])):=by kernel_rfl
attribute [local irreducible] Go.Px.sy Go.Px.syE
abbrev Sec:Type:=List UInt8 × Int × Int × Bool
abbrev Raw:Type:=Int × Int × Int × Bool
def rawOK (r:Raw):Prop:=(0<=r.1/\r.1<256)/\(0<=r.2.1/\r.2.1<256)/\(0<=r.2.2.1/\r.2.2.1<256)
def quz (nm:List UInt8) (at_:Int) (r:Raw):Sec:=match r.2.2.2 with
 | true=>(nm,(at_+r.1 % 8+3) / 4*4,(at_+r.1 % 8+3) / 4*4+4+4*(r.2.1 % 8),true)
 | false=>(nm,at_+r.1 % 8,at_+r.1 % 8+1+4*(r.2.1 % 8)+r.2.2.1 % 4,false)
def mkF (n:Int):List (List UInt8)->Int->List Raw->List Sec
 | nm::nms,at_,r::rs=>if n<(quz nm at_ r).2.2.1 then [] else quz nm at_ r::mkF n nms (quz nm at_ r).2.2.1 rs
 | _,_,_=>[]
def nmL:List (List UInt8):=[[98,111,111,116],[97,112,112],[68,97,116,97],[120,49],[116,97,105,108],[99,102,103],[65],[116,119,101,108,118,101,108,101,116,116,101,114]]
def qpw (l:List Raw) (n:Int):Prop:=(∀ r∈l,rawOK r)/\0<=n/\n<100000
def mk (l:List Raw) (n:Int):List Sec:=mkF n nmL 0 l
def ctMk:Ctr:=⟨[.sl rwS,iI],λ x=>qpw x.1 x.2.1,λ x=>[.win true seS 0 0 (List.length (mk x.1 x.2.1))],λ x=>[.row 59 seS (mk x.1 x.2.1)]⟩
theorem qp3 {l:List Raw} {n:Int} (hp:qpw l n) {nm:List (List UInt8)} (hnm:nm.length=8) {x:List Sec} (hx:x=mk l n):∀ (k i:Nat) (at_:Int) (o:List Sec),8-i<=k->i<=8->0<=at_->at_<=n->o.length=i->o++mkF n (nm.drop i) at_ (l.drop i)=x ->
  GD 8 Tryd.f8 (QC ctMk (l,n,())) (hd Tryd.f8 0) ⟨[(0,.sl rwS l),(1,.i n),(5,.win true .str 10 0 nm.length),(6,.win true seS 11 0 o.length),(7,.i at_),(8,.i (i:Nat))],[(10,.row 9 .str nm),(11,.row 59 seS o)]⟩:=by
 obtain ⟨hr,hn1,hn2⟩:=hp;have fin:∀ (o:List Sec) (blk:List (Nat × LB)),o=x->lk blk 11=some (.row 59 seS o)->QC ctMk (l,n,()) [.win true seS 11 0 o.length] blk:=by
  intro o blk ho hb;rw[hx] at ho;subst ho;exact q1q rfl rfl rfl rfl hb
 intro k
 induction k with
 | zero=>
  intro i at_ o hk hi h1 h2 ho hx;refine qaw cx0 (qqx l n at_ i nm o _ _) ?_;have hf:∀ h:i<l.length,False->False:=λ _ h=>h
  rw[List.drop_eq_nil_of_le (show nm.length<=i by omega)] at hx;simp only[mkF,List.append_nil] at hx;refine qag (λ h=>?_) (λ h=>⟨rfl,fin o _ hx rfl⟩);rw[decide_eq_false (show ¬ ((i:Int)<8) by omega),cond_true,bc_f];exact fin o _ hx rfl
 | succ k ih=>
  intro i at_ o hk hi h1 h2 ho hx;by_cases h8:i<8
  ·refine qaw cx0 (qqx l n at_ i nm o _ _) ?_;by_cases hl:i<l.length
   ·have e1:gt rwS l (i:Int).toNat=l[i]:=gtE hl;have e2:gt .str nm (0+(i:Int).toNat)=nm[i]:=by rw[Nat.zero_add];exact gtE (by omega)
    have hro:=hr l[i] (List.getElem_mem hl);have k2:=λ a o=>ih (i+1) a o (by omega) (by omega)
    rw[qln (show i<nm.length by omega),qln hl] at hx;rw[decide_eq_true (show (i:Int)<(l.length:Int) by omega),bc_t,decide_eq_true (show (i:Int)<8 by omega),cond_true,bc_t,e1,e2];generalize l[i]=r at hx hro;generalize nm[i]=nmi at hx;obtain ⟨g,w,od,c⟩:=r;obtain ⟨⟨g1,g2⟩,⟨w1,w2⟩,⟨d1,d2⟩⟩:=hro;have g1:0<=g:=g1;have g2:g<256:=g2;have w1:0<=w:=w1;have w2:w<256:=w2;have d1:0<=od:=d1;have d2:od<256:=d2;have tg:g.tmod 8=g % 8:=Int.tmod_eq_emod_of_nonneg g1;have tw:w.tmod 8=w % 8:=Int.tmod_eq_emod_of_nonneg w1;have td:od.tmod 4=od % 4:=Int.tmod_eq_emod_of_nonneg d1;have q1:i64.wrap (g % 8)=g % 8:=IntWalk.i64_in _ (by omega);have q2:i64.wrap (at_+g % 8)=at_+g % 8:=IntWalk.i64_in _ (by omega);have q3:i64.wrap (w % 8)=w % 8:=IntWalk.i64_in _ (by omega);have q4:i64.wrap (4*(w % 8))=4*(w % 8):=IntWalk.i64_in _ (by omega);have q5:i64.wrap (od % 4)=od % 4:=IntWalk.i64_in _ (by omega);have q0:i64.wrap ((i:Int)+1)=((i+1:Nat):Int):=by rw[IntWalk.i64_in _ (by omega)];rfl
    cases c with
    | true=>
     have q6:i64.wrap (at_+g % 8+3)=at_+g % 8+3:=IntWalk.i64_in _ (by omega);have q7:(at_+g % 8+3).tdiv 4=(at_+g % 8+3) / 4:=Int.tdiv_eq_ediv_of_nonneg (by omega);have q7b:i64.wrap ((at_+g % 8+3) / 4)=(at_+g % 8+3) / 4:=IntWalk.i64_in _ (by omega);have q8:i64.wrap ((at_+g % 8+3) / 4*4)=(at_+g % 8+3) / 4*4:=IntWalk.i64_in _ (by omega);have q9:i64.wrap ((at_+g % 8+3) / 4*4+4)=(at_+g % 8+3) / 4*4+4:=IntWalk.i64_in _ (by omega);have q10:i64.wrap ((at_+g % 8+3) / 4*4+4+4*(w % 8))=(at_+g % 8+3) / 4*4+4+4*(w % 8):=IntWalk.i64_in _ (by omega);have hsec:quz nmi at_ (g,w,od,true)=(nmi,(at_+g % 8+3) / 4*4,(at_+g % 8+3) / 4*4+4+4*(w % 8),true):=rfl;simp only[tg,tw,td,q1,q2,q3,q4,q5,q6,q7,q7b,q8,q9,q10,q0,bc_t];rw[mkF,hsec] at hx;simp only at hx;refine ⟨by omega,by omega,by omega,by omega,by omega,by decide,by omega,by omega,by decide,by omega,by omega,by decide,qag (λ h=>?_) (λ h=>?_)⟩
     ·have h:=of_decide_eq_true h;rw[if_pos h,List.append_nil] at hx;exact fin o _ hx rfl
     ·have h:=of_decide_eq_false h;rw[if_neg h] at hx;refine ⟨by simp,trivial,trivial,?_,by decide,?_⟩
      ·show o.length+1<2 ^ 30
       omega
      ·refine Good.onlyR (k2 _ (o++[(nmi,(at_+g % 8+3) / 4*4,(at_+g % 8+3) / 4*4+4+4*(w % 8),true)]) (by omega) (by omega) (by simp[ho]) (by rw[List.append_assoc];exact hx)) [(11,90)] rfl ⟨rfl,rfl,rfl,?_,rfl,rfl,trivial⟩ ⟨rfl,rfl,trivial⟩
       show some (SV.win true seS 90 0 (o.length+1))=some (SV.win true seS 90 0 (o++[_]).length)
       rw[List.length_append,List.length_singleton]
    | false=>
     have q6:i64.wrap (at_+g % 8+1)=at_+g % 8+1:=IntWalk.i64_in _ (by omega);have q7:i64.wrap (at_+g % 8+1+4*(w % 8))=at_+g % 8+1+4*(w % 8):=IntWalk.i64_in _ (by omega);have q8:i64.wrap (at_+g % 8+1+4*(w % 8)+od % 4)=at_+g % 8+1+4*(w % 8)+od % 4:=IntWalk.i64_in _ (by omega);have hsec:quz nmi at_ (g,w,od,false)=(nmi,at_+g % 8,at_+g % 8+1+4*(w % 8)+od % 4,false):=rfl;simp only[tg,tw,td,q1,q2,q3,q4,q5,q6,q7,q8,q0,bc_f];rw[mkF,hsec] at hx;simp only at hx;refine ⟨by omega,by omega,by omega,by omega,by omega,by decide,by omega,by omega,by omega,by omega,by decide,by omega,by omega,by decide,qag (λ h=>?_) (λ h=>?_)⟩
     ·have h:=of_decide_eq_true h;rw[if_pos h,List.append_nil] at hx;exact fin o _ hx rfl
     ·have h:=of_decide_eq_false h;rw[if_neg h] at hx;refine ⟨by simp,trivial,trivial,?_,by decide,?_⟩
      ·show o.length+1<2 ^ 30
       omega
      ·refine Good.onlyR (k2 _ (o++[(nmi,at_+g % 8,at_+g % 8+1+4*(w % 8)+od % 4,false)]) (by omega) (by omega) (by simp[ho]) (by rw[List.append_assoc];exact hx)) [(11,90)] rfl ⟨rfl,rfl,rfl,?_,rfl,rfl,trivial⟩ ⟨rfl,rfl,trivial⟩
       show some (SV.win true seS 90 0 (o.length+1))=some (SV.win true seS 90 0 (o++[_]).length)
       rw[List.length_append,List.length_singleton]
   ·have e0:mkF n (nm.drop i) at_ (l.drop i)=[]:=by
     rw[List.drop_eq_nil_of_le (show l.length<=i by omega)]
     cases nm.drop i <;> rfl
    rw[e0,List.append_nil] at hx;rw[decide_eq_false (by omega),bc_f];exact ⟨rfl,fin o _ hx rfl⟩
  ·exact ih i at_ o (by omega) hi h1 h2 ho hx
theorem qv3 (l:List Raw) (n:Int) (hp:qpw l n):sA [] Tryd.f8 (QC ctMk (l,n,())) (Px.Good Tryd.prog tt G0 8 Tryd.f8.ntmps Tryd.f8.results.toList (QC ctMk (l,n,()))) [.code (qae Tryd.f8)] (entry [.sl rwS,iI] (l,n,())):=by
 rw[q20];exact (qp3 hp (nm:=nmL) rfl rfl _ 0 0 [] (Nat.le_refl _) (Nat.zero_le _) (by omega) hp.2.1 rfl rfl).only ⟨rfl,rfl,rfl,rfl,rfl,rfl,trivial⟩ ⟨rfl,rfl,trivial⟩
theorem qp4:Held Tryd.prog G0 8 ctMk:=Held.run cx0 (fn:=Tryd.f8) rfl rfl ⟨by decide,by decide⟩ λ x hp=>qv3 x.1 x.2.1 hp
abbrev D1:CV:=[(8,.inl ctMk)]
theorem dx1:CxOK Tryd.prog tt G0 D1:=cx0.k qp4 (fn:=Tryd.f8)
set_option maxRecDepth 100000
theorem q6m (c:Int) (Q:QT) (R:RT):sA D1 Tryd.f56 Q R [.code (qae Tryd.f56)] (entry [.int .i32] (c,())) =
  (bc (decide ((97:Int)<=c)) (bc (bif true then decide (c<=122) else false) (true=true/\Q [.bool true] []) (bc (decide ((65:Int)<=c)) (Q [.bool (bif false then true else bif true then decide (c<=90) else false)] []) (false=false/\Q [.bool (bif false then true else false)] []))) (false=false/\bc (decide ((65:Int)<=c)) (Q [.bool (bif false then true else bif true then decide (c<=90) else false)] []) (false=false/\Q [.bool (bif false then true else false)] []))):=by kernel_rfl
theorem q6t (c:Int) (Q:QT) (R:RT):sA D1 Tryd.f57 Q R [.code (qae Tryd.f57)] (entry [.int .i32] (c,())) =
  (bc (decide ((48:Int)<=c)) (Q [.bool (bif true then decide (c<=57) else false)] []) (false=false/\Q [.bool false] [])):=by kernel_rfl
theorem q6r (l:List Sec) (s:List UInt8) (Q:QT) (R:RT):sA D1 Tryd.f39 Q R [.code (qae Tryd.f39)] (entry [.sl seS,.str] (l,s,())) =
  (R (hd Tryd.f39 0) { env:=[(0,.sl (Sh.str.pair ((Sh.int i64).pair ((Sh.int i64).pair Sh.bool))) l),(1,.str s),(4,.bool false),(7,.sl (Sh.str.pair ((Sh.int i64).pair ((Sh.int i64).pair Sh.bool))) l),(8,.i (l.length:Int)),(9,.i 0)],blk:=[] }):=by kernel_rfl
theorem qt9 (l:List Sec) (s:List UInt8) (i:Int) (Q:QT) (R:RT):sA D1 Tryd.f39 Q (λ it S=>R it (qbx [1,7,8,9] [] S)) (hd Tryd.f39 0) ⟨[(1,.str s),(7,.sl seS l),(8,.i l.length),(9,.i i)],[]⟩ =
  (bc (decide (i<(l.length:Int))) ((0:Int)<=i/\i<(l.length:Int)/\bc (decide ((gt (Sh.str.pair ((Sh.int i64).pair ((Sh.int i64).pair Sh.bool))) l i.toNat).1=s)) (Q [.bool true] [(6,.var [.str (gt (Sh.str.pair ((Sh.int i64).pair ((Sh.int i64).pair Sh.bool))) l i.toNat).1,.i (gt (Sh.str.pair ((Sh.int i64).pair ((Sh.int i64).pair Sh.bool))) l i.toNat).2.1,.i (gt (Sh.str.pair ((Sh.int i64).pair ((Sh.int i64).pair Sh.bool))) l i.toNat).2.2.1,.bool (gt (Sh.str.pair ((Sh.int i64).pair ((Sh.int i64).pair Sh.bool))) l i.toNat).2.2.2])]) (R (hd Tryd.f39 0) { env:=[(1,.str s),(7,.sl (Sh.str.pair ((Sh.int i64).pair ((Sh.int i64).pair Sh.bool))) l),(8,.i (l.length:Int)),(9,.i (i64.wrap (i+1)))],blk:=[] })) (Q [.bool false] [])):=by kernel_rfl
theorem q6d (x:Sec) (e n:Int) (Q:QT) (R:RT):sA D1 Tryd.f40 Q R [.code (qae Tryd.f40)] (entry [seS,iI,iI] (x,e,n,())) =
  (bc (decide (x.2.1<e)) (true=true/\true=true/\Q [.bool false] [(3,.var [.str x.1,.i x.2.1,.i x.2.2.1,.bool x.2.2.2])]) (bc (bif false then true else decide (x.2.2.1<=x.2.1)) (true=true/\Q [.bool false] [(3,.var [.str x.1,.i x.2.1,.i x.2.2.1,.bool x.2.2.2])]) (bc (bif false then true else decide (n<x.2.2.1)) (Q [.bool false] [(3,.var [.str x.1,.i x.2.1,.i x.2.2.1,.bool x.2.2.2])]) (bc (!x.2.2.2) (true=true/\Q [.bool true] [(3,.var [.str x.1,.i x.2.1,.i x.2.2.1,.bool x.2.2.2])]) ((4:Int)≠0/\bc (decide (Int.tmod x.2.1 (4:Int)=(0:Int))) ((4:Int)≠0/\Q [.bool (bif false then true else bif true then decide (Int.tmod x.2.2.1 (4:Int)=(0:Int)) else false)] [(3,.var [.str x.1,.i x.2.1,.i x.2.2.1,.bool x.2.2.2])]) (false=false/\Q [.bool (bif false then true else false)] [(3,.var [.str x.1,.i x.2.1,.i x.2.2.1,.bool x.2.2.2])])))))):=by kernel_rfl
def letB (c:Int):Bool:=decide (97<=c/\c<=122\/65<=c/\c<=90)
def digB (c:Int):Bool:=decide (48<=c/\c<=57)
def sgnB (c:Int):Bool:=letB c || digB c
theorem qmh {a b:Bool} (h:a=true↔b=true):[SV.bool a]=[SV.bool b]:=by
 cases a <;> cases b <;> simp at h |-
def ctLet:Ctr:=⟨[.int .i32],λ _=>True,λ x=>[.bool (letB x.1)],λ _=>[]⟩
def ctDig:Ctr:=⟨[.int .i32],λ _=>True,λ x=>[.bool (digB x.1)],λ _=>[]⟩
theorem q4y (c:Int) (R:List Item->PS->Prop):sA D1 Tryd.f56 (QC ctLet (c,())) R [.code (qae Tryd.f56)] (entry [.int .i32] (c,())):=by
 rw[q6m];simp only[qi4,cond_true,cond_false,decide_eq_true_eq,decide_eq_false_iff_not]
 repeat' first
  | exact trivial
  | exact rfl
  | (refine And.intro ?_ ?_)
  | (intro _)
  | (refine QC.flat (qmh ?_) rfl rfl;simp[letB];omega)
theorem q5h (c:Int) (R:List Item->PS->Prop):sA D1 Tryd.f57 (QC ctDig (c,())) R [.code (qae Tryd.f57)] (entry [.int .i32] (c,())):=by
 rw[q6t];simp only[qi4,cond_true,cond_false,decide_eq_true_eq,decide_eq_false_iff_not]
 repeat' first
  | exact trivial
  | exact rfl
  | (refine And.intro ?_ ?_)
  | (intro _)
  | (refine QC.flat (qmh ?_) rfl rfl;simp[digB];omega)
theorem qzk:Held Tryd.prog G0 56 ctLet:=Held.run dx1 (fn:=Tryd.f56) rfl rfl ⟨by decide,by decide⟩ λ x _=>q4y x.1 _
theorem qz7:Held Tryd.prog G0 57 ctDig:=Held.run dx1 (fn:=Tryd.f57) rfl rfl ⟨by decide,by decide⟩ λ x _=>q5h x.1 _
def plcB (e n:Int) (s:Sec):Bool:=decide (e<=s.2.1/\s.2.1<s.2.2.1/\s.2.2.1<=n/\(s.2.2.2=true->s.2.1.tmod 4=0/\s.2.2.1.tmod 4=0))
def ctPlc:Ctr:=⟨[seS,iI,iI],λ _=>True,λ x=>[.bool (plcB x.2.1 x.2.2.1 x.1)],λ _=>[]⟩
theorem q37 (x:Sec) (e n:Int) (R:List Item->PS->Prop):sA D1 Tryd.f40 (QC ctPlc (x,e,n,())) R [.code (qae Tryd.f40)] (entry [seS,iI,iI] (x,e,n,())):=by
 rw[q6d];obtain ⟨nm,f,t,c⟩:=x;simp only[qi4,cond_true,cond_false,decide_eq_true_eq,decide_eq_false_iff_not]
 cases c <;>
 repeat' first
  | exact trivial
  | exact rfl
  | decide
  | (refine And.intro ?_ ?_)
  | (intro _)
  | (refine QC.flat (qmh ?_) rfl rfl;simp[plcB];omega)
  | (exfalso;simp at *;done)
theorem qyw:Held Tryd.prog G0 40 ctPlc:=Held.run dx1 (fn:=Tryd.f40) rfl rfl ⟨by decide,by decide⟩ λ x _=>q37 x.1 x.2.1 x.2.2.1 _
def hasN (l:List Sec) (s:List UInt8):Bool:=l.any λ x=>decide (x.1=s)
def qyv (n:Nat):Prop:=n<2 ^ 62
def ctHas:Ctr:=⟨[.sl seS,.str],λ x=>qyv (List.length x.1),λ x=>[.bool (hasN x.1 x.2.1)],λ _=>[]⟩
theorem qzx {l:List Sec} {s:List UInt8} (hp:l.length<2 ^ 62):∀ (k i:Nat),l.length-i<=k->i<=l.length ->
  GD 39 Tryd.f39 (λ rs _=>rs=[.bool (hasN (l.drop i) s)]) (hd Tryd.f39 0) ⟨[(1,.str s),(7,.sl seS l),(8,.i l.length),(9,.i (i:Nat))],[]⟩:=by
 intro k
 induction k with
 | zero=>
  intro i h1 h2;refine qaw dx1 (qt9 l s i _ _) ?_;rw[decide_eq_false (by omega),bc_f,List.drop_eq_nil_of_le (by omega)];rfl
 | succ k ih=>
  intro i h1 h2;by_cases hi:i<l.length
  ·refine qaw dx1 (qt9 l s i _ _) ?_;have e1:gt seS l (i:Int).toNat=l[i]:=gtE hi;rw[decide_eq_true (show (i:Int)<(l.length:Int) by omega),bc_t,e1,IntWalk.i64_in ((i:Int)+1) (by omega),qln hi];have k2:=ih (i+1) (by omega) (by omega);have hh:hasN (l[i]::l.drop (i+1)) s=(decide (l[i].1=s) || hasN (l.drop (i+1)) s):=rfl;rw[hh];refine ⟨by omega,by omega,qag (λ ha=>?_) (λ ha=>?_)⟩
   ·have ha:decide (l[i].1=s)=true:=ha;rw[ha];rfl
   ·have ha:decide (l[i].1=s)=false:=ha;rw[ha,Bool.false_or];exact k2
  ·exact ih i (by omega) h2
theorem q46 (l:List Sec) (s:List UInt8) (hp:qyv l.length):sA D1 Tryd.f39 (QC ctHas (l,s,())) (Px.Good Tryd.prog tt G0 39 Tryd.f39.ntmps Tryd.f39.results.toList (QC ctHas (l,s,()))) [.code (qae Tryd.f39)] (entry [.sl seS,.str] (l,s,())):=by
 rw[q6r];exact ((qzx hp _ 0 (Nat.le_refl _) (Nat.zero_le _)).post λ rs blk hq=>QC.flat (by rw[hq];rfl) rfl (by rw[hq];rfl)).only ⟨rfl,rfl,rfl,rfl,trivial⟩ trivial
theorem qzy:Held Tryd.prog G0 39 ctHas:=Held.run dx1 (fn:=Tryd.f39) rfl rfl ⟨by decide,by decide⟩ λ x hp=>q46 x.1 x.2.1 hp
abbrev D2:CV:=(39,.inl ctHas)::(40,.inl ctPlc)::(56,.inl ctLet)::(57,.inl ctDig)::D1
theorem dx2:CxOK Tryd.prog tt G0 D2:=((((dx1).k qz7 (fn:=Tryd.f57)).k qzk (fn:=Tryd.f56)).k qyw (fn:=Tryd.f40)).k qzy (fn:=Tryd.f39)
theorem q6k (s:List UInt8) (Q:QT) (R:RT):sA D2 Tryd.f38 Q R [.code (qae Tryd.f38)] (entry [.str] (s,())) =
  (bc (decide ((s.length:Int)<1)) (true=true/\Q [.bool false] []) (bc (bif false then true else decide ((12:Int)<(s.length:Int))) (Q [.bool false] []) (R (hd Tryd.f38 0) { env:=[(0,.str s),(2,.bool false),(5,.str s),(6,.i (s.length:Int)),(7,.bool (decide ((s.length:Int)<1))),(8,.bool false),(9,.str s),(10,.i (s.length:Int)),(11,.bool (decide ((12:Int)<(s.length:Int)))),(12,.bool (bif false then true else decide ((12:Int)<(s.length:Int)))),(13,.str s),(14,.ptr 14 0)],blk:=[(14,LB.iter s (0:Nat))] }))):=by kernel_rfl
theorem qt3 (s:List UInt8) (p:Nat) (Q:QT) (R:RT):sA D2 Tryd.f38 Q (λ it S=>R it (qbx [14] [14] S)) (hd Tryd.f38 0) ⟨[(14,.ptr 14 0)],[(14,.iter s p)]⟩ =
  (bc (decide (p<s.length)) (ctLet.pre ((↑(qc3 s p).1:Int),())/\bc (!letB (↑(qc3 s p).1:Int)) (ctDig.pre ((↑(qc3 s p).1:Int),())/\bc (bif true then !digB (↑(qc3 s p).1:Int) else false) (Q [.bool false] [(14,LB.iter s (qkh s p true))]) (R (hd Tryd.f38 0) { env:=[(14,.ptr 14 0)],blk:=[(14,LB.iter s (qkh s p true))] })) (false=false/\R (hd Tryd.f38 0) { env:=[(14,.ptr 14 0)],blk:=[(14,LB.iter s (qkh s p true))] })) (Q [.bool true] [(14,LB.iter s (qkh s p false))])):=by kernel_rfl
def allS (s:List UInt8):Bool:=s.all λ c=>sgnB (c.toNat:Int)
def qok (s:List UInt8):Bool:=decide (1<=s.length)&&decide (s.length<=12)&&allS s
theorem qxh {s:List UInt8} {i:Nat} (h:i<s.length):allS (s.drop i)=(sgnB (s[i].toNat:Int)&&allS (s.drop (i+1))):=by
 rw[qln h];rfl
theorem q1n {c:Int} (h:128<=c):letB c=false/\digB c=false:=by
 constructor
 ·exact decide_eq_false (by omega)
 ·exact decide_eq_false (by omega)
theorem qzf (s:List UInt8):∀ (k i:Nat),s.length-i<=k ->
  GD 38 Tryd.f38 (λ rs _=>rs=[.bool (allS (s.drop i))]) (hd Tryd.f38 0) ⟨[(14,.ptr 14 0)],[(14,.iter s i)]⟩:=by
 have hend:∀ i:Nat,¬ i<s.length->GD 38 Tryd.f38 (λ rs _=>rs=[.bool (allS (s.drop i))]) (hd Tryd.f38 0) ⟨[(14,.ptr 14 0)],[(14,.iter s i)]⟩:=by
  intro i hi;refine qaw dx2 (qt3 s i _ _) ?_;rw[decide_eq_false hi,bc_f,List.drop_eq_nil_of_le (by omega)];rfl
 intro k
 induction k with
 | zero=>intro i h1;exact hend i (by omega)
 | succ k ih=>
  intro i h1;by_cases hi:i<s.length
  ·refine qaw dx2 (qt3 s i _ _) ?_;rw[decide_eq_true hi,bc_t,qxh hi,cond_true];by_cases hb:s[i].toNat<128
   ·have k2:=ih (i+1) (by omega);rw[qkh,qu2 hi hb,sgnB];refine ⟨trivial,qag (λ h=>⟨trivial,qag (λ h2=>?_) (λ h2=>?_)⟩) (λ h=>⟨rfl,?_⟩)⟩
    ·simp only[Bool.not_eq_true'] at h h2;simp only[h,h2,Bool.or_self,Bool.false_and]
    ·simp only[Bool.not_eq_false'] at h2;rw[h2,Bool.or_true,Bool.true_and];exact k2
    ·simp only[Bool.not_eq_false'] at h;rw[h,Bool.true_or,Bool.true_and];exact k2
   ·obtain ⟨r1,r2,_⟩:=qu3 hi (by omega);obtain ⟨s1,s2⟩:=q1n (c:=((qc3 s i).1:Int)) (by omega);obtain ⟨s3,s4⟩:=q1n (c:=(s[i].toNat:Int)) (by omega);rw[s1,s2,sgnB,s3,s4];exact ⟨trivial,trivial,rfl⟩
  ·exact hend i hi
def ctNam:Ctr:=⟨[.str],λ _=>True,λ x=>[.bool (qok x.1)],λ _=>[]⟩
theorem q4r (s:List UInt8):sA D2 Tryd.f38 (QC ctNam (s,())) (Px.Good Tryd.prog tt G0 38 Tryd.f38.ntmps Tryd.f38.results.toList (QC ctNam (s,()))) [.code (qae Tryd.f38)] (entry [.str] (s,())):=by
 rw[q6k];refine qag (λ h=>⟨rfl,?_⟩) (λ h=>?_)
 ·have h:=of_decide_eq_true h;refine QC.flat (qmh ?_) rfl rfl;simp[qok];omega
 ·have h:=of_decide_eq_false h;rw[cond_false];refine qag (λ h2=>?_) (λ h2=>?_)
  ·have h2:=of_decide_eq_true h2;refine QC.flat (qmh ?_) rfl rfl;simp[qok];omega
  ·have h2:=of_decide_eq_false h2;have e:qok s=allS (s.drop 0):=by
    unfold qok;rw[decide_eq_true (by omega),decide_eq_true (by omega)];rfl
   refine ((qzf s _ 0 (Nat.le_refl _)).post λ rs blk hq=>QC.flat (by rw[hq,<- e];rfl) rfl (by rw[hq];rfl)).only ⟨rfl,trivial⟩ ⟨rfl,trivial⟩
theorem qzg:Held Tryd.prog G0 38 ctNam:=Held.run dx2 (fn:=Tryd.f38) rfl rfl ⟨by decide,by decide⟩ λ x _=>q4r x.1
abbrev D3:CV:=(38,.inl ctNam)::D2
theorem dx3:CxOK Tryd.prog tt G0 D3:=(dx2).k qzg (fn:=Tryd.f38)
theorem q53 (l:List Sec) (n:Int) (Q:QT) (R:RT):sA D3 Tryd.f22 Q R [.code (qae Tryd.f22)] (entry [.sl seS,iI] (l,n,())) =
  (bc (decide ((8:Int)<(l.length:Int))) (Q [.bool false] []) (R (hd Tryd.f22 0) { env:=[(0,.sl (Sh.str.pair ((Sh.int i64).pair ((Sh.int i64).pair Sh.bool))) l),(1,.i n),(4,.bool false),(5,.i 0),(8,.sl (Sh.str.pair ((Sh.int i64).pair ((Sh.int i64).pair Sh.bool))) l),(9,.i (l.length:Int)),(10,.bool (decide ((8:Int)<(l.length:Int)))),(11,.sl (Sh.str.pair ((Sh.int i64).pair ((Sh.int i64).pair Sh.bool))) l),(12,.i (l.length:Int)),(13,.i 0)],blk:=[] })):=by kernel_rfl
def qgr (l:List Sec) (i:Int):List (Nat × LB):=[(7,.var [.str (gt (Sh.str.pair ((Sh.int i64).pair ((Sh.int i64).pair Sh.bool))) l i.toNat).1,.i (gt (Sh.str.pair ((Sh.int i64).pair ((Sh.int i64).pair Sh.bool))) l i.toNat).2.1,.i (gt (Sh.str.pair ((Sh.int i64).pair ((Sh.int i64).pair Sh.bool))) l i.toNat).2.2.1,.bool (gt (Sh.str.pair ((Sh.int i64).pair ((Sh.int i64).pair Sh.bool))) l i.toNat).2.2.2])]
theorem qtw (l:List Sec) (n e i:Int) (Q:QT) (R:RT):sA D3 Tryd.f22 Q (λ it S=>R it (qbx [0,1,5,11,12,13] [] S)) (hd Tryd.f22 0) ⟨[(0,.sl seS l),(1,.i n),(5,.i e),(11,.sl seS l),(12,.i l.length),(13,.i i)],[]⟩ =
  (bc (decide (i<(l.length:Int))) ((0:Int)<=i/\i<(l.length:Int)/\ctNam.pre ((gt (Sh.str.pair ((Sh.int i64).pair ((Sh.int i64).pair Sh.bool))) l i.toNat).1,())/\bc (!qok (gt (Sh.str.pair ((Sh.int i64).pair ((Sh.int i64).pair Sh.bool))) l i.toNat).1) (true=true/\true=true/\Q [.bool false] (qgr l i)) ((0:Int)<=i/\i<=(l.length:Int)/\ctHas.pre (List.take i.toNat l,(gt (Sh.str.pair ((Sh.int i64).pair ((Sh.int i64).pair Sh.bool))) l i.toNat).1,())/\bc (bif false then true else hasN (List.take i.toNat l) (gt (Sh.str.pair ((Sh.int i64).pair ((Sh.int i64).pair Sh.bool))) l i.toNat).1) (true=true/\Q [.bool false] (qgr l i)) (ctPlc.pre (((gt (Sh.str.pair ((Sh.int i64).pair ((Sh.int i64).pair Sh.bool))) l i.toNat).1,(gt (Sh.str.pair ((Sh.int i64).pair ((Sh.int i64).pair Sh.bool))) l i.toNat).2.1,(gt (Sh.str.pair ((Sh.int i64).pair ((Sh.int i64).pair Sh.bool))) l i.toNat).2.2.1,(gt (Sh.str.pair ((Sh.int i64).pair ((Sh.int i64).pair Sh.bool))) l i.toNat).2.2.2),e,n,())/\bc (bif false then true else !plcB e n ((gt (Sh.str.pair ((Sh.int i64).pair ((Sh.int i64).pair Sh.bool))) l i.toNat).1,(gt (Sh.str.pair ((Sh.int i64).pair ((Sh.int i64).pair Sh.bool))) l i.toNat).2.1,(gt (Sh.str.pair ((Sh.int i64).pair ((Sh.int i64).pair Sh.bool))) l i.toNat).2.2.1,(gt (Sh.str.pair ((Sh.int i64).pair ((Sh.int i64).pair Sh.bool))) l i.toNat).2.2.2)) (Q [.bool false] (qgr l i)) (R (hd Tryd.f22 0) { env:=[(0,.sl (Sh.str.pair ((Sh.int i64).pair ((Sh.int i64).pair Sh.bool))) l),(1,.i n),(5,.i (gt (Sh.str.pair ((Sh.int i64).pair ((Sh.int i64).pair Sh.bool))) l i.toNat).2.2.1),(11,.sl (Sh.str.pair ((Sh.int i64).pair ((Sh.int i64).pair Sh.bool))) l),(12,.i (l.length:Int)),(13,.i (i64.wrap (i+1)))],blk:=[] })))) (Q [.bool true] [])):=by kernel_rfl
def valF (n:Int):List Sec->Int->List Sec->Bool
 | _,_,[]=>true
 | d,e,s::r=>qok s.1 && !hasN d s.1&&plcB e n s&&valF n (d++[s]) s.2.2.1 r
def validB (l:List Sec) (n:Int):Bool:=decide (l.length<=8)&&valF n [] 0 l
theorem que {n e:Int} {l:List Sec} {i:Nat} (h:i<l.length):valF n (l.take i) e (l.drop i)=(qok l[i].1 && !hasN (l.take i) l[i].1&&plcB e n l[i]&&valF n (l.take (i+1)) l[i].2.2.1 (l.drop (i+1))):=by
 rw[qln h,valF,List.take_succ_eq_append_getElem h]
def ctVal (p:Prop):Ctr:=⟨[.sl seS,iI],λ x=>p/\∀ s∈(x.1:List Sec),s.1.length<2 ^ 62,λ x=>[.bool (validB x.1 x.2.1)],λ _=>[]⟩
theorem qya {l:List Sec} {n:Int} (h8:l.length<=8):∀ (k i:Nat) (e:Int),l.length-i<=k->i<=l.length ->
  GD 22 Tryd.f22 (λ rs _=>rs=[.bool (valF n (l.take i) e (l.drop i))]) (hd Tryd.f22 0) ⟨[(0,.sl seS l),(1,.i n),(5,.i e),(11,.sl seS l),(12,.i l.length),(13,.i (i:Nat))],[]⟩:=by
 have hend:∀ (i:Nat) (e:Int),¬ i<l.length->GD 22 Tryd.f22 (λ rs _=>rs=[.bool (valF n (l.take i) e (l.drop i))]) (hd Tryd.f22 0) ⟨[(0,.sl seS l),(1,.i n),(5,.i e),(11,.sl seS l),(12,.i l.length),(13,.i (i:Nat))],[]⟩:=by
  intro i e hi;refine qaw dx3 (qtw l n e i _ _) ?_;rw[decide_eq_false (by omega),bc_f,List.drop_eq_nil_of_le (by omega)];rfl
 intro k
 induction k with
 | zero=>intro i e h1 _;exact hend i e (by omega)
 | succ k ih=>
  intro i e h1 h2;by_cases hi:i<l.length
  ·refine qaw dx3 (qtw l n e i _ _) ?_;have e1:gt seS l (i:Int).toNat=l[i]:=gtE hi;have k2:=ih (i+1) l[i].2.2.1 (by omega) (by omega);rw[decide_eq_true (show (i:Int)<(l.length:Int) by omega),bc_t,e1,que hi,IntWalk.i64_in ((i:Int)+1) (by omega),Int.toNat_natCast];have hps:qyv (l.take i).length:=by unfold qyv;rw[List.length_take];omega
   generalize l[i]=x at *;have ex:(x.1,x.2.1,x.2.2.1,x.2.2.2)=x:=rfl;rw[ex];refine ⟨by omega,by omega,trivial,qag (λ h=>⟨rfl,rfl,?_⟩) (λ h=>⟨by omega,by omega,hps,?_⟩)⟩
   ·simp only[Bool.not_eq_true'] at h;rw[h];rfl
   ·simp only[Bool.not_eq_false'] at h;rw[h,cond_false];refine qag (λ h3=>⟨rfl,?_⟩) (λ h3=>⟨trivial,?_⟩)
    ·rw[h3];rfl
    ·rw[h3,cond_false];refine qag (λ h4=>?_) (λ h4=>?_)
     ·simp only[Bool.not_eq_true'] at h4;rw[h4];rfl
     ·simp only[Bool.not_eq_false'] at h4;rw[h4];exact k2
  ·exact hend i e hi
theorem q3f (l:List Sec) (n:Int):sA D3 Tryd.f22 (QC (ctVal True) (l,n,())) (Px.Good Tryd.prog tt G0 22 Tryd.f22.ntmps Tryd.f22.results.toList (QC (ctVal True) (l,n,()))) [.code (qae Tryd.f22)] (entry [.sl seS,iI] (l,n,())):=by
 rw[q53];refine qag (λ h=>?_) (λ h=>?_)
 ·have h:=of_decide_eq_true h;exact QC.flat (qmh (by simp[validB];omega)) rfl rfl
 ·have h:=of_decide_eq_false h;have e:validB l n=valF n (l.take 0) 0 (l.drop 0):=by
   unfold validB;rw[decide_eq_true (by omega)];rfl
  exact ((qya (by omega) _ 0 0 (Nat.le_refl _) (Nat.zero_le _)).post λ rs blk hq=>QC.flat (by rw[hq,<- e];rfl) rfl (by rw[hq];rfl)).only ⟨rfl,rfl,rfl,rfl,rfl,rfl,trivial⟩ trivial
theorem val_held:Held Tryd.prog G0 22 (ctVal True):=Held.run dx3 (fn:=Tryd.f22) rfl rfl ⟨by decide,by decide⟩ λ x _=>q3f x.1 x.2.1
end Go.Proofs.YtdeacfammdjajaaDoor.Im
