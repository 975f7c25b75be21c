/-
  A part of the proof: what pieces of the program give; conditions: those of each theorem.
-/
import Derived.Test.YtgopblmdkjkbbaaGreatDoorQ0
import Derived.Test.YtgopblmdkjkbbaaGreatDoorQ1
import Derived.Test.YtgopblmdkjkbbaaGreatDoorHD
set_option linter.unusedVariables false
set_option linter.unusedSimpArgs false
namespace Go.Proofs.YtgopblmdkjkbbaaGreatDoor
open Go.Px Go.Ax
abbrev LiT:Type:=Int × Int × Int × Int
def zLi:LiT:=(0,0,0,0)
def canB (k:Int) (s:SyT):Bool:=if k=1 then s.1&&decide (s.2.2=0) else if k=2 then s.1 else !s.1
def goK (k:Int) (s t:SyT):Bool:=if k=1\/k=2 then decide (t.2.1=IntKind.i64.wrap (s.2.1+1)) else if k=3 then decide (t.2.2=s.2.2) else true
def hdC (k:Int):Int:=if k=4 then 2 else 4
def eaC (k:Int):Int:=if k=2\/k=4 then 1 else 0
def betB (a b:LiT):Bool:=
 if a.2.1=0\/b.2.1=0 then decide (0<a.2.1)&&decide (b.2.1=0)
 else if a.2.2.1≠b.2.2.1 then decide (a.2.2.1<b.2.2.1)
 else if a.2.2.2≠b.2.2.2 then decide (a.2.2.2<b.2.2.2)
 else if a.1≠b.1 then decide (a.1<b.1)
 else decide (b.2.1<a.2.1)
def oneF (k:Int) (w:Int × Int):LiT:=(k,1,w.1+hdC k+eaC k,w.2+1)
def qkp (k:Int) (g:LiT):LiT:=(k,g.2.1+1,g.2.2.1+eaC k,g.2.2.2)
def begF (k:Int) (s t:SyT) (w:Int × Int) (g:LiT):LiT:=
 if canB k s=false then zLi
 else if g.2.1=0\/goK k s t=false then oneF k w
 else if betB (oneF k w) (qkp k g)=true then oneF k w else qkp k g
def upd (b g:LiT):LiT:=if betB g b=true then g else b
def q93 (g:Int->LiT):LiT:=upd (upd (upd (upd zLi (g 1)) (g 2)) (g 3)) (g 4)
def tb:List SyT->(Int->LiT) × LiT
 | []=>(λ _=>zLi,zLi)
 | s::r=>(λ k=>begF k s (gtY r 0) (tb r).2.2.2 ((tb r).1 k),q93 λ k=>begF k s (gtY r 0) (tb r).2.2.2 ((tb r).1 k))
def bst (l:List SyT):LiT:=(tb l).2
def beg (l:List SyT) (k:Int):LiT:=(tb l).1 k
theorem qsq (s:SyT) (r:List SyT) (k:Int):beg (s::r) k=begF k s (gtY r 0) (bst r).2.2 (beg r k):=rfl
theorem q1w (s:SyT) (r:List SyT):bst (s::r)=q93 λ k=>beg (s::r) k:=rfl
def fitN (k:Int):List SyT->Nat
 | []=>0
 | s::r=>if canB k s=true then (if goK k s (gtY r 0)=true then 1+fitN k r else 1) else 0
theorem qfm (k:Int):∀ l,fitN k l<=l.length
 | []=>Nat.le_refl _
 | s::r=>by
  have:=qfm k r;rw[fitN,List.length_cons];split
  ·split <;> omega
  ·omega
def keyT (b:LiT):Int:=((b.2.2.1*4294967296+b.2.2.2)*8+b.1)*1048576-b.2.1
def wB (b:LiT):Int:=b.2.2.1*4294967296+b.2.2.2
def keyL (k:Int) (n:Nat) (l:List SyT):Int:=(((hdC k+eaC k*(n:Int))*4294967296+1+wB (bst (l.drop n)))*8+k)*1048576-(n:Int)
def boL (m:Nat) (b:LiT):Prop:=0<=b.2.2.1/\b.2.2.1<=5*(m:Int)/\0<=b.2.2.2/\b.2.2.2<=(m:Int)
def okB (k:Int) (l:List SyT) (g:LiT):Prop:=
 (fitN k l=0/\g=zLi)\/(g.1=k/\∃ n:Nat,g.2.1=(n:Int)/\1<=n/\n<=fitN k l/\keyT g=keyL k n l/\(∀ m:Nat,1<=m->m<=fitN k l->keyL k n l<=keyL k m l)/\boL l.length g)
abbrev kOK (k:Int):Prop:=1<=k/\k<=4
def okL (l:List SyT) (b:LiT):Prop:=
 (l=[]/\b=zLi)\/(l≠[]/\kOK b.1/\∃ n:Nat,b.2.1=(n:Int)/\1<=n/\n<=fitN b.1 l/\keyT b=keyL b.1 n l/\(∀ k,kOK k->∀ m:Nat,1<=m->m<=fitN k l->keyL b.1 n l<=keyL k m l)/\boL l.length b)
theorem qsp {a b:LiT} (ha:kOK a.1) (hb:kOK b.1) (a1:1<=a.2.1/\a.2.1<1048576) (b1:1<=b.2.1/\b.2.1<1048576) (a2:0<=a.2.2.2/\a.2.2.2<4294967296) (b2:0<=b.2.2.2/\b.2.2.2<4294967296) :
  (betB a b=true↔keyT a<keyT b):=by
 obtain ⟨k,n,c,o⟩:=a;obtain ⟨k',n',c',o'⟩:=b;simp only[kOK] at *;unfold betB keyT;simp only;rw[if_neg (by omega)];by_cases h1:c=c'
 ·rw[if_neg (by simpa using h1)];by_cases h2:o=o'
  ·rw[if_neg (by simpa using h2)];by_cases h3:k=k'
   ·rw[if_neg (by simpa using h3)];simp only[decide_eq_true_eq];omega
   ·rw[if_pos h3];simp only[decide_eq_true_eq];omega
  ·rw[if_pos h2];simp only[decide_eq_true_eq];omega
 ·rw[if_pos h1];simp only[decide_eq_true_eq];omega
theorem zaj (k:Int):2<=hdC k/\hdC k<=4:=by unfold hdC;split <;> omega
theorem zat (k:Int):0<=eaC k/\eaC k<=1:=by unfold eaC;split <;> omega
theorem qr4 (k:Int) (s:SyT) (r:List SyT):keyL k 1 (s::r)=keyT (oneF k (bst r).2.2):=by
 have e:(s::r).drop 1=r:=rfl;unfold keyL keyT oneF wB;rw[e];simp only[Int.mul_one,Int.natCast_one];omega
theorem qk3 (k:Int) (s:SyT) (r:List SyT) (n:Nat):keyL k (n+1) (s::r)=keyL k n r+eaC k*36028797018963968-1:=by
 have e:(s::r).drop (n+1)=r.drop n:=rfl;unfold keyL;rw[e,Int.natCast_add,Int.natCast_one,Int.mul_add,Int.mul_one];omega
theorem qxb (k:Int) (g:LiT) (hk:g.1=k):keyT (qkp k g)=keyT g+eaC k*36028797018963968-1:=by
 unfold keyT qkp;simp only[hk];omega
theorem za4 (m:Nat):boL m zLi:=by
 unfold boL zLi;simp only;omega
theorem q0a {k:Int} (hk:kOK k) {s:SyT} {r:List SyT} (hr:okB k r (beg r k)) (hb:boL r.length (bst r)) (hl:(s::r).length<=65536):okB k (s::r) (beg (s::r) k):=by
 rw[qsq];unfold begF;have hh:=zaj k;have he:=zat k;have hn:=qfm k r;rw[List.length_cons] at hl;by_cases hc:canB k s=false
 ·rw[if_pos hc];exact .inl ⟨by rw[fitN,if_neg (by rw[hc];decide)],rfl⟩
 ·rw[if_neg hc];have hc:canB k s=true:=by simpa using hc
  have hone:boL (s::r).length (oneF k (bst r).2.2):=by
   unfold boL oneF at *;simp only[List.length_cons];omega
  by_cases hg:(beg r k).2.1=0\/goK k s (gtY r 0)=false
  ·rw[if_pos hg];have hf:fitN k (s::r)=1:=by
    rw[fitN,if_pos hc];split
    next h=>
     rcases hg with hg | hg
     ·rcases hr with hr | ⟨_,n,h1,h2,_⟩
      ·rw[hr.1]
      ·omega
     ·rw[hg] at h;cases h
    ·rfl
   refine .inr ⟨rfl,1,rfl,Nat.le_refl _,by omega,(qr4 k s r).symm,λ m h1 h2=>?_,hone⟩;have:m=1:=by omega
   rw[this];exact Int.le_refl _
  ·rw[if_neg hg];have hg1:¬ (beg r k).2.1=0:=λ h=>hg (.inl h)
   have hg2:goK k s (gtY r 0)=true:=by
    have:¬ goK k s (gtY r 0)=false:=λ h=>hg (.inr h)
    simpa using this
   rcases hr with hr | ⟨e1,n,h1,h2,h3,h4,h5,h6⟩
   ·rw[hr.2] at hg1;exact absurd rfl hg1
   have hf:fitN k (s::r)=1+fitN k r:=by rw[fitN,if_pos hc,if_pos hg2]
   have hm:keyT (qkp k (beg r k))=keyL k (n+1) (s::r):=by rw[qxb k _ e1,qk3,h4]
   have hmb:boL (s::r).length (qkp k (beg r k)):=by
    unfold boL qkp at *;simp only[List.length_cons];omega
   have ho:=qr4 k s r;have hmo:∀ m:Nat,1<=m->m<=fitN k (s::r)->m=1\/keyL k (n+1) (s::r)<=keyL k m (s::r):=λ m m1 m2=>by
    rcases Nat.lt_or_ge 1 m with h | h
    ·obtain ⟨q,hq⟩:∃ q,m=q+1:=⟨m-1,by omega⟩;subst hq;have:=h5 q (by omega) (by omega);rw[qk3,qk3];exact .inr (by omega)
    ·exact .inl (by omega)
   have hkey:=qsp (a:=oneF k (bst r).2.2) (b:=qkp k (beg r k)) hk hk (show 1<=(1:Int)/\(1:Int)<1048576 by omega) (show 1<=(beg r k).2.1+1/\(beg r k).2.1+1<1048576 by omega) (show 0<=(bst r).2.2.2+1/\(bst r).2.2.2+1<4294967296 by unfold boL at hb;omega) (show 0<=(beg r k).2.2.2/\(beg r k).2.2.2<4294967296 by unfold boL at h6;omega);split
   next hbt=>
    have hlt:=hkey.1 hbt;rw[<- ho,hm] at hlt;refine .inr ⟨rfl,1,rfl,Nat.le_refl _,by omega,ho.symm,λ m m1 m2=>?_,hone⟩;rcases hmo m m1 m2 with h | h
    ·rw[h];exact Int.le_refl _
    ·omega
   next hbt=>
    have hlt:¬ keyT (oneF k (bst r).2.2)<keyT (qkp k (beg r k)):=λ h=>hbt (hkey.2 h)
    rw[<- ho,hm] at hlt;refine .inr ⟨rfl,n+1,by rw[Int.natCast_add,<- h1];rfl,by omega,by omega,hm,λ m m1 m2=>?_,hmb⟩;rcases hmo m m1 m2 with h | h
    ·rw[h];omega
    ·omega
def okU (m:Int) (l:List SyT) (b:LiT):Prop:=
 (b=zLi/\∀ k,1<=k->k<=m->fitN k l=0)\/(kOK b.1/\b.1<=m/\∃ n:Nat,b.2.1=(n:Int)/\1<=n/\n<=fitN b.1 l/\keyT b=keyL b.1 n l/\(∀ k,1<=k->k<=m->∀ q:Nat,1<=q->q<=fitN k l->keyL b.1 n l<=keyL k q l)/\boL l.length b)
theorem qjq {m:Int} {l:List SyT} {b g:LiT} (hm:0<=m/\m<4) (hl:l.length<=65536) (hb:okU m l b) (hg:okB (m+1) l g):okU (m+1) l (upd b g):=by
 have fle:=λ k=>qfm k l
 unfold upd;rcases hg with ⟨h1,h2⟩ | ⟨e1,n,h1,h2,h3,h4,h5,h6⟩
 ·have hx:betB g b=false:=by
   subst h2;unfold betB zLi;simp
  rw[hx,if_neg (by decide)];rcases hb with ⟨q1,q2⟩ | ⟨q1,q2,q,q3,q4,q5,q6,q7,q8⟩
  ·refine .inl ⟨q1,λ k k1 k2=>?_⟩;rcases Int.lt_or_le k (m+1) with h | h
   ·exact q2 k k1 (by omega)
   ·have:k=m+1:=by omega
    rw[this];exact h1
  ·refine .inr ⟨q1,by omega,q,q3,q4,q5,q6,λ k k1 k2 p p1 p2=>?_,q8⟩;rcases Int.lt_or_le k (m+1) with h | h
   ·exact q7 k k1 (by omega) p p1 p2
   ·have:k=m+1:=by omega
    rw[this,h1] at p2;omega
 ·have gk:kOK g.1:=by rw[e1];unfold kOK;omega
  have f1:=fle (m+1);rcases hb with ⟨q1,q2⟩ | ⟨q1,q2,q,q3,q4,q5,q6,q7,q8⟩
  ·have hx:betB g b=true:=by
    subst q1;unfold betB zLi;rw[if_pos (.inr rfl)];simp;omega
   rw[hx,if_pos rfl];refine .inr ⟨gk,by omega,n,h1,h2,by rw[e1];exact h3,by rw[e1];exact h4,λ k k1 k2 p p1 p2=>?_,h6⟩;rcases Int.lt_or_le k (m+1) with h | h
   ·rw[q2 k k1 (by omega)] at p2;omega
   ·have hk:k=m+1:=by omega
    subst hk;rw[e1];exact h5 p p1 p2
  ·have f2:=fle b.1;have hkey:=qsp (a:=g) (b:=b) gk q1 (by omega) (by omega) (by unfold boL at h6;omega) (by unfold boL at q8;omega);have e2:keyL g.1 n l=keyL (m+1) n l:=by rw[e1]
   split
   next hx=>
    have hlt:=hkey.1 hx;refine .inr ⟨gk,by omega,n,h1,h2,by rw[e1];exact h3,by rw[e1];exact h4,λ k k1 k2 p p1 p2=>?_,h6⟩;rcases Int.lt_or_le k (m+1) with h | h
    ·have:=q7 k k1 (by omega) p p1 p2;omega
    ·have hk:k=m+1:=by omega
     subst hk;rw[e2];exact h5 p p1 p2
   next hx=>
    have hlt:¬ keyT g<keyT b:=λ h=>hx (hkey.2 h)
    refine .inr ⟨q1,by omega,q,q3,q4,q5,q6,λ k k1 k2 p p1 p2=>?_,q8⟩;rcases Int.lt_or_le k (m+1) with h | h
    ·exact q7 k k1 (by omega) p p1 p2
    ·have hk:k=m+1:=by omega
     subst hk;have:=h5 p p1 p2;omega
theorem q1h (s:SyT) (r:List SyT):(1:Nat)<=fitN 2 (s::r)\/(1:Nat)<=fitN 4 (s::r):=by
 cases h:s.1
 ·right;rw[fitN,if_pos (by simp[canB,h])];split <;> omega
 ·left;rw[fitN,if_pos (by simp[canB,h])];split <;> omega
theorem qrw:∀ l:List SyT,l.length<=65536->(∀ k,kOK k->okB k l (beg l k))/\okL l (bst l)
 | [],_=>⟨λ k _=>.inl ⟨rfl,rfl⟩,.inl ⟨rfl,rfl⟩⟩
 | s::r,hl=>by
  have hr:=qrw r (by rw[List.length_cons] at hl;omega);have hb:boL r.length (bst r):=by
   rcases hr.2 with h | ⟨_,_,n,_,_,_,_,_,h⟩
   ·rw[h.2];exact za4 _
   ·exact h
  have hg:∀ k,kOK k->okB k (s::r) (beg (s::r) k):=λ k hk=>q0a hk (hr.1 k hk) hb hl
  refine ⟨hg,?_⟩;have h0:okU 0 (s::r) zLi:=.inl ⟨rfl,λ k k1 k2=>by omega⟩;have h1:=qjq (m:=0) (by omega) hl h0 (hg 1 (by unfold kOK;omega));have h2:=qjq (m:=1) (by omega) hl h1 (hg 2 (by unfold kOK;omega));have h3:=qjq (m:=2) (by omega) hl h2 (hg 3 (by unfold kOK;omega));have h4:=qjq (m:=3) (by omega) hl h3 (hg 4 (by unfold kOK;omega));rw[q1w];rcases h4 with ⟨q1,q2⟩ | ⟨q1,q2,q,q3,q4,q5,q6,q7,q8⟩
  ·exfalso;have a:=q2 2 (by omega) (by omega);have b:=q2 4 (by omega) (by omega);rcases q1h s r with h | h <;> omega
  ·exact .inr ⟨by simp,q1,q,q3,q4,q5,q6,λ k hk p p1 p2=>q7 k hk.1 hk.2 p p1 p2,q8⟩
theorem qso (l:List SyT) (hl:l.length<=65536):boL l.length (bst l):=by
 rcases (qrw l hl).2 with h | ⟨_,_,n,_,_,_,_,_,h⟩
 ·rw[h.2];exact za4 _
 ·exact h
set_option maxRecDepth 100000
abbrev suS:Sh:=.pair iI iI
abbrev liS:Sh:=.pair iI (.pair iI suS)
set_option maxRecDepth 100000
theorem qyu (a:Int) (Q:QT) (R:RT):sA [] Tryz.f200 Q R [.code (qad Tryz.f200)] (entry [iI] (a,())) =
  (Q [.bool (decide (a≠a))] []):=by kernel_rfl
theorem q47 (k:Int) (s:SyT) (Q:QT) (R:RT):sA [] Tryz.f190 Q R [.code (qad Tryz.f190)] (entry [iI,syS] (k,s,())) =
  (bc (decide (k=(1:Int))) (bc s.1 (Q [.bool (decide (s.2.2=(0:Int)))] [(3,.var [.bool s.1,.i s.2.1,.u s.2.2])]) (false=false/\Q [.bool false] [(3,.var [.bool s.1,.i s.2.1,.u s.2.2])])) (bc (decide (k=(2:Int))) (Q [.bool s.1] [(3,.var [.bool s.1,.i s.2.1,.u s.2.2])]) (Q [.bool !s.1] [(3,.var [.bool s.1,.i s.2.1,.u s.2.2])]))):=by kernel_rfl
def qcs (s t:SyT):List (Nat × LB):=[(4,.var [.bool s.1,.i s.2.1,.u s.2.2]),(5,.var [.bool t.1,.i t.2.1,.u t.2.2])]
theorem q43 (k:Int) (s t:SyT) (Q:QT) (R:RT):sA [] Tryz.f191 Q R [.code (qad Tryz.f191)] (entry [iI,syS,syS] (k,s,t,())) =
  (bc (decide (k=(1:Int))) (bc (decide (k=(1:Int))) (Q [.bool (decide (t.2.1=IntKind.i64.wrap (s.2.1+1)))] (qcs s t)) (bc (decide (k=(3:Int))) (Q [.bool (decide (t.2.2=s.2.2))] (qcs s t)) (Q [.bool true] (qcs s t)))) (bc (decide (k=(2:Int))) (Q [.bool (decide (t.2.1=IntKind.i64.wrap (s.2.1+1)))] (qcs s t)) (bc (decide (k=(3:Int))) (Q [.bool (decide (t.2.2=s.2.2))] (qcs s t)) (Q [.bool true] (qcs s t))))):=by kernel_rfl
theorem vc_or (x:List Int) (Q:QT) (R:RT):sA [] Tryz.f192 Q R [.code (qad Tryz.f192)] (entry [.sl iI] (x,())) =
  (R (hd Tryz.f192 0) { env:=[(0,.sl iI x),(2,.i 0),(3,.i 0),(6,.sl iI x),(7,.i x.length),(8,.i 0)],blk:=[] }):=by kernel_rfl
theorem q2r (x:List Int) (i:Nat) (Q:QT) (R:RT):sA [] Tryz.f192 Q R (hd Tryz.f192 0) ⟨[(3,.i 0),(6,.sl iI x),(7,.i x.length),(8,.i (i:Nat))],[]⟩ =
  (bc (decide ((i:Int)<x.length)) ((0:Int)<=i/\(i:Int)<x.length/\bc (decide (gt iI x (i:Int).toNat≠0)) (Q [.i (gt iI x (i:Int).toNat)] []) (R (hd Tryz.f192 0) { env:=[(3,.i 0),(5,.i (gt iI x (i:Int).toNat)),(6,.sl iI x),(7,.i x.length),(8,.i (IntKind.i64.wrap ((i:Int)+1))),(9,.bool (decide ((i:Int)<x.length))),(10,.elv iI (gt iI x (i:Int).toNat)),(11,.i (gt iI x (i:Int).toNat)),(12,.i (gt iI x (i:Int).toNat)),(13,.i 0),(14,.bool (decide (gt iI x (i:Int).toNat≠0))),(16,.i (IntKind.i64.wrap ((i:Int)+1)))],blk:=[] })) (Q [.i 0] [])):=by kernel_rfl
attribute [local irreducible] Go.Px.sy Go.Px.syE
def ctNan:Ctr:=⟨[iI],λ _=>True,λ _=>[.bool false],λ _=>[]⟩
theorem q0f:Held Tryz.prog G0 200 ctNan:=Held.run cx0 (fn:=Tryz.f200) rfl rfl ⟨by decide,by decide⟩ λ x _=>by
 refine (qyu x.1 _ _).mpr ?_;rw[decide_eq_false (by simp)];exact QC.flat rfl rfl rfl
def CNan:CV:=[(200,.inl ctNan)]
theorem cxNan:CxOK Tryz.prog tt G0 CNan:=cx0.k q0f (fn:=Tryz.f200)
def ctCan:Ctr:=⟨[iI,syS],λ _=>True,λ x=>[.bool (canB x.1 x.2.1)],λ _=>[]⟩
theorem q7w (k:Int) (o:Bool) (a b:Int) (R:List Item->PS->Prop):sA [] Tryz.f190 (QC ctCan (k,(o,a,b),())) R [.code (qad Tryz.f190)] (entry [iI,syS] (k,(o,a,b),())):=by
 refine (q47 k (o,a,b) _ _).mpr ?_;refine qaf (λ h=>?_) (λ h=>qaf (λ h2=>?_) (λ h2=>?_))
 ·have h:=of_decide_eq_true h;subst h;refine qaf (λ h=>?_) (λ h=>⟨rfl,?_⟩)
  ·have h:o=true:=h;subst h;exact QC.flat rfl rfl rfl
  ·have h:o=false:=h;subst h;exact QC.flat rfl rfl rfl
 ·have h2:=of_decide_eq_true h2;subst h2;exact QC.flat rfl rfl rfl
 ·have h:=of_decide_eq_false h;have h2:=of_decide_eq_false h2;refine QC.flat ?_ rfl rfl
  show [SV.bool (canB k (o,a,b))]=_
  unfold canB;rw[if_neg h,if_neg h2]
theorem q1v:Held Tryz.prog G0 190 ctCan:=Held.run cx0 (fn:=Tryz.f190) rfl rfl ⟨by decide,by decide⟩ λ ⟨k,⟨o,a,b⟩,_⟩ _=>q7w k o a b _
def ctGoe:Ctr:=⟨[iI,syS,syS],λ _=>True,λ x=>[.bool (goK x.1 x.2.1 x.2.2.1)],λ _=>[]⟩
theorem q7d (k:Int) (s t:SyT) (R:List Item->PS->Prop):sA [] Tryz.f191 (QC ctGoe (k,s,t,())) R [.code (qad Tryz.f191)] (entry [iI,syS,syS] (k,s,t,())):=by
 refine (q43 k s t _ _).mpr ?_;have out:∀ b,goK k s t=b->ctGoe.out (k,s,t,())=[SV.bool b]:=λ b e=>congrArg (λ b=>[SV.bool b]) e
 refine qaf (λ h=>?_) (λ h=>qaf (λ h2=>?_) (λ h2=>qaf (λ h3=>?_) (λ h3=>?_)))
 ·have h:=of_decide_eq_true h;subst h;exact QC.flat (out _ rfl) rfl rfl
 ·have h2:=of_decide_eq_true h2;subst h2;exact QC.flat (out _ rfl) rfl rfl
 ·have h3:=of_decide_eq_true h3;subst h3;exact QC.flat (out _ rfl) rfl rfl
 ·have h:=of_decide_eq_false h;have h2:=of_decide_eq_false h2;have h3:=of_decide_eq_false h3;exact QC.flat (out _ (by unfold goK;rw[if_neg (by omega),if_neg h3])) rfl rfl
theorem q1g:Held Tryz.prog G0 191 ctGoe:=Held.run cx0 (fn:=Tryz.f191) rfl rfl ⟨by decide,by decide⟩ λ ⟨k,s,t,_⟩ _=>q7d k s t _
def orF:List Int->Int
 | []=>0
 | a::l=>if a≠0 then a else orF l
def ctOr:Ctr:=⟨[.sl iI],λ x=>List.length x.1<1000000,λ x=>[.i (orF x.1)],λ _=>[]⟩
theorem q6e (x:List Int) (hl:x.length<1000000):∀ (c i:Nat),x.length-i=c->i<=x.length ->
  GD 192 Tryz.f192 (λ rs _=>rs=[.i (orF (x.drop i))]) (hd Tryz.f192 0) ⟨[(3,.i 0),(6,.sl iI x),(7,.i x.length),(8,.i (i:Nat))],[]⟩:=by
 intro c
 induction c with
 | zero=>
  intro i hc hi;refine qlq cx0 (q2r x i _ _) ?_;rw[decide_eq_false (by omega),bc_f,List.drop_eq_nil_of_le (by omega)];rfl
 | succ c ih=>
  intro i hc hi;have hil:i<x.length:=by omega
  have nx:=ih (i+1) (by omega) (by omega);have e:gt iI x i=x[i]:=gtE (e:=iI) hil;refine qlq cx0 (q2r x i _ _) ?_;rw[decide_eq_true (show (i:Int)<(x.length:Int) by omega),bc_t,Int.toNat_natCast,IntWalk.i64_in ((i:Int)+1) (by omega),e];rw[List.drop_eq_getElem_cons hil];refine ⟨by omega,by omega,qaf (λ h=>?_) (λ h=>?_)⟩
  ·have h:x[i]≠0:=of_decide_eq_true h
   show _=_
   rw[orF,if_pos h]
  ·have h:¬ x[i]≠0:=of_decide_eq_false h;rw[orF,if_neg h];exact nx.only ⟨rfl,rfl,rfl,rfl,trivial⟩ trivial
theorem q6f:Held Tryz.prog G0 192 ctOr:=
 Held.of cx0 (fn:=Tryz.f192) rfl rfl ⟨by decide,by decide⟩ λ ⟨x,_⟩ hp=>
  qlq cx0 (vc_or x _ _) (((q6e x hp _ 0 rfl (by omega)).post λ rs blk hq=>QC.flat (by rw[hq];rfl) rfl (by rw[hq];rfl)).only ⟨rfl,rfl,rfl,rfl,trivial⟩ trivial)
def cmF (a b:Int):Int:=if a<b then -1 else if b<a then 1 else 0
def ctCmp:Ctr:=⟨[iI,iI],λ _=>True,λ x=>[.i (cmF x.1 x.2.1)],λ _=>[]⟩
set_option maxRecDepth 100000
theorem q88 (a b:Int) (Q:QT) (R:RT):sA CNan Tryz.f193 Q R [.code (qad Tryz.f193)] (entry [iI,iI] (a,b,())) =
  (ctNan.pre (a,())/\ctNan.pre (b,())/\bc (decide (a<b)) (Q [.i (-1:Int)] []) (bc (decide (b<a)) (Q [.i 1] []) (Q [.i 0] []))):=by kernel_rfl
def qc6 (a b:LiT):List (Nat × LB):=[(2,.var [.i a.1,.i a.2.1,.i a.2.2.1,.i a.2.2.2]),(3,.var [.i b.1,.i b.2.1,.i b.2.2.1,.i b.2.2.2])]
theorem q82 (a b:LiT) (Q:QT) (R:RT):sA [(193,.inl ctCmp),(192,.inl ctOr)] Tryz.f181 Q R [.code (qad Tryz.f181)] (entry [liS,liS] (a,b,())) =
  (bc (decide (a.2.1=(0:Int))) (true=true/\bc (decide ((0:Int)<a.2.1)) (Q [.bool (decide (b.2.1=(0:Int)))] (qc6 a b)) (false=false/\Q [.bool false] (qc6 a b))) (bc (bif false then true else decide (b.2.1=(0:Int))) (bc (decide ((0:Int)<a.2.1)) (Q [.bool (decide (b.2.1=(0:Int)))] (qc6 a b)) (false=false/\Q [.bool false] (qc6 a b))) (bc (!decide ([a.2.2.1,a.2.2.2]=[b.2.2.1,b.2.2.2])) (ctCmp.pre (a.2.2.1,b.2.2.1,())/\ctCmp.pre (a.2.2.2,b.2.2.2,())/\0+2<=(((List.replicate (2:Nat) iI.dflt).set (0:Nat) (cmF a.2.2.1 b.2.2.1)).set (1:Nat) (cmF a.2.2.2 b.2.2.2)).length/\ctOr.pre (winL iI 0 2 (((List.replicate (2:Nat) iI.dflt).set (0:Nat) (cmF a.2.2.1 b.2.2.1)).set (1:Nat) (cmF a.2.2.2 b.2.2.2)),())/\Q [.bool (decide (orF (winL iI 0 2 (((List.replicate (2:Nat) iI.dflt).set (0:Nat) (cmF a.2.2.1 b.2.2.1)).set (1:Nat) (cmF a.2.2.2 b.2.2.2)))<0))] [(2,.var [.i a.1,.i a.2.1,.i a.2.2.1,.i a.2.2.2]),(3,.var [.i b.1,.i b.2.1,.i b.2.2.1,.i b.2.2.2]),(42,.row 3 iI (((List.replicate (2:Nat) iI.dflt).set (0:Nat) (cmF a.2.2.1 b.2.2.1)).set (1:Nat) (cmF a.2.2.2 b.2.2.2)))]) (bc (decide (a.1≠b.1)) (Q [.bool (decide (a.1<b.1))] (qc6 a b)) (Q [.bool (decide (b.2.1<a.2.1))] (qc6 a b)))))):=by kernel_rfl
theorem q7p (a b:Int) (R:List Item->PS->Prop):sA CNan Tryz.f193 (QC ctCmp (a,b,())) R [.code (qad Tryz.f193)] (entry [iI,iI] (a,b,())):=by
 refine (q88 a b _ _).mpr ⟨trivial,trivial,?_⟩;have out:∀ n,cmF a b=n->ctCmp.out (a,b,())=[SV.i n]:=λ b e=>congrArg (λ b=>[SV.i b]) e
 refine qaf (λ h=>?_) (λ h=>qaf (λ h2=>?_) (λ h2=>?_))
 ·exact QC.flat (out _ (by unfold cmF;rw[if_pos (of_decide_eq_true h)])) rfl rfl
 ·exact QC.flat (out _ (by unfold cmF;rw[if_neg (of_decide_eq_false h),if_pos (of_decide_eq_true h2)])) rfl rfl
 ·exact QC.flat (out _ (by unfold cmF;rw[if_neg (of_decide_eq_false h),if_neg (of_decide_eq_false h2)])) rfl rfl
theorem q1o:Held Tryz.prog G0 193 ctCmp:=Held.run cxNan (fn:=Tryz.f193) rfl rfl ⟨by decide,by decide⟩ λ ⟨a,b,_⟩ _=>q7p a b _
def ctBet:Ctr:=⟨[liS,liS],λ _=>True,λ x=>[.bool (betB x.1 x.2.1)],λ _=>[]⟩
theorem zau:CxOK Tryz.prog tt G0 [(193,.inl ctCmp),(192,.inl ctOr)]:=(cx0.k q6f (fn:=Tryz.f192)).k q1o (fn:=Tryz.f193)
theorem q68 (k n c o k' n' c' o':Int) (R:List Item->PS->Prop):sA [(193,.inl ctCmp),(192,.inl ctOr)] Tryz.f181 (QC ctBet ((k,n,c,o),(k',n',c',o'),())) R [.code (qad Tryz.f181)] (entry [liS,liS] ((k,n,c,o),(k',n',c',o'),())):=by
 refine (q82 (k,n,c,o) (k',n',c',o') _ _).mpr ?_;have out:∀ b,betB (k,n,c,o) (k',n',c',o')=b->ctBet.out ((k,n,c,o),(k',n',c',o'),())=[SV.bool b]:=λ b e=>congrArg (λ b=>[SV.bool b]) e
 refine qaf (λ h=>⟨rfl,?_⟩) (λ h=>qaf (λ h2=>?_) (λ h2=>?_))
 ·have h:n=0:=of_decide_eq_true h;refine qaf (λ h2=>?_) (λ h2=>⟨rfl,?_⟩)
  ·have h2:0<n:=of_decide_eq_true h2;exact QC.flat (out _ (by unfold betB;rw[if_pos (.inl h)];simp[h2])) rfl rfl
  ·have h2:¬ 0<n:=of_decide_eq_false h2;exact QC.flat (out _ (by unfold betB;rw[if_pos (.inl h)];simp[h2])) rfl rfl
 ·have h2:decide (n'=0)=true:=h2;have h2:n'=0:=of_decide_eq_true h2;refine qaf (λ h3=>?_) (λ h3=>⟨rfl,?_⟩)
  ·have h3:0<n:=of_decide_eq_true h3;exact QC.flat (out _ (by unfold betB;rw[if_pos (.inr h2)];simp[h3])) rfl rfl
  ·have h3:¬ 0<n:=of_decide_eq_false h3;exact QC.flat (out _ (by unfold betB;rw[if_pos (.inr h2)];simp[h3])) rfl rfl
 ·have h:¬ n=0:=of_decide_eq_false h;have h2:decide (n'=0)=false:=h2;have h2:¬ n'=0:=of_decide_eq_false h2;have hz:¬ (n=0\/n'=0):=by omega
  refine qaf (λ h3=>⟨trivial,trivial,Nat.le_refl 2,(show (2:Nat)<1000000 by decide),?_⟩) (λ h3=>qaf (λ h4=>?_) (λ h4=>?_))
  ·have h3:¬ (c=c'/\o=o'):=by
    intro e;rw[e.1,e.2] at h3;simp at h3
   have ev:orF (winL iI 0 2 (((List.replicate 2 iI.dflt).set 0 (cmF c c')).set 1 (cmF o o')))=orF [cmF c c',cmF o o']:=rfl;refine QC.flat (out _ ?_) rfl rfl
   show betB (k,n,c,o) (k',n',c',o')=decide (orF (winL iI 0 2 (((List.replicate 2 iI.dflt).set 0 (cmF c c')).set 1 (cmF o o')))<0)
   rw[ev];unfold betB;simp only[if_neg hz];by_cases hc:c=c'
   ·have ho:o≠o':=λ e=>h3 ⟨hc,e⟩
    rw[if_neg (by simpa using hc),if_pos ho];refine decide_eq_decide.2 ?_;have e1:cmF c c'=0:=by unfold cmF;rw[if_neg (by omega),if_neg (by omega)]
    rw[orF,if_neg (by simpa using e1)];unfold cmF;simp only[orF];split
    ·simp;omega
    ·split
     ·simp;omega
     ·omega
   ·rw[if_pos hc];refine decide_eq_decide.2 ?_;unfold cmF;simp only[orF];split
    ·simp;omega
    ·split
     ·simp;omega
     ·omega
  ·have h3:c=c'/\o=o':=by simpa using h3
   have h4:k≠k':=of_decide_eq_true h4;exact QC.flat (out _ (by unfold betB;simp only[if_neg hz];rw[if_neg (by simpa using h3.1),if_neg (by simpa using h3.2),if_pos h4])) rfl rfl
  ·have h3:c=c'/\o=o':=by simpa using h3
   have h4:¬ k≠k':=of_decide_eq_false h4;exact QC.flat (out _ (by unfold betB;simp only[if_neg hz];rw[if_neg (by simpa using h3.1),if_neg (by simpa using h3.2),if_neg h4])) rfl rfl
theorem qr6:Held Tryz.prog G0 181 ctBet:=Held.run zau (fn:=Tryz.f181) rfl rfl ⟨by decide,by decide⟩ λ ⟨⟨k,n,c,o⟩,⟨k',n',c',o'⟩,_⟩ _=>q68 k n c o k' n' c' o' _
def mdK (k:Int) (l:List SyT):OpT:=(k,(gtY l 0).2.1,(l.length:Int),if k=3 then (gtY l 0).2.2 else 0,if k=2\/k=4 then l.map λ s=>s.2.2 else [])
def isK (k:Int) (l:List SyT) (n:Nat):Prop:=∀ j,j<n->canB k (gtY l j)=true/\(k=1\/k=2->(gtY l j).2.1=(gtY l 0).2.1+j)/\(k=3->(gtY l j).2.2=(gtY l 0).2.2)
theorem qhv {k:Int} {s:SyT} (hk:k=1\/k=2) (h:canB k s=true):s.1=true:=by
 unfold canB at h;rcases hk with e | e
 ·subst e;rw[if_pos rfl] at h;simp at h;exact h.1
 ·subst e;rw[if_neg (by decide),if_pos rfl] at h;exact h
theorem zak (s:SyT) (r:List SyT) (j:Nat):gtY (s::r) (j+1)=gtY r j:=by
 simp[gt]
theorem qox (s:SyT) (r:List SyT):gtY (s::r) 0=s:=by
 simp[gt]
section
variable {m:Int} (hm:m<16777216)
include hm
theorem q3n {k:Int}:∀ {l:List SyT},(∀ s∈l,sOK m s=true)->isK k l (fitN k l)
 | [],_=>λ j h=>by rw[fitN] at h;omega
 | s::r,hr=>by
  have ih:=q3n (k:=k) (l:=r) λ x hx=>hr x (by simp[hx])
  have hs:=hr s (by simp);intro j hj;rw[fitN] at hj;by_cases hc:canB k s=true
  ·rw[if_pos hc] at hj;rcases j with _ | j
   ·rw[qox];exact ⟨hc,λ _=>by simp,λ _=>rfl⟩
   ·rw[zak,qox];by_cases hg:goK k s (gtY r 0)=true
    ·rw[if_pos hg] at hj;obtain ⟨h1,h2,h3⟩:=ih j (by omega);refine ⟨h1,λ hk=>?_,λ hk=>?_⟩
     ·have b:=qpw hs (qhv hk hc);unfold goK at hg;rw[if_pos hk,decide_eq_true_eq,IntWalk.i64_in _ (by omega)] at hg;rw[h2 hk,hg];omega
     ·unfold goK at hg;rw[if_neg (by omega),if_pos hk,decide_eq_true_eq] at hg;rw[h3 hk,hg]
    ·rw[if_neg hg] at hj;omega
  ·rw[if_neg hc] at hj;omega
theorem qqe {k:Int} {l:List SyT} (hk:kOK k) (hr:∀ s∈l,sOK m s=true) (hi:isK k l l.length):qaz k.toNat (mdK k l)=l:=by
 have key:∀ (el:Nat->SyT),(∀ j,j<l.length->el j=gtY l j)->gen el l.length 0=l:=λ el h=>by
  refine List.ext_getElem? λ j=>?_
  by_cases hj:j<l.length
  ·rw[qql _ _ _ _ (by omega),Nat.zero_add,h j hj,List.getElem?_eq_getElem (by omega),<- qay (by omega)]
  ·rw[List.getElem?_eq_none (by rw[qk6];omega),List.getElem?_eq_none (by omega)]
 have dat:∀ j,j<l.length->gtB (l.map λ s=>s.2.2) j=(gtY l j).2.2:=λ j hj=>by
  rw[qk5 (by rw[List.length_map];omega),List.getElem_map,<- qay (by omega)]
 have ext3:∀ (s:SyT) (x:Bool) (y z:Int),s.1=x->s.2.1=y->s.2.2=z->(x,y,z)=s:=λ s x y z h1 h2 h3=>by subst h1;subst h2;subst h3;rfl
 have ok:∀ j,j<l.length->sOK m (gtY l j)=true:=λ j hj=>by rw[qay hj];exact hr _ (List.getElem_mem hj)
 have at':k=1\/k=2->∀ j,j<l.length->(gtY l j).1=true/\IntKind.i64.wrap ((gtY l 0).2.1+(j:Int))=(gtY l j).2.1:=λ hk j hj=>by
  have h:=hi j hj;have o:=qhv hk h.1;have b:=qpw (ok j hj) o;have e:=h.2.1 hk;have h0:=hi 0 (by omega);have b0:=qpw (ok 0 (by omega)) (qhv hk h0.1);exact ⟨o,by rw[IntWalk.i64_in _ (by omega),e]⟩
 have lit:¬ (k=1\/k=2)->∀ j,j<l.length->(gtY l j).1=false/\(gtY l j).2.1=0:=λ hk j hj=>by
  have h:=(hi j hj).1;unfold canB at h;rw[if_neg (by omega),if_neg (by omega)] at h;have o:(gtY l j).1=false:=by simpa using h
  exact ⟨o,q9y (ok j hj) o⟩
 rcases (show k=1\/k=2\/k=3\/k=4 by unfold kOK at hk;omega) with e | e | e | e
 ·subst e;have c:cntO 1 (mdK 1 l)=l.length:=by show ((l.length:Int)).toNat=_;omega
  show gen _ (cntO 1 _) 0=_
  rw[c];refine key _ λ j hj=>?_
  obtain ⟨o,w⟩:=at' (.inl rfl) j hj;have h:=(hi j hj).1;unfold canB at h;rw[if_pos rfl] at h;simp at h;exact ext3 _ _ _ _ o w.symm h.2
 ·subst e;have c:cntO 2 (mdK 2 l)=l.length:=by show (l.map λ s=>s.2.2).length=_;rw[List.length_map]
  show gen _ (cntO 2 _) 0=_
  rw[c];refine key _ λ j hj=>?_
  obtain ⟨o,w⟩:=at' (.inr rfl) j hj;exact ext3 _ _ _ _ o w.symm (dat j hj).symm
 ·subst e;have c:cntO 3 (mdK 3 l)=l.length:=by show ((l.length:Int)).toNat=_;omega
  show gen _ (cntO 3 _) 0=_
  rw[c];refine key _ λ j hj=>?_
  obtain ⟨o,w⟩:=lit (by decide) j hj;exact ext3 _ _ _ _ o w ((hi j hj).2.2 rfl)
 ·subst e;have c:cntO 4 (mdK 4 l)=l.length:=by show (l.map λ s=>s.2.2).length=_;rw[List.length_map]
  show gen _ (cntO 4 _) 0=_
  rw[c];refine key _ λ j hj=>?_
  obtain ⟨o,w⟩:=lit (by decide) j hj;exact ext3 _ _ _ _ o w (dat j hj).symm
theorem qkx {k:Int} {l:List SyT} (hk:kOK k) (hr:∀ s∈l,sOK m s=true) (hi:isK k l l.length) (h1:1<=l.length) (hl:l.length<=65536):isRB (mdK k l) m=true:=by
 have ok:∀ j,j<l.length->sOK m (gtY l j)=true:=λ j hj=>by rw[qay hj];exact hr _ (List.getElem_mem hj)
 have part:k=1\/k=2->qbi (gtY l 0).2.1 l.length m=true:=λ hk=>by
  have h0:=hi 0 (by omega);have b0:=qpw (ok 0 (by omega)) (qhv hk h0.1);have h9:=hi (l.length-1) (by omega);have b9:=qpw (ok (l.length-1) (by omega)) (qhv hk h9.1);have e:=h9.2.1 hk;have w:IntKind.i64.wrap (m-(l.length:Int))=m-l.length:=IntWalk.i64_in _ (by omega);unfold qbi;rw[w];simp only[Bool.and_eq_true,decide_eq_true_eq];omega
 have lens:decide (1<=(mdK k l).2.2.1)=true/\decide ((mdK k l).2.2.1<=65536)=true:=by
  show decide (1<=(l.length:Int))=true/\decide ((l.length:Int)<=65536)=true
  simp only[decide_eq_true_eq];omega
 have lit:¬ (k=1\/k=2)->(gtY l 0).2.1=0:=λ hk=>by
  have h:=(hi 0 (by omega)).1;unfold canB at h;rw[if_neg (by omega),if_neg (by omega)] at h;have o:(gtY l 0).1=false:=by simpa using h
  exact q9y (ok 0 (by omega)) o
 unfold isRB;rw[lens.1,lens.2];unfold mdK kR;rcases (show k=1\/k=2\/k=3\/k=4 by unfold kOK at hk;omega) with e | e | e | e
 ·subst e;simp[rB,part (.inl rfl)]
 ·subst e;simp[rB,part (.inr rfl)]
 ·subst e;simp[rB,lit (by decide)]
 ·subst e;simp[rB,lit (by decide)]
end
theorem q0k {k:Int} {l:List SyT} (hk:kOK k) (hl:l.length<=65536):cN k.toNat (mdK k l)=hdC k+eaC k*(l.length:Int):=by
 rcases (show k=1\/k=2\/k=3\/k=4 by unfold kOK at hk;omega) with e | e | e | e
 ·subst e;show (4:Int)=hdC 1+eaC 1*_;simp[hdC,eaC]
 ·subst e
  show IntKind.i64.wrap (4+(l.length:Int))=_
  rw[IntWalk.i64_in _ (by omega)];simp[hdC,eaC]
 ·subst e;show (4:Int)=hdC 3+eaC 3*_;simp[hdC,eaC]
 ·subst e
  show IntKind.i64.wrap (2+(l.length:Int))=_
  rw[IntWalk.i64_in _ (by omega)];simp[hdC,eaC]
def cst (l:List SyT):Int:=(bst l).2.2.1
def oct (l:List SyT):Int:=(bst l).2.2.2
theorem eaN (k:Int) (n:Nat):0<=eaC k*(n:Int)/\eaC k*(n:Int)<=n:=by
 unfold eaC;split
 ·omega
 ·omega
theorem q3y {l:List SyT} (hl:l.length<=65536) (h0:l≠[]):kOK (bst l).1/\∃ n:Nat,(bst l).2.1=(n:Int)/\1<=n/\n<=fitN (bst l).1 l/\(∀ k,kOK k->∀ m:Nat,1<=m->m<=fitN k l->keyL (bst l).1 n l<=keyL k m l)/\ cst l=hdC (bst l).1+eaC (bst l).1*(n:Int)+cst (l.drop n)/\oct l=1+oct (l.drop n):=by
 rcases (qrw l hl).2 with ⟨h,_⟩ | ⟨_,hk,n,h1,h2,h3,h4,h5,h6⟩
 ·exact absurd h h0
 refine ⟨hk,n,h1,h2,h3,h5,?_⟩;have hd:(l.drop n).length<=65536:=by rw[List.length_drop];omega
 have hb:=qso (l.drop n) hd;have hf:=qfm (bst l).1 l;unfold keyT keyL wB at h4;unfold boL at hb h6;unfold cst oct;have e1:=eaN (bst l).1 n;generalize eaC (bst l).1*(n:Int)=e at *;generalize (bst (l.drop n))=b at *;rw[List.length_drop] at hb;omega
def chF:Nat->List SyT->List OpT
 | 0,_=>[]
 | f+1,l=>if l=[] then [] else mdK (bst l).1 (l.take (bst l).2.1.toNat)::chF f (l.drop (bst l).2.1.toNat)
def chL (l:List SyT):List OpT:=chF l.length l
theorem q03 {k:Int} {l:List SyT} {n q:Nat} (hq:n<=q) (h:isK k l q):isK k (l.take n) n:=λ j hj=>by
 have e:∀ j,j<n->gtY (l.take n) j=gtY l j:=λ j hj=>by simp[gt,hj]
 rw[e j hj,e 0 (by omega)];exact h j (by omega)
theorem ch_ok {m:Int} (hm:m<16777216):∀ (f:Nat) (l:List SyT),l.length<=f->l.length<=65536->(∀ s∈l,sOK m s=true) ->
  symF (chF f l)=l/\(∀ x∈chF f l,isRB x m=true)/\q1n (chF f l)=cst l/\((chF f l).length:Int)=oct l:=by
 intro f
 induction f with
 | zero=>
  intro l hf hl hr;have e:l=[]:=List.eq_nil_of_length_eq_zero (by omega);subst e;exact ⟨rfl,(λ x hx=>by cases hx),rfl,rfl⟩
 | succ f ih=>
  intro l hf hl hr;by_cases h0:l=[]
  ·subst h0;exact ⟨rfl,(λ x hx=>by cases hx),rfl,rfl⟩
  ·obtain ⟨hb,q,q1,q2,q3,q4,q5,q6⟩:=q3y hl h0;have hq:=qfm (bst l).1 l;have e:chF (f+1) l=mdK (bst l).1 (l.take q)::chF f (l.drop q):=by rw[chF,if_neg h0,q1,Int.toNat_natCast]
   rw[e];have tl:(l.take q).length=q:=by rw[List.length_take];omega
   have dl:(l.drop q).length=l.length-q:=List.length_drop ..;obtain ⟨i1,i2,i3,i4⟩:=ih (l.drop q) (by omega) (by omega) λ s hs=>hr s (List.mem_of_mem_drop hs)
   have tr:∀ s∈l.take q,sOK m s=true:=λ s hs=>hr s (List.mem_of_mem_take hs)
   have ti:isK (bst l).1 (l.take q) (l.take q).length:=by rw[tl];exact q03 q3 (q3n hm hr)
   refine ⟨?_,λ x hx=>?_,?_,?_⟩
   ·rw[symF,i1]
    show qaz (bst l).1.toNat _++_=_
    rw[qqe hm hb tr ti,List.take_append_drop]
   ·rcases List.mem_cons.1 hx with h | h
    ·subst h;exact qkx hm hb tr ti (by omega) (by omega)
    ·exact i2 x h
   ·rw[q1n,i3]
    show cN (bst l).1.toNat _+_=_
    rw[q0k hb (by omega),q5,tl]
   ·rw[List.length_cons,q6];omega
open Go.IntKind(i64 u32 u8)
def CBe:CV:=[(190,.inl ctCan),(191,.inl ctGoe),(181,.inl ctBet)]
theorem cxBe:CxOK Tryz.prog tt G0 CBe:=((cx0.k qr6 (fn:=Tryz.f181)).k q1g (fn:=Tryz.f191)).k q1v (fn:=Tryz.f190)
def q59 (k:Int) (l:List SyT) (g:LiT):Prop:=kOK k/\1<=l.length/\(g.2.1=0\/2<=l.length)
def begL (k:Int) (l:List SyT) (w:Int × Int) (g:LiT):LiT:=begF k (gtY l 0) (gtY l 1) w g
def boB (w:Int × Int) (g:LiT):Prop:=(0<=w.1/\w.1<16777216/\0<=w.2/\w.2<16777216)/\0<=g.2.1/\g.2.1<16777216/\0<=g.2.2.1/\g.2.2.1<16777216
def ctBg:Ctr:=⟨[iI,.sl syS,suS,liS],λ x=>q59 x.1 x.2.1 x.2.2.2.1/\boB x.2.2.1 x.2.2.2.1,λ x=>[.agg [.i (begL x.1 x.2.1 x.2.2.1 x.2.2.2.1).1,.i (begL x.1 x.2.1 x.2.2.1 x.2.2.2.1).2.1,.i (begL x.1 x.2.1 x.2.2.1 x.2.2.2.1).2.2.1,.i (begL x.1 x.2.1 x.2.2.1 x.2.2.2.1).2.2.2]],λ _=>[]⟩
def q56 (k:Int) (l:List SyT):Prop:=kOK k/\1<=l.length/\l.length<16777216
def ctMk:Ctr:=⟨[iI,.sl syS],λ x=>q56 x.1 x.2.1,λ x=>mdV (mdK x.1 x.2.1),λ _=>[]⟩
set_option maxRecDepth 100000
def ql9 (k:Int) (w:Int × Int) (g:LiT):List (Nat × LB):=[(6,.var [.i w.1,.i w.2]),(7,.var [.i g.1,.i g.2.1,.i g.2.2.1,.i g.2.2.2]),(8,.var [.i k,.i 1,.i (i64.wrap (i64.wrap (w.1+(gt (iI.pair iI) costsL k.toNat).1)+(gt (iI.pair iI) costsL k.toNat).2)),.i (i64.wrap (w.2+(1:Int)))]),(9,.var [.i (gt (iI.pair iI) costsL k.toNat).1,.i (gt (iI.pair iI) costsL k.toNat).2]),(10,.var [.i k,.i 1,.i (i64.wrap (i64.wrap (w.1+(gt (iI.pair iI) costsL k.toNat).1)+(gt (iI.pair iI) costsL k.toNat).2)),.i (i64.wrap (w.2+(1:Int)))])]
theorem q9g (k:Int) (l:List SyT) (w:Int × Int) (g:LiT) (Q:QT) (R:RT):sA CBe Tryz.f180 Q R [.code (qad Tryz.f180)] (entry [iI,.sl syS,suS,liS] (k,l,w,g,())) =
  ((0:Int)<=0/\(0:Int)<l.length/\ctCan.pre (k,(gtY l (0)),())/\bc (!canB k (gtY l (0))) (Q [.agg [.i 0,.i 0,.i 0,.i 0]] [(6,.var [.i w.1,.i w.2]),(7,.var [.i g.1,.i g.2.1,.i g.2.2.1,.i g.2.2.2]),(8,.var [.i 0,.i 0,.i 0,.i 0])]) ((0:Int)<=k/\k<(↑(5:Nat):Int)/\bc (decide (g.2.1=(0:Int))) (true=true/\Q [.agg [.i k,.i 1,.i (i64.wrap (i64.wrap (w.1+(gt (iI.pair iI) costsL k.toNat).1)+(gt (iI.pair iI) costsL k.toNat).2)),.i (i64.wrap (w.2+1))]] (ql9 k w g)) ((0:Int)<=0/\(0:Int)<l.length/\(0:Int)<=1/\(1:Int)<l.length/\ctGoe.pre (k,(gtY l (0)),(gtY l (1)),())/\bc (bif false then true else !goK k (gtY l (0)) (gtY l (1))) (Q [.agg [.i k,.i 1,.i (i64.wrap (i64.wrap (w.1+(gt (iI.pair iI) costsL k.toNat).1)+(gt (iI.pair iI) costsL k.toNat).2)),.i (i64.wrap (w.2+1))]] (ql9 k w g)) (ctBet.pre ((k,(1:Int),i64.wrap (i64.wrap (w.1+(gt (iI.pair iI) costsL k.toNat).1)+(gt (iI.pair iI) costsL k.toNat).2),i64.wrap (w.2+1)),(k,i64.wrap (g.2.1+1),i64.wrap (g.2.2.1+(gt (iI.pair iI) costsL k.toNat).2),g.2.2.2),())/\bc (betB (k,(1:Int),i64.wrap (i64.wrap (w.1+(gt (iI.pair iI) costsL k.toNat).1)+(gt (iI.pair iI) costsL k.toNat).2),i64.wrap (w.2+1)) (k,i64.wrap (g.2.1+1),i64.wrap (g.2.2.1+(gt (iI.pair iI) costsL k.toNat).2),g.2.2.2)) (Q [.agg [.i k,.i 1,.i (i64.wrap (i64.wrap (w.1+(gt (iI.pair iI) costsL k.toNat).1)+(gt (iI.pair iI) costsL k.toNat).2)),.i (i64.wrap (w.2+1))]] [(6,.var [.i w.1,.i w.2]),(7,.var [.i g.1,.i g.2.1,.i g.2.2.1,.i g.2.2.2]),(8,.var [.i k,.i 1,.i (i64.wrap (i64.wrap (w.1+(gt (iI.pair iI) costsL k.toNat).1)+(gt (iI.pair iI) costsL k.toNat).2)),.i (i64.wrap (w.2+1))]),(9,.var [.i (gt (iI.pair iI) costsL k.toNat).1,.i (gt (iI.pair iI) costsL k.toNat).2]),(10,.var [.i k,.i 1,.i (i64.wrap (i64.wrap (w.1+(gt (iI.pair iI) costsL k.toNat).1)+(gt (iI.pair iI) costsL k.toNat).2)),.i (i64.wrap (w.2+1))]),(11,.var [.i k,.i (i64.wrap (g.2.1+1)),.i (i64.wrap (g.2.2.1+(gt (iI.pair iI) costsL k.toNat).2)),.i g.2.2.2])]) (Q [.agg [.i k,.i (i64.wrap (g.2.1+1)),.i (i64.wrap (g.2.2.1+(gt (iI.pair iI) costsL k.toNat).2)),.i g.2.2.2]] [(6,.var [.i w.1,.i w.2]),(7,.var [.i g.1,.i g.2.1,.i g.2.2.1,.i g.2.2.2]),(8,.var [.i k,.i (i64.wrap (g.2.1+1)),.i (i64.wrap (g.2.2.1+(gt (iI.pair iI) costsL k.toNat).2)),.i g.2.2.2]),(9,.var [.i (gt (iI.pair iI) costsL k.toNat).1,.i (gt (iI.pair iI) costsL k.toNat).2]),(10,.var [.i k,.i 1,.i (i64.wrap (i64.wrap (w.1+(gt (iI.pair iI) costsL k.toNat).1)+(gt (iI.pair iI) costsL k.toNat).2)),.i (i64.wrap (w.2+1))]),(11,.var [.i k,.i (i64.wrap (g.2.1+1)),.i (i64.wrap (g.2.2.1+(gt (iI.pair iI) costsL k.toNat).2)),.i g.2.2.2])]))))):=by kernel_rfl
def qon (k:Int) (l:List SyT):List (Nat × LB):=[(4,.var [.i k,.i (gtY l (0)).2.1,.i l.length,.u 0,.nils]),(5,.var [.i k,.i (gtY l (0)).2.1,.i l.length,.u 0,.nils])]
theorem vc_mk (k:Int) (l:List SyT) (Q:QT) (R:RT):sA [] Tryz.f165 Q (λ it S=>R it (qa5 [4,5,31,32,33] [4,5,29] S)) [.code (qad Tryz.f165)] (entry [iI,.sl syS] (k,l,())) =
  ((0:Int)<=0/\(0:Int)<l.length/\bc (decide (k=(3:Int))) ((0:Int)<=0/\(0:Int)<l.length/\Q [.agg [.i k,.i (gtY l (0)).2.1,.i l.length,.u (gtY l (0)).2.2,.nils]] [(4,.var [.i k,.i (gtY l (0)).2.1,.i l.length,.u (gtY l (0)).2.2,.nils]),(5,.var [.i k,.i (gtY l (0)).2.1,.i l.length,.u (gtY l (0)).2.2,.nils])]) (bc (decide (k=(2:Int))) (bc (decide (k=(2:Int))) ((0:Int)<=l.length/\(l.length:Int)<=(l.length:Int)/\(l.length:Int)<2 ^ 24/\(↑(1:Nat):Int)*(l.length:Int)<=2 ^ 48/\R (hd Tryz.f165 0) { env:=[(4,.ptr 4 0),(5,.ptr 5 0),(31,.sl syS l),(32,.i l.length),(33,.i 0)],blk:=[(4,.var [.i 0,.i 0,.i 0,.u 0,.nils]),(5,.var [.i k,.i (gtY l (0)).2.1,.i l.length,.u 0,.win true uB 29 0 (l.length:Int).toNat]),(29,.row 5 uB (List.replicate (l.length:Int).toNat uB.dflt))] }) (Q [.agg [.i k,.i (gtY l (0)).2.1,.i l.length,.u 0,.nils]] (qon k l))) (bc (decide (k=(4:Int))) ((0:Int)<=l.length/\(l.length:Int)<=(l.length:Int)/\(l.length:Int)<2 ^ 24/\(↑(1:Nat):Int)*(l.length:Int)<=2 ^ 48/\R (hd Tryz.f165 0) { env:=[(4,.ptr 4 0),(5,.ptr 5 0),(31,.sl syS l),(32,.i l.length),(33,.i 0)],blk:=[(4,.var [.i 0,.i 0,.i 0,.u 0,.nils]),(5,.var [.i k,.i (gtY l (0)).2.1,.i l.length,.u 0,.win true uB 29 0 (l.length:Int).toNat]),(29,.row 5 uB (List.replicate (l.length:Int).toNat uB.dflt))] }) (Q [.agg [.i k,.i (gtY l (0)).2.1,.i l.length,.u 0,.nils]] (qon k l))))):=by kernel_rfl
theorem q8s (k a:Int) (b:List Int) (l:List SyT) (i:Nat) (Q:QT) (R:RT):sA [] Tryz.f165 Q (λ it S=>R it (qa5 [4,5,31,32,33] [4,5,29] S)) (hd Tryz.f165 0) ⟨[(4,.ptr 4 0),(5,.ptr 5 0),(31,.sl syS l),(32,.i l.length),(33,.i (i:Nat))],[(4,.var [.i 0,.i 0,.i 0,.u 0,.nils]),(5,.var [.i k,.i a,.i l.length,.u 0,.win true uB 29 0 b.length]),(29,.row 5 uB b)]⟩ =
  (bc (decide ((i:Int)<l.length)) ((0:Int)<=i/\(i:Int)<l.length/\(0:Int)<=i/\(i:Int)<b.length/\0+(i:Int).toNat<b.length/\R (hd Tryz.f165 0) { env:=[(4,.ptr 4 0),(5,.ptr 5 0),(31,.sl syS l),(32,.i l.length),(33,.i (IntKind.i64.wrap ((i:Int)+1)))],blk:=[(4,.var [.i 0,.i 0,.i 0,.u 0,.nils]),(5,.var [.i k,.i a,.i l.length,.u 0,.win true uB 29 0 b.length]),(29,.row 5 uB (b.set (0+(i:Int).toNat) (gtY l (i:Int).toNat).2.2))] }) (Q [.agg [.i k,.i a,.i l.length,.u 0,.win true uB 29 0 b.length]] [(4,.var [.i k,.i a,.i l.length,.u 0,.win true uB 29 0 b.length]),(5,.var [.i k,.i a,.i l.length,.u 0,.win true uB 29 0 b.length]),(29,.row 5 uB b)])):=by kernel_rfl
theorem q8t (k a:Int) (d:List Int) (l:List SyT) (i:Nat) (Q:QT) (R:RT):sA [] Tryz.f165 Q (λ it S=>R it (qa5 [4,5,31,32,33] [4,5,29] S)) (hd Tryz.f165 0) ⟨[(4,.ptr 4 0),(5,.ptr 5 0),(31,.sl syS l),(32,.i l.length),(33,.i (i:Nat))],[(4,.var [.i 0,.i 0,.i 0,.u 0,.nils]),(5,.var (oJ k a l.length 0 d))]⟩ =
  (bc (decide ((i:Int)<l.length)) ((0:Int)<=i/\(i:Int)<l.length/\(0:Int)<=i/\(i:Int)<d.length/\False) (Q [.agg (oJ k a (l.length:Int) 0 d)] [(4,.var (oJ k a (l.length:Int) 0 d)),(5,.var (oJ k a (l.length:Int) 0 d))])):=by kernel_rfl
theorem q7o {k:Int} (hk:kOK k):gt (iI.pair iI) costsL k.toNat=(hdC k,eaC k):=by
 rcases (show k=1\/k=2\/k=3\/k=4 by unfold kOK at hk;omega) with e | e | e | e <;> subst e <;> rfl
theorem q72 (k:Int) (l:List SyT) (c o gk gn gc go:Int) (hp:q59 k l (gk,gn,gc,go)) (hb:boB (c,o) (gk,gn,gc,go)) (R:List Item->PS->Prop):sA CBe Tryz.f180 (QC ctBg (k,l,(c,o),(gk,gn,gc,go),())) R [.code (qad Tryz.f180)] (entry [iI,.sl syS,suS,liS] (k,l,(c,o),(gk,gn,gc,go),())):=by
 refine (q9g k l (c,o) (gk,gn,gc,go) _ _).mpr ?_;have out:∀ a b d e,begL k l (c,o) (gk,gn,gc,go)=(a,b,d,e)->ctBg.out (k,l,(c,o),(gk,gn,gc,go),())=[SV.agg [.i a,.i b,.i d,.i e]]:=λ a b d e q=>congrArg (λ x:LiT=>[SV.agg [.i x.1,.i x.2.1,.i x.2.2.1,.i x.2.2.2]]) q
 obtain ⟨hk,h1,h2⟩:=hp;obtain ⟨⟨b1,b2,b3,b4⟩,b5,b6,b7,b8⟩:=hb;simp only at b1 b2 b3 b4 b5 b6 b7 b8 h2;have hh:=zaj k;have he:=zat k;have hk':0<=k/\k<5:=by unfold kOK at hk;omega
 rw[q7o hk];simp only;have w1:IntKind.i64.wrap (c+hdC k)=c+hdC k:=IntWalk.i64_in _ (by omega);have w2:IntKind.i64.wrap (c+hdC k+eaC k)=c+hdC k+eaC k:=IntWalk.i64_in _ (by omega);have w3:IntKind.i64.wrap (o+1)=o+1:=IntWalk.i64_in _ (by omega);have w4:IntKind.i64.wrap (gn+1)=gn+1:=IntWalk.i64_in _ (by omega);have w5:IntKind.i64.wrap (gc+eaC k)=gc+eaC k:=IntWalk.i64_in _ (by omega);rw[w1,w2,w3,w4,w5];refine ⟨by omega,by omega,trivial,qaf (λ h=>?_) (λ h=>⟨hk'.1,hk'.2,qaf (λ h3=>⟨by trivial,?_⟩) (λ h3=>⟨by omega,by omega,by omega,?_,trivial,qaf (λ h4=>?_) (λ h4=>⟨trivial,qaf (λ h5=>?_) (λ h5=>?_)⟩)⟩)⟩)⟩
 ·have h:canB k (gtY l 0)=false:=by simpa using h
  exact QC.flat (out _ _ _ _ (by unfold begL begF;rw[if_pos h];rfl)) rfl rfl
 ·have h:¬ canB k (gtY l 0)=false:=by
   have:(!canB k (gtY l 0))=false:=h;simpa using this
  have h3:gn=0:=of_decide_eq_true h3;exact QC.flat (out _ _ _ _ (by unfold begL begF;rw[if_neg h,if_pos (.inl h3)];rfl)) rfl rfl
 ·have h3:¬ gn=0:=of_decide_eq_false h3;omega
 ·have h:¬ canB k (gtY l 0)=false:=by
   have:(!canB k (gtY l 0))=false:=h;simpa using this
  have h4:(!goK k (gtY l 0) (gtY l 1))=true:=h4;have h4:goK k (gtY l 0) (gtY l 1)=false:=by simpa using h4
  exact QC.flat (out _ _ _ _ (by unfold begL begF;rw[if_neg h,if_pos (.inr h4)];rfl)) rfl rfl
 ·have h:¬ canB k (gtY l 0)=false:=by
   have:(!canB k (gtY l 0))=false:=h;simpa using this
  have h3:¬ gn=0:=of_decide_eq_false h3;have h4:(!goK k (gtY l 0) (gtY l 1))=false:=h4;have h4:goK k (gtY l 0) (gtY l 1)=true:=by simpa using h4
  have hz:¬ ((gk,gn,gc,go).2.1=0\/goK k (gtY l 0) (gtY l 1)=false):=by
   rw[h4];intro q;rcases q with q | q
   ·exact h3 q
   ·cases q
  have h5:betB (oneF k (c,o)) (qkp k (gk,gn,gc,go))=true:=h5;exact QC.flat (out _ _ _ _ (by unfold begL begF;rw[if_neg h,if_neg hz,if_pos h5];rfl)) rfl rfl
 ·have h:¬ canB k (gtY l 0)=false:=by
   have:(!canB k (gtY l 0))=false:=h;simpa using this
  have h3:¬ gn=0:=of_decide_eq_false h3;have h4:(!goK k (gtY l 0) (gtY l 1))=false:=h4;have h4:goK k (gtY l 0) (gtY l 1)=true:=by simpa using h4
  have hz:¬ ((gk,gn,gc,go).2.1=0\/goK k (gtY l 0) (gtY l 1)=false):=by
   rw[h4];intro q;rcases q with q | q
   ·exact h3 q
   ·cases q
  have h5:betB (oneF k (c,o)) (qkp k (gk,gn,gc,go))=false:=h5;exact QC.flat (out _ _ _ _ (by unfold begL begF;rw[if_neg h,if_neg hz,if_neg (by rw[h5];decide)];rfl)) rfl rfl
theorem q1y:Held Tryz.prog G0 180 ctBg:=Held.run cxBe (fn:=Tryz.f180) rfl rfl ⟨by decide,by decide⟩ λ ⟨k,l,⟨c,o⟩,⟨gk,gn,gc,go⟩,_⟩ hp=>q72 k l c o gk gn gc go hp.1 hp.2 _
theorem q6x (k a:Int) (l:List SyT) (hl:l.length<16777216):∀ (n i:Nat) (b:List Int),l.length-i=n->i<=l.length->b.length=l.length->(∀ j,j<i->b[j]?=(l.map λ s=>s.2.2)[j]?) ->
  GD 165 Tryz.f165 (λ rs _=>rs=[.agg (oJ k a l.length 0 (l.map λ s=>s.2.2))]) (hd Tryz.f165 0) ⟨[(4,.ptr 4 0),(5,.ptr 5 0),(31,.sl syS l),(32,.i l.length),(33,.i (i:Nat))],[(4,.var [.i 0,.i 0,.i 0,.u 0,.nils]),(5,.var [.i k,.i a,.i l.length,.u 0,.win true uB 29 0 b.length]),(29,.row 5 uB b)]⟩:=by
 intro n
 induction n with
 | zero=>
  intro i b hk hi hb hj;have hi:i=l.length:=by omega
  subst hi;have hbl:b=l.map λ s=>s.2.2:=by
   refine List.ext_getElem? λ j=>?_
   by_cases h:j<l.length
   ·exact hj j h
   ·rw[List.getElem?_eq_none (by omega),List.getElem?_eq_none (by rw[List.length_map];omega)]
  refine Good.frz (i:=29) (e:=uB) (et:=5) (xs:=b) rfl (λ c hc=>?_) ?_
  ·have hc:c∈[0+b.length<=b.length]:=hc;rw[List.mem_singleton] at hc;subst hc;omega
  ·have e:GD 165 Tryz.f165 (λ rs _=>rs=[.agg (oJ k a l.length 0 (l.map λ s=>s.2.2))]) (hd Tryz.f165 0) ⟨[(4,.ptr 4 0),(5,.ptr 5 0),(31,.sl syS l),(32,.i l.length),(33,.i (l.length:Nat))],[(4,.var [.i 0,.i 0,.i 0,.u 0,.nils]),(5,.var (oJ k a l.length 0 (winL uB 0 b.length b)))]⟩:=by
    refine qak cx0 (q8t k a (winL uB 0 b.length b) l l.length _ _) ?_;rw[decide_eq_false (by omega),bc_f,winA,hbl]
   exact e.only ⟨rfl,rfl,rfl,rfl,rfl,trivial⟩ ⟨rfl,rfl,trivial⟩
 | succ n ih=>
  intro i b hk hi hb hj;have hil:i<l.length:=by omega
  refine qak cx0 (q8s k a b l i _ _) ?_;rw[decide_eq_true (show (i:Int)<(l.length:Int) by omega),bc_t,Int.toNat_natCast,qay hil,IntWalk.i64_in ((i:Int)+1) (by omega),Nat.zero_add];refine ⟨by omega,by omega,by omega,by omega,by omega,?_⟩;refine (ih (i+1) (b.set i l[i].2.2) (by omega) (by omega) (by rw[List.length_set];exact hb) (λ j h=>?_)).only ⟨rfl,rfl,rfl,rfl,rfl,trivial⟩ ⟨rfl,?_,rfl,trivial⟩
  ·rw[List.getElem?_set];by_cases hji:i=j
   ·subst hji;rw[if_pos rfl,if_pos (by omega),List.getElem?_map,List.getElem?_eq_getElem hil];rfl
   ·rw[if_neg hji];exact hj j (by omega)
  ·rw[List.length_set];rfl
theorem zad (k:Int) (l:List SyT) (hp:q56 k l):GD 165 Tryz.f165 (QC ctMk (k,l,())) [.code (qad Tryz.f165)] (entry [iI,.sl syS] (k,l,())):=by
 obtain ⟨hk,h0,h1⟩:=hp;have dat:k=2\/k=4->GD 165 Tryz.f165 (QC ctMk (k,l,())) (hd Tryz.f165 0) ⟨[(4,.ptr 4 0),(5,.ptr 5 0),(31,.sl syS l),(32,.i l.length),(33,.i ((0:Nat):Int))],[(4,.var [.i 0,.i 0,.i 0,.u 0,.nils]),(5,.var [.i k,.i (gtY l 0).2.1,.i l.length,.u 0,.win true uB 29 0 (List.replicate (l.length:Int).toNat (0:Int)).length]),(29,.row 5 uB (List.replicate (l.length:Int).toNat (0:Int)))]⟩:=λ hk2=>by
  refine (q6x k (gtY l 0).2.1 l h1 _ 0 (List.replicate (l.length:Int).toNat 0) rfl (by omega) (by rw[List.length_replicate,Int.toNat_natCast]) (λ j h=>by omega)).post λ rs blk hq=>QC.flat ?_ rfl (by rw[hq];rfl)
  rw[hq]
  show mdV (mdK k l)=_
  unfold mdK;rw[if_neg (show ¬ k=3 by omega),if_pos hk2];rfl
 have room:(0:Int)<=(l.length:Int)/\(l.length:Int)<=(l.length:Int)/\(l.length:Int)<(2:Int) ^ (24:Nat)/\((1:Nat):Int)*(l.length:Int)<=(2:Int) ^ (48:Nat):=by
  refine ⟨by omega,by omega,?_,?_⟩
  ·show (l.length:Int)<16777216
   omega
  ·show (1:Int)*(l.length:Int)<=281474976710656
   omega
 refine qak cx0 (vc_mk k l _ _) ⟨by omega,by omega,qaf (λ h=>⟨by omega,by omega,?_⟩) (λ h=>qaf (λ h2=>?_) (λ h2=>qaf (λ h3=>?_) (λ h3=>?_)))⟩
 ·have h:=of_decide_eq_true h;subst h;refine QC.mt ?_ rfl
  show MtL _ (mdV (mdK 3 l)) _
  exact ⟨_,_,rfl,⟨_,rfl,_,_,rfl,rfl,_,_,rfl,rfl,_,_,rfl,rfl,_,_,rfl,rfl,_,_,rfl,.inr ⟨rfl,rfl⟩,rfl⟩,rfl⟩
 ·have h2':=of_decide_eq_true h2;rw[h2,bc_t];refine ⟨room.1,room.2.1,room.2.2.1,room.2.2.2,(dat (.inl h2')).only ⟨rfl,rfl,rfl,rfl,rfl,trivial⟩ ⟨rfl,?_,rfl,trivial⟩⟩;rw[List.length_replicate];rfl
 ·have h3':=of_decide_eq_true h3;refine ⟨room.1,room.2.1,room.2.2.1,room.2.2.2,(dat (.inr h3')).only ⟨rfl,rfl,rfl,rfl,rfl,trivial⟩ ⟨rfl,?_,rfl,trivial⟩⟩;rw[List.length_replicate];rfl
 ·have h:=of_decide_eq_false h;have h2:=of_decide_eq_false h2;have h3:=of_decide_eq_false h3;unfold kOK at hk;have hk1:k=1:=by omega
  subst hk1;refine QC.mt ?_ rfl
  show MtL _ (mdV (mdK 1 l)) _
  exact ⟨_,_,rfl,⟨_,rfl,_,_,rfl,rfl,_,_,rfl,rfl,_,_,rfl,rfl,_,_,rfl,rfl,_,_,rfl,.inr ⟨rfl,rfl⟩,rfl⟩,rfl⟩
theorem q6y:Held Tryz.prog G0 165 ctMk:=Held.of cx0 (fn:=Tryz.f165) rfl rfl ⟨by decide,by decide⟩ λ ⟨k,l,_⟩ hp=>zad k l hp
def CBs:CV:=[(180,.inl ctBg),(181,.inl ctBet)]
theorem cxBs:CxOK Tryz.prog tt G0 CBs:=(cx0.k qr6 (fn:=Tryz.f181)).k q1y (fn:=Tryz.f180)
abbrev gtL (l:List LiT) (i:Nat):LiT:=gt liS l i
set_option maxRecDepth 100000
theorem vc_bs (l:List SyT) (Q:QT) (R:RT):sA CBs Tryz.f164 Q (λ it S=>R it (qa5 [0,3,4,5,6] [4,10] S)) [.code (qad Tryz.f164)] (entry [.sl syS] (l,())) =
  ((0:Int)<=i64.wrap ((l.length:Int)+1)/\i64.wrap ((l.length:Int)+1)<=i64.wrap ((l.length:Int)+1)/\i64.wrap ((l.length:Int)+1)<2 ^ 24/\(↑(32:Nat):Int)*i64.wrap ((l.length:Int)+1)<=2 ^ 48/\R (hd Tryz.f164 0) { env:=[(0,.sl syS l),(3,.win true liS 10 0 (i64.wrap ((l.length:Int)+1)).toNat),(4,.ptr 4 0),(5,.i (i64.wrap ((l.length:Int)-1)))],blk:=[(4,.var [.arr (5:Nat) liS (Sh.arr (5:Nat) liS).dflt]),(10,.row 215 liS (List.replicate (i64.wrap ((l.length:Int)+1)).toNat liS.dflt))] }):=by kernel_rfl
theorem q2t (l:List SyT) (b bg:List LiT) (i:Int) (Q:QT) (R:RT):sA CBs Tryz.f164 Q (λ it S=>R it (qa5 [0,3,4,5,6] [4,10] S)) (hd Tryz.f164 0) ⟨[(0,.sl syS l),(3,.win true liS 10 0 b.length),(4,.ptr 4 0),(5,.i i)],[(4,.var [.arr 5 liS bg]),(10,.row 215 liS b)]⟩ =
  (bc (decide ((0:Int)<=i)) (R (hd Tryz.f164 1) { env:=[(0,.sl syS l),(3,.win true liS 10 0 b.length),(4,.ptr 4 0),(5,.i i),(6,.i 1)],blk:=[(4,.var [.arr (5:Nat) liS bg]),(10,.row 215 liS b)] }) (Q [.win true liS 10 0 b.length] [(4,.var [.arr (5:Nat) liS bg]),(10,.row 215 liS b)])):=by kernel_rfl
theorem q2u (l:List SyT) (b bg:List LiT) (i k:Int) (Q:QT) (R:RT):sA CBs Tryz.f164 Q (λ it S=>R it (qa5 [0,3,4,5,6] [4,10] S)) (hd Tryz.f164 1) ⟨[(0,.sl syS l),(3,.win true liS 10 0 b.length),(4,.ptr 4 0),(5,.i i),(6,.i k)],[(4,.var [.arr 5 liS bg]),(10,.row 215 liS b)]⟩ =
  (bc (decide (k<=4)) ((0:Int)<=i/\i<=(l.length:Int)/\(0:Int)<=i64.wrap (i+1)/\i64.wrap (i+1)<(b.length:Int)/\0+(i64.wrap (i+1)).toNat<b.length/\(0:Int)<=k/\k<(↑(5:Nat):Int)/\k.toNat<5/\ctBg.pre (k,List.drop i.toNat l,((gtL b (0+(i64.wrap (i+1)).toNat)).2.2),(gtL bg k.toNat),())/\(0:Int)<=k/\k<(↑(5:Nat):Int)/\k.toNat<5/\(0:Int)<=k/\k<(↑(5:Nat):Int)/\k.toNat<5/\(0:Int)<=i/\i<(b.length:Int)/\0+i.toNat<b.length/\ctBet.pre ((gtL (bg.set k.toNat (begL k (List.drop i.toNat l) ((gtL b (0+(i64.wrap (i+1)).toNat)).2.2) (gtL bg k.toNat))) k.toNat),(gtL b (0+i.toNat)),())/\bc (betB (gtL (bg.set k.toNat (begL k (List.drop i.toNat l) ((gtL b (0+(i64.wrap (i+1)).toNat)).2.2) (gtL bg k.toNat))) k.toNat) (gtL b (0+i.toNat))) ((0:Int)<=k/\k<(↑(5:Nat):Int)/\k.toNat<5/\(0:Int)<=i/\i<(b.length:Int)/\0+i.toNat<b.length/\R (hd Tryz.f164 1) { env:=[(0,.sl syS l),(3,.win true liS 10 0 b.length),(4,.ptr 4 0),(5,.i i),(6,.i (i64.wrap (k+1)))],blk:=[(4,.var [.arr (5:Nat) liS (bg.set k.toNat (begL k (List.drop i.toNat l) ((gtL b (0+(i64.wrap (i+1)).toNat)).2.2) (gtL bg k.toNat)))]),(10,.row 215 liS (b.set (0+i.toNat) (gtL (bg.set k.toNat (begL k (List.drop i.toNat l) ((gtL b (0+(i64.wrap (i+1)).toNat)).2.2) (gtL bg k.toNat))) k.toNat)))] }) (R (hd Tryz.f164 1) { env:=[(0,.sl syS l),(3,.win true liS 10 0 b.length),(4,.ptr 4 0),(5,.i i),(6,.i (i64.wrap (k+1)))],blk:=[(4,.var [.arr (5:Nat) liS (bg.set k.toNat (begL k (List.drop i.toNat l) ((gtL b (0+(i64.wrap (i+1)).toNat)).2.2) (gtL bg k.toNat)))]),(10,.row 215 liS b)] })) (R (hd Tryz.f164 0) { env:=[(0,.sl syS l),(3,.win true liS 10 0 b.length),(4,.ptr 4 0),(5,.i (i64.wrap (i-1))),(6,.i k)],blk:=[(4,.var [.arr (5:Nat) liS bg]),(10,.row 215 liS b)] })):=by kernel_rfl
def bT (l:List SyT) (m:Nat):List LiT:=(List.range (l.length+1)).map λ j=>if m<=j then bst (l.drop j) else zLi
theorem qmo (l:List SyT) (m:Nat):(bT l m).length=l.length+1:=by simp[bT]
theorem za5 (l:List SyT) (i:Nat) (hi:i<=l.length):bT l i=(bT l (i+1)).set i (bst (l.drop i)):=by
 refine List.ext_getElem? λ j=>?_
 rw[List.getElem?_set];by_cases h:i=j
 ·subst h;rw[if_pos rfl,if_pos (by rw[qmo];omega)];simp[bT,show i<l.length+1 by omega]
 ·rw[if_neg h];unfold bT;by_cases hj:j<l.length+1
  ·simp only[List.getElem?_map,List.getElem?_range hj,Option.map_some];by_cases h2:i<=j
   ·rw[if_pos h2,if_pos (by omega)]
   ·rw[if_neg h2,if_neg (by omega)]
  ·simp[show l.length+1<=j by omega]
theorem bT_z (l:List SyT) (i:Nat) (hi:i<=l.length):(bT l (i+1)).set i zLi=bT l (i+1):=by
 refine List.ext_getElem? λ j=>?_
 rw[List.getElem?_set];by_cases h:i=j
 ·subst h;rw[if_pos rfl,if_pos (by rw[qmo];omega)];simp[bT,show i<l.length+1 by omega,show ¬ (i+1<=i) by omega]
 ·rw[if_neg h]
theorem qya (l:List SyT) (m j:Nat) (hj:j<=l.length) (hm:m<=j):gtL (bT l m) j=bst (l.drop j):=by
 show ((bT l m)[j]?).getD _=_
 simp[bT,show j<l.length+1 by omega,hm]
theorem za6 (l:List SyT):List.replicate (l.length+1) (liS.dflt:LiT)=bT l l.length:=by
 refine List.ext_getElem? λ j=>?_
 by_cases hj:j<l.length+1
 ·simp only[bT,List.getElem?_replicate,List.getElem?_map,List.getElem?_range hj,Option.map_some,if_pos hj];by_cases h:l.length<=j
  ·rw[if_pos h,List.drop_eq_nil_of_le h];rfl
  ·rw[if_neg h];rfl
 ·simp[bT,show l.length+1<=j by omega]
def bgL (r:List SyT):List LiT:=[zLi,beg r 1,beg r 2,beg r 3,beg r 4]
def qch (l:List SyT):List LiT:=bT l 0
def q58 (l:List SyT):Prop:=l.length<=65536
def ctBs:Ctr:=⟨[.sl syS],λ x=>q58 x.1,λ x=>[.win true liS 0 0 (qch x.1).length],λ x=>[.row 215 liS (qch x.1)]⟩
section
variable (l:List SyT) (hl:l.length<=65536)
abbrev BQ:List SV->List (Nat × LB)->Prop:=QC ctBs (l,())
abbrev bsO (b bg:List LiT) (i:Int):PS:=⟨[(0,.sl syS l),(3,.win true liS 10 0 b.length),(4,.ptr 4 0),(5,.i i)],[(4,.var [.arr 5 liS bg]),(10,.row 215 liS b)]⟩
abbrev bsI (b bg:List LiT) (i k:Int):PS:=⟨[(0,.sl syS l),(3,.win true liS 10 0 b.length),(4,.ptr 4 0),(5,.i i),(6,.i k)],[(4,.var [.arr 5 liS bg]),(10,.row 215 liS b)]⟩
include hl
theorem qnw (i:Nat) (hi:i<l.length) (k:Nat) (hk:1<=k/\k<=4) (b bg:List LiT) (hb:b.length=l.length+1) (hbg:bg.length=5) (c:LiT) (h1:gtL b (i+1)=bst (l.drop (i+1))) (hg:gtL bg k=beg (l.drop (i+1)) k)
  (nx:GD 164 Tryz.f164 (BQ l) (hd Tryz.f164 1) (bsI l (b.set i (upd c (beg (l.drop i) k))) (bg.set k (beg (l.drop i) k)) i ((k+1:Nat):Int))) :
  GD 164 Tryz.f164 (BQ l) (hd Tryz.f164 1) (bsI l (b.set i c) bg i (k:Nat)):=by
 have kk:kOK (k:Int):=by unfold kOK;omega
 have hd:l.drop i=l[i]::l.drop (i+1):=List.drop_eq_getElem_cons hi;have rl:(l.drop (i+1)).length=l.length-(i+1):=List.length_drop ..;have ra:=qrw (l.drop (i+1)) (by omega);have rb:=qso (l.drop (i+1)) (by omega);have eb:begL k (l.drop i) (bst (l.drop (i+1))).2.2 (beg (l.drop (i+1)) k)=beg (l.drop i) k:=by
  rw[hd,qsq];unfold begL;rw[qox,zak l[i] (l.drop (i+1)) 0]
 refine qak cxBs (q2u l (b.set i c) bg i k _ _) ?_;have w1:IntKind.i64.wrap ((i:Int)+1)=((i+1:Nat):Int):=by rw[IntWalk.i64_in _ (by omega)];omega
 have w2:IntKind.i64.wrap ((k:Int)+1)=((k+1:Nat):Int):=by rw[IntWalk.i64_in _ (by omega)];omega
 have g1:gtL (b.set i c) (0+(i+1))=bst (l.drop (i+1)):=by
  rw[<- h1,Nat.zero_add]
  show ((b.set i c)[i+1]?).getD _=(b[i+1]?).getD _
  rw[List.getElem?_set_ne (by omega)]
 have g2:∀ x,gtL (bg.set k x) k=x:=λ x=>by
  show ((bg.set k x)[k]?).getD _=_
  rw[List.getElem?_set_self (by omega)];rfl
 have g3:gtL (b.set i c) (0+i)=c:=by
  rw[Nat.zero_add]
  show ((b.set i c)[i]?).getD _=_
  rw[List.getElem?_set_self (by omega)];rfl
 rw[w1,w2,decide_eq_true (show (k:Int)<=4 by omega),bc_t];simp only[Int.toNat_natCast];rw[g1,hg,eb,g2,g3];have pl:(l.drop i).length=l.length-i:=List.length_drop ..;have pre1:q59 k (l.drop i) (beg (l.drop (i+1)) k):=by
  refine ⟨kk,by omega,?_⟩;rcases ra.1 k kk with h | ⟨_,n,n1,n2,n3,_⟩
  ·left;rw[h.2];rfl
  ·right;have:=qfm k (l.drop (i+1));omega
 have pre2:boB (bst (l.drop (i+1))).2.2 (beg (l.drop (i+1)) k):=by
  unfold boL at rb;refine ⟨by omega,?_⟩;rcases ra.1 k kk with h | ⟨_,n,n1,n2,n3,_,_,h⟩
  ·rw[h.2];exact (show 0<=(0:Int)/\(0:Int)<16777216/\0<=(0:Int)/\(0:Int)<16777216 by decide)
  ·have:=qfm k (l.drop (i+1));unfold boL at h;omega
 have bl:(b.set i c).length=l.length+1:=by rw[List.length_set];exact hb
 refine ⟨by omega,by omega,by omega,by omega,by omega,by omega,by omega,by omega,⟨pre1,pre2⟩,by omega,by omega,by omega,by omega,by omega,by omega,by omega,by omega,by omega,trivial,qaf (λ h=>?_) (λ h=>?_)⟩
 ·have eu:upd c (beg (l.drop i) k)=beg (l.drop i) k:=by unfold upd;rw[if_pos h]
  rw[eu] at nx;refine ⟨by omega,by omega,by omega,by omega,by omega,by omega,?_⟩;rw[Nat.zero_add,List.set_set];exact nx.only ⟨rfl,by simp only[List.length_set];rfl,rfl,rfl,rfl,trivial⟩ ⟨rfl,rfl,trivial⟩
 ·have eu:upd c (beg (l.drop i) k)=c:=by unfold upd;rw[if_neg (by rw[h];decide)]
  rw[eu] at nx;exact nx.only ⟨rfl,rfl,rfl,rfl,rfl,trivial⟩ ⟨rfl,rfl,trivial⟩
theorem q70:∀ (n:Nat),n<=l.length->GD 164 Tryz.f164 (BQ l) (hd Tryz.f164 0) (bsO l (bT l n) (bgL (l.drop n)) ((n:Int)-1)):=by
 intro n
 induction n with
 | zero=>
  intro hn;refine qak cxBs (q2t l (bT l 0) (bgL (l.drop 0)) (((0:Nat):Int)-1) _ _) ?_;rw[decide_eq_false (by omega),bc_f];exact q27 (e:=liS) (et:=215) (a:=10) (xs:=qch l) rfl rfl rfl rfl rfl
 | succ n ih=>
  intro hn;have e:((n+1:Nat):Int)-1=(n:Int):=by omega
  rw[e];refine qak cxBs (q2t l (bT l (n+1)) (bgL (l.drop (n+1))) n _ _) ?_;rw[decide_eq_true (show (0:Int)<=(n:Int) by omega),bc_t];have fin:GD 164 Tryz.f164 (BQ l) (hd Tryz.f164 1) (bsI l (bT l n) (bgL (l.drop n)) n 5):=by
   refine qak cxBs (q2u l (bT l n) (bgL (l.drop n)) n 5 _ _) ?_;rw[decide_eq_false (by omega),bc_f,IntWalk.i64_in ((n:Int)-1) (by omega)];exact (ih (by omega)).only ⟨rfl,rfl,rfl,rfl,trivial⟩ ⟨rfl,rfl,trivial⟩
  have hb:=qmo l (n+1);have h1:=qya l (n+1) (n+1) (by omega) (Nat.le_refl _);rw[za5 l n (by omega)] at fin;have hd:l.drop n=l[n]::l.drop (n+1):=List.drop_eq_getElem_cons hn;have up:bst (l.drop n)=upd (upd (upd (upd zLi (beg (l.drop n) 1)) (beg (l.drop n) 2)) (beg (l.drop n) 3)) (beg (l.drop n) 4):=by rw[hd];rfl
  rw[up] at fin;have s4:=qnw l hl n hn 4 ⟨by omega,by omega⟩ (bT l (n+1)) [zLi,beg (l.drop n) 1,beg (l.drop n) 2,beg (l.drop n) 3,beg (l.drop (n+1)) 4] hb rfl _ h1 rfl (fin.only ⟨rfl,by simp only[List.length_set];rfl,rfl,rfl,rfl,trivial⟩ ⟨rfl,rfl,trivial⟩);have s3:=qnw l hl n hn 3 ⟨by omega,by omega⟩ (bT l (n+1)) [zLi,beg (l.drop n) 1,beg (l.drop n) 2,beg (l.drop (n+1)) 3,beg (l.drop (n+1)) 4] hb rfl _ h1 rfl (s4.only ⟨rfl,by simp only[List.length_set];rfl,rfl,rfl,rfl,trivial⟩ ⟨rfl,rfl,trivial⟩);have s2:=qnw l hl n hn 2 ⟨by omega,by omega⟩ (bT l (n+1)) [zLi,beg (l.drop n) 1,beg (l.drop (n+1)) 2,beg (l.drop (n+1)) 3,beg (l.drop (n+1)) 4] hb rfl _ h1 rfl (s3.only ⟨rfl,by simp only[List.length_set];rfl,rfl,rfl,rfl,trivial⟩ ⟨rfl,rfl,trivial⟩);have s1:=qnw l hl n hn 1 ⟨by omega,by omega⟩ (bT l (n+1)) [zLi,beg (l.drop (n+1)) 1,beg (l.drop (n+1)) 2,beg (l.drop (n+1)) 3,beg (l.drop (n+1)) 4] hb rfl zLi h1 rfl (s2.only ⟨rfl,by simp only[List.length_set];rfl,rfl,rfl,rfl,trivial⟩ ⟨rfl,rfl,trivial⟩);rw[bT_z l n (by omega)] at s1;exact s1.only ⟨rfl,rfl,rfl,rfl,rfl,trivial⟩ ⟨rfl,rfl,trivial⟩
theorem za3:GD 164 Tryz.f164 (BQ l) [.code (qad Tryz.f164)] (entry [.sl syS] (l,())):=by
 refine qak cxBs (vc_bs l _ _) ?_;rw[IntWalk.i64_in ((l.length:Int)+1) (by omega),IntWalk.i64_in ((l.length:Int)-1) (by omega)];have e:((l.length:Int)+1).toNat=l.length+1:=by omega
 rw[e];refine ⟨by omega,by omega,?_,?_,?_⟩
 ·show (l.length:Int)+1<16777216
  omega
 ·show (32:Int)*((l.length:Int)+1)<=281474976710656
  omega
 ·have h:=q70 l hl l.length (Nat.le_refl _);rw[List.drop_length] at h;rw[za6 l];exact h.only ⟨rfl,by rw[qmo];rfl,rfl,rfl,trivial⟩ ⟨rfl,rfl,trivial⟩
end
theorem q71:Held Tryz.prog G0 164 ctBs:=Held.of cxBs (fn:=Tryz.f164) rfl rfl ⟨by decide,by decide⟩ λ ⟨l,_⟩ hp=>za3 l hp
def CCh:CV:=[(164,.inl ctBs),(165,.inl ctMk)]
theorem cxCh:CxOK Tryz.prog tt G0 CCh:=(cx0.k q6y (fn:=Tryz.f165)).k q71 (fn:=Tryz.f164)
set_option maxRecDepth 100000
theorem vc_ch (l:List SyT) (Q:QT) (R:RT):sA CCh Tryz.f142 Q (λ it S=>R it (qa5 [0,3,4,5] [3,8,14,1032768] S)) [.code (qad Tryz.f142)] (entry [.sl syS] (l,())) =
  (ctBs.pre (l,())/\(0:Int)<=0/\(0:Int)<(↑(qch l).length:Int)/\0+0<(qch l).length/\(0:Int)<=0/\(0:Int)<=(gtL (qch l) (0+0)).2.2.2/\(gtL (qch l) (0+0)).2.2.2<2 ^ 24/\(↑(56:Nat):Int)*(gtL (qch l) (0+0)).2.2.2<=2 ^ 48/\R (hd Tryz.f142 0) { env:=[(0,.sl syS l),(3,.win true liS 1032768 0 (qch l).length),(4,.win true opS 14 0 (0:Nat)),(5,.i 0)],blk:=[(14,.row 91 opS (List.replicate (0) opS.dflt)),(1032768,.row 215 liS (qch l))] }):=by kernel_rfl
theorem q9c (l:List SyT) (b:List LiT) (o:List OpT) (a:Nat) (Q:QT) (R:RT):sA CCh Tryz.f142 Q (λ it S=>R it (qa5 [0,3,4,5] [14,46,1032768] S)) (hd Tryz.f142 0) ⟨[(0,.sl syS l),(3,.win true liS 1032768 0 b.length),(4,.win true opS 14 0 o.length),(5,.i (a:Nat))],[(14,.row 91 opS o),(1032768,.row 215 liS b)]⟩ =
  (bc (decide ((a:Int)<l.length)) ((0:Int)<=a/\(a:Int)<b.length/\0+(a:Int).toNat<b.length/\(0:Int)<=a/\(a:Int)<b.length/\0+(a:Int).toNat<b.length/\(0:Int)<=a/\(a:Int)<i64.wrap ((a:Int)+(gtL b (0+(a:Int).toNat)).2.1)/\i64.wrap ((a:Int)+(gtL b (0+(a:Int).toNat)).2.1)<=i64.wrap ((a:Int)+(gtL b (0+(a:Int).toNat)).2.1)/\i64.wrap ((a:Int)+(gtL b (0+(a:Int).toNat)).2.1)<=(l.length:Int)/\i64.wrap ((a:Int)+(gtL b (0+(a:Int).toNat)).2.1)<1099511627776/\ctMk.pre ((gtL b (0+(a:Int).toNat)).1,Px.part l (some (a:Int)) (some (i64.wrap ((a:Int)+(gtL b (0+(a:Int).toNat)).2.1))),())/\0+1<=([(mdK (gtL b (0+(a:Int).toNat)).1 (Px.part l (some (a:Int)) (some (i64.wrap ((a:Int)+(gtL b (0+(a:Int).toNat)).2.1)))))]:List opS.D).length/\o.length=o.length/\(0:Nat)=(0:Nat)/\o.length+(([(mdK (gtL b (0+(a:Int).toNat)).1 (Px.part l (some (a:Int)) (some (i64.wrap ((a:Int)+(gtL b (0+(a:Int).toNat)).2.1)))))]:List opS.D)).length<2 ^ 30/\(56:Nat)<=2 ^ 10/\(0:Int)<=a/\(a:Int)<b.length/\0+(a:Int).toNat<b.length/\R (hd Tryz.f142 0) { env:=[(0,.sl syS l),(3,.win true liS 1032768 0 b.length),(4,.win true opS 46 0 (o.length+(([(mdK (gtL b (0+(a:Int).toNat)).1 (Px.part l (some (a:Int)) (some (i64.wrap ((a:Int)+(gtL b (0+(a:Int).toNat)).2.1)))))]:List opS.D)).length)),(5,.i (i64.wrap ((a:Int)+(gtL b (0+(a:Int).toNat)).2.1)))],blk:=[(46,.row 91 opS (o++([(mdK (gtL b (0+(a:Int).toNat)).1 (Px.part l (some (a:Int)) (some (i64.wrap ((a:Int)+(gtL b (0+(a:Int).toNat)).2.1)))))]:List opS.D))),(1032768,.row 215 liS b)] }) (Q [.win true opS 14 0 o.length] [(14,.row 91 opS o),(1032768,.row 215 liS b)])):=by kernel_rfl
theorem q9d (l:List SyT) (b:List LiT) (o:List OpT) (a:Nat) (Q:QT) (R:RT):sA CCh Tryz.f142 Q (λ it S=>R it (qa5 [0,3,4,5] [14,1032768] S)) (hd Tryz.f142 0) ⟨[(0,.sl syS l),(4,.sl opS o),(5,.i (a:Nat))],[]⟩ =
  (bc (decide ((a:Int)<l.length)) False (Q [.sl opS o] [])):=by kernel_rfl
def ctCh:Ctr:=⟨[.sl syS],λ x=>q58 x.1,λ x=>[.sl opS (chL x.1)],λ _=>[]⟩
theorem q6c (l:List SyT) (a n:Nat):Px.part l (some (a:Int)) (some ((a+n:Nat):Int))=(l.drop a).take n:=by
 simp only[Px.part,Int.toNat_natCast]
 first
  | (rw[List.drop_take];congr 1;omega)
  | (rw[List.take_drop];done)
  | simp[List.drop_take]
section
variable (l:List SyT) (hl:l.length<=65536)
include hl
theorem q3w (o:List OpT) (a:Nat) (ha:a=l.length):GD 142 Tryz.f142 (OQ o) (hd Tryz.f142 0) ⟨[(0,.sl syS l),(3,.win true liS 1032768 0 (qch l).length),(4,.win true opS 14 0 o.length),(5,.i (a:Nat))],[(14,.row 91 opS o),(1032768,.row 215 liS (qch l))]⟩:=by
 have _:=hl;subst ha;refine Good.frz (i:=14) (e:=opS) (et:=91) (xs:=o) rfl (λ c hc=>?_) ?_
 ·have hc:c∈[0+o.length<=o.length]:=hc;rw[List.mem_singleton] at hc;subst hc;omega
 ·have e:GD 142 Tryz.f142 (OQ o) (hd Tryz.f142 0) ⟨[(0,.sl syS l),(4,.sl opS (winL opS 0 o.length o)),(5,.i (l.length:Nat))],[]⟩:=by
   refine qak cxCh (q9d l [] (winL opS 0 o.length o) l.length _ _) ?_;rw[decide_eq_false (by omega),bc_f,winA]
  exact e.only ⟨rfl,rfl,rfl,trivial⟩ trivial
theorem q7u:∀ (f a:Nat) (o:List OpT),l.length-a<=f->a<=l.length->o.length<=a ->
  GD 142 Tryz.f142 (OQ (o++chF f (l.drop a))) (hd Tryz.f142 0) ⟨[(0,.sl syS l),(3,.win true liS 1032768 0 (qch l).length),(4,.win true opS 14 0 o.length),(5,.i (a:Nat))],[(14,.row 91 opS o),(1032768,.row 215 liS (qch l))]⟩:=by
 intro f
 induction f with
 | zero=>
  intro a o hf ha ho;rw[chF,List.append_nil];exact q3w l hl o a (by omega)
 | succ f ih=>
  intro a o hf ha ho;by_cases he:a=l.length
  ·rw[chF,if_pos (List.drop_eq_nil_of_le (by omega)),List.append_nil];exact q3w l hl o a he
  ·have dl:(l.drop a).length=l.length-a:=List.length_drop ..;have hne:l.drop a≠[]:=λ h=>by rw[h] at dl;simp at dl;omega
   obtain ⟨hb,n,n1,n2,n3,_⟩:=q3y (l:=l.drop a) (by omega) hne;have hfit:=qfm (bst (l.drop a)).1 (l.drop a);have bl:(qch l).length=l.length+1:=qmo l 0;have nx:=ih (a+n) (o++[mdK (bst (l.drop a)).1 ((l.drop a).take n)]) (by omega) (by omega) (by rw[List.length_append,List.length_singleton];omega);have ec:chF (f+1) (l.drop a)=mdK (bst (l.drop a)).1 ((l.drop a).take n)::chF f (l.drop (a+n)):=by rw[chF,if_neg hne,n1,Int.toNat_natCast,List.drop_drop]
   rw[ec];rw[List.append_assoc,List.singleton_append] at nx;refine qak cxCh (q9c l (qch l) o a _ _) ?_;have g1:gtL (qch l) (0+a)=bst (l.drop a):=by rw[Nat.zero_add];exact qya l 0 a ha (Nat.zero_le _)
   have w:IntKind.i64.wrap ((a:Int)+(n:Int))=((a+n:Nat):Int):=by rw[IntWalk.i64_in _ (by omega)];omega
   rw[decide_eq_true (show (a:Int)<(l.length:Int) by omega),bc_t,Int.toNat_natCast,g1,n1,w,q6c l a n];have tl:((l.drop a).take n).length=n:=by rw[List.length_take];omega
   refine ⟨by omega,by omega,by omega,by omega,by omega,by omega,by omega,by omega,by omega,by omega,by omega,(show q56 (bst (l.drop a)).1 ((l.drop a).take n) from ⟨hb,by omega,by omega⟩),Nat.le_refl 1,rfl,rfl,?_,by decide,by omega,by omega,by omega,?_⟩
   ·show o.length+1<2 ^ 30
    omega
   ·exact nx.onlyR [(14,46)] rfl ⟨rfl,rfl,by rw[List.length_append];rfl,rfl,trivial⟩ ⟨rfl,rfl,trivial⟩
theorem za2:GD 142 Tryz.f142 (QC ctCh (l,())) [.code (qad Tryz.f142)] (entry [.sl syS] (l,())):=by
 refine qak cxCh (vc_ch l _ _) ?_;have bl:(qch l).length=l.length+1:=qmo l 0;have g0:gtL (qch l) (0+0)=bst l:=by
  have:=qya l 0 0 (Nat.zero_le _) (Nat.le_refl _);rw[List.drop_zero] at this;exact this
 have hb:=qso l hl;unfold boL at hb;rw[g0];refine ⟨hl,by omega,by omega,by omega,by omega,hb.2.2.1,?_,?_,?_⟩
 ·show (bst l).2.2.2<16777216
  omega
 ·show (56:Int)*(bst l).2.2.2<=281474976710656
  omega
 ·have h:=q7u l hl l.length 0 [] (by omega) (Nat.zero_le _) (Nat.zero_le _);rw[List.drop_zero,List.nil_append] at h;exact (h.post λ rs blk hq=>QC.flat (by rw[hq];rfl) rfl (by rw[hq];rfl)).only ⟨rfl,rfl,rfl,rfl,trivial⟩ ⟨rfl,rfl,trivial⟩
end
theorem q7v:Held Tryz.prog G0 142 ctCh:=Held.of cxCh (fn:=Tryz.f142) rfl rfl ⟨by decide,by decide⟩ λ ⟨l,_⟩ hp=>za2 l hp
def poV (l:List SyT) (m:Int):PaT × Int:=if 4096<(chL l).length then ((false,0,0,[]),2) else ((false,m,l.length,chL l),0)
def ctPo:Ctr:=⟨[.sl syS,iI],λ x=>q58 x.1,λ x=>[paV (poV x.1 x.2.1).1,.i (poV x.1 x.2.1).2],λ _=>[]⟩
def cpV (l:List SyT) (m:Int):PaT × Int:=if (ofV l m).2=60 then ((false,0,0,[]),60) else poV l m
def ctCp:Ctr:=⟨[.sl syS,iI],λ x=>List.length x.1<16777216,λ x=>[paV (cpV x.1 x.2.1).1,.i (cpV x.1 x.2.1).2],λ _=>[]⟩
def foV (p:PaT):PaT × Int:=if (symV p).2=0 then (if (poV (symV p).1 p.2.1).2=0 then ((p.1,(poV (symV p).1 p.2.1).1.2),0) else ((false,0,0,[]),(poV (symV p).1 p.2.1).2)) else ((false,0,0,[]),(symV p).2)
def ctFo:Ctr:=⟨[paS],λ _=>True,λ x=>[paV (foV x.1).1,.i (foV x.1).2],λ _=>[]⟩
def CPo:CV:=[(142,.inl ctCh)]
theorem cxPo:CxOK Tryz.prog tt G0 CPo:=cx0.k q7v (fn:=Tryz.f142)
set_option maxRecDepth 100000
theorem vc_po (l:List SyT) (m:Int) (Q:QT) (R:RT):sA CPo Tryz.f106 Q R [.code (qad Tryz.f106)] (entry [.sl syS,iI] (l,m,())) =
  (ctCh.pre (l,())/\bc (decide ((4096:Int)<(↑(chL l).length:Int))) (Q [.agg [.bool false,.i 0,.i 0,.nils],.i 2] [(4,.var [.bool false,.i 0,.i 0,.nils])]) (Q [.agg (pL false m (l.length:Int) (chL l)),.i 0] [(4,.var (pL false m (l.length:Int) (chL l)))])):=by kernel_rfl
theorem vc_cp (l:List SyT) (m:Int) (Q:QT) (R:RT):sA [(23,.inl ctOfA),(106,.inl ctPo)] Tryz.f94 Q R [.code (qad Tryz.f94)] (entry [.sl syS,iI] (l,m,())) =
  (ctOfA.pre (l,m,())/\bc (decide ((ofV l m).2=(60:Int))) (Q [.agg [.bool false,.i 0,.i 0,.nils],.i (ofV l m).2] [(4,.var [.bool false,.i 0,.i 0,.nils]),(6,.var [.bool (ofV l m).1.1,.i (ofV l m).1.2.1,.i (ofV l m).1.2.2.1,.sl opS (ofV l m).1.2.2.2])]) (ctPo.pre (l,m,())/\Q [.agg [.bool (poV l m).1.1,.i (poV l m).1.2.1,.i (poV l m).1.2.2.1,.sl opS (poV l m).1.2.2.2],.i (poV l m).2] [(4,.var [.bool (poV l m).1.1,.i (poV l m).1.2.1,.i (poV l m).1.2.2.1,.sl opS (poV l m).1.2.2.2]),(6,.var [.bool (ofV l m).1.1,.i (ofV l m).1.2.1,.i (ofV l m).1.2.2.1,.sl opS (ofV l m).1.2.2.2])])):=by kernel_rfl
theorem vc_fo (li:Bool) (m o:Int) (l:List OpT) (Q:QT) (R:RT):sA [(22,.inl ctSym),(106,.inl ctPo)] Tryz.f53 Q R [.code (qad Tryz.f53)] (entry [paS] ((li,m,o,l),())) =
  (ctSym.pre ((li,m,o,l),())/\bc (decide ((symV (li,m,o,l)).2≠0)) (Q [.agg [.bool false,.i 0,.i 0,.nils],.i (symV (li,m,o,l)).2] [(1,.var (pL li m o l)),(2,.var [.bool false,.i 0,.i 0,.nils]),(1036864,.row 93 syS (symV (li,m,o,l)).1)]) (0+(symV (li,m,o,l)).1.length<=(symV (li,m,o,l)).1.length/\0+(symV (li,m,o,l)).1.length<=(symV (li,m,o,l)).1.length/\0+(symV (li,m,o,l)).1.length<=(symV (li,m,o,l)).1.length/\0+(symV (li,m,o,l)).1.length<=(symV (li,m,o,l)).1.length/\0+(symV (li,m,o,l)).1.length<=(symV (li,m,o,l)).1.length/\ctPo.pre (winL syS 0 (symV (li,m,o,l)).1.length (symV (li,m,o,l)).1,m,())/\bc (decide ((poV (winL syS 0 (symV (li,m,o,l)).1.length (symV (li,m,o,l)).1) m).2≠0)) (Q [.agg [.bool false,.i 0,.i 0,.nils],.i (poV (winL syS 0 (symV (li,m,o,l)).1.length (symV (li,m,o,l)).1) m).2] [(1,.var (pL li m o l)),(2,.var [.bool false,.i 0,.i 0,.nils]),(6,.var [.bool (poV (winL syS 0 (symV (li,m,o,l)).1.length (symV (li,m,o,l)).1) m).1.1,.i (poV (winL syS 0 (symV (li,m,o,l)).1.length (symV (li,m,o,l)).1) m).1.2.1,.i (poV (winL syS 0 (symV (li,m,o,l)).1.length (symV (li,m,o,l)).1) m).1.2.2.1,.sl opS (poV (winL syS 0 (symV (li,m,o,l)).1.length (symV (li,m,o,l)).1) m).1.2.2.2])]) (Q [.agg [.bool li,.i (poV (winL syS 0 (symV (li,m,o,l)).1.length (symV (li,m,o,l)).1) m).1.2.1,.i (poV (winL syS 0 (symV (li,m,o,l)).1.length (symV (li,m,o,l)).1) m).1.2.2.1,.sl opS (poV (winL syS 0 (symV (li,m,o,l)).1.length (symV (li,m,o,l)).1) m).1.2.2.2],.i 0] [(1,.var (pL li m o l)),(2,.var [.bool li,.i (poV (winL syS 0 (symV (li,m,o,l)).1.length (symV (li,m,o,l)).1) m).1.2.1,.i (poV (winL syS 0 (symV (li,m,o,l)).1.length (symV (li,m,o,l)).1) m).1.2.2.1,.sl opS (poV (winL syS 0 (symV (li,m,o,l)).1.length (symV (li,m,o,l)).1) m).1.2.2.2]),(6,.var [.bool li,.i (poV (winL syS 0 (symV (li,m,o,l)).1.length (symV (li,m,o,l)).1) m).1.2.1,.i (poV (winL syS 0 (symV (li,m,o,l)).1.length (symV (li,m,o,l)).1) m).1.2.2.1,.sl opS (poV (winL syS 0 (symV (li,m,o,l)).1.length (symV (li,m,o,l)).1) m).1.2.2.2])]))):=by kernel_rfl
theorem qcy (z:Int):MtL (λ _=>none) [paV (false,0,0,[]),.i z] [.agg [.bool false,.i 0,.i 0,.nils],.i z]:=
 ⟨_,_,rfl,⟨_,rfl,_,_,rfl,rfl,_,_,rfl,rfl,_,_,rfl,rfl,_,_,rfl,.inr ⟨rfl,rfl⟩,rfl⟩,_,_,rfl,rfl,rfl⟩
theorem q92 (l:List SyT) (m:Int) (hp:l.length<=65536) (R:List Item->PS->Prop):sA CPo Tryz.f106 (QC ctPo (l,m,())) R [.code (qad Tryz.f106)] (entry [.sl syS,iI] (l,m,())):=by
 refine (vc_po l m _ _).mpr ⟨hp,qaf (λ h=>?_) (λ h=>?_)⟩
 ·have h:(4096:Int)<((chL l).length:Int):=of_decide_eq_true h;have hv:poV l m=((false,0,0,[]),2):=by unfold poV;rw[if_pos (by omega)]
  exact QC.mt (by show MtL _ [paV (poV l m).1,.i (poV l m).2] _;rw[hv];exact qcy _) rfl
 ·have h:¬ (4096:Int)<((chL l).length:Int):=of_decide_eq_false h;have hv:poV l m=(((false,m,(l.length:Int),chL l):PaT),(0:Int)):=by unfold poV;rw[if_neg (by omega)]
  exact QC.flat (by show [paV (poV l m).1,.i (poV l m).2]=_;rw[hv];rfl) rfl rfl
theorem qwa:Held Tryz.prog G0 106 ctPo:=Held.run cxPo (fn:=Tryz.f106) rfl rfl ⟨by decide,by decide⟩ λ ⟨l,m,_⟩ hp=>q92 l m hp _
theorem q98 {l:List SyT} {m:Int} (h:(ofV l m).2≠60):szB m=true/\szB l.length=true/\l.all (sOK m)=true:=by
 unfold ofV at h;split at h
 ·assumption
 ·exact absurd rfl h
theorem q6m {l:List SyT} {m:Int} (h:szB m=true/\szB l.length=true/\l.all (sOK m)=true):(ofV l m).2≠60:=by
 unfold ofV;rw[if_pos h];split
 ·exact (show (2:Int)≠60 by decide)
 ·exact (show (0:Int)≠60 by decide)
theorem q2x {n:Int} (h:szB n=true):0<=n/\n<=65536:=by simpa [szB] using h
theorem cxCp:CxOK Tryz.prog tt G0 [(23,.inl ctOfA),(106,.inl ctPo)]:=(cx0.k qwa (fn:=Tryz.f106)).k q0b (fn:=Tryz.f23)
theorem zaw (l:List SyT) (m:Int) (hp:l.length<16777216) (R:List Item->PS->Prop):sA [(23,.inl ctOfA),(106,.inl ctPo)] Tryz.f94 (QC ctCp (l,m,())) R [.code (qad Tryz.f94)] (entry [.sl syS,iI] (l,m,())):=by
 refine (vc_cp l m _ _).mpr ⟨hp,qaf (λ h=>?_) (λ h=>?_)⟩
 ·have h:(ofV l m).2=60:=of_decide_eq_true h;have hv:cpV l m=((false,0,0,[]),60):=by unfold cpV;rw[if_pos h]
  rw[h];exact QC.mt (by show MtL _ [paV (cpV l m).1,.i (cpV l m).2] _;rw[hv];exact qcy _) rfl
 ·have h:¬ (ofV l m).2=60:=of_decide_eq_false h;have hz:=q2x (q98 h).2.1;have hv:cpV l m=poV l m:=by unfold cpV;rw[if_neg h]
  exact ⟨(show l.length<=65536 by omega),QC.flat (by show [paV (cpV l m).1,.i (cpV l m).2]=_;rw[hv];rfl) rfl rfl⟩
theorem q7n:Held Tryz.prog G0 94 ctCp:=Held.run cxCp (fn:=Tryz.f94) rfl rfl ⟨by decide,by decide⟩ λ ⟨l,m,_⟩ hp=>zaw l m hp _
theorem q5e (p:PaT):(symV p).1.length<=65536:=by
 unfold symV;split
 next h=>
  obtain ⟨h1,h2,h3,_⟩:=qim h;have:=qec h1
  show (symF p.2.2.2).length<=65536
  omega
 ·exact Nat.zero_le _
theorem cxFo:CxOK Tryz.prog tt G0 [(22,.inl ctSym),(106,.inl ctPo)]:=(cx0.k qwa (fn:=Tryz.f106)).k qmx (fn:=Tryz.f22)
theorem zan (li:Bool) (m o:Int) (l:List OpT) (R:List Item->PS->Prop):sA [(22,.inl ctSym),(106,.inl ctPo)] Tryz.f53 (QC ctFo ((li,m,o,l),())) R [.code (qad Tryz.f53)] (entry [paS] ((li,m,o,l),())):=by
 refine (vc_fo li m o l _ _).mpr ⟨trivial,qaf (λ h=>?_) (λ h=>?_)⟩
 ·have h:(symV (li,m,o,l)).2≠0:=of_decide_eq_true h;have hv:foV (li,m,o,l)=((false,0,0,[]),(symV (li,m,o,l)).2):=by unfold foV;rw[if_neg h]
  exact QC.mt (by show MtL _ [paV (foV (li,m,o,l)).1,.i (foV (li,m,o,l)).2] _;rw[hv];exact qcy _) rfl
 ·have h:¬ (symV (li,m,o,l)).2≠0:=of_decide_eq_false h;have h:(symV (li,m,o,l)).2=0:=by omega
  rw[winA];refine ⟨by omega,by omega,by omega,by omega,by omega,q5e _,qaf (λ h2=>?_) (λ h2=>?_)⟩
  ·have h2:(poV (symV (li,m,o,l)).1 m).2≠0:=of_decide_eq_true h2;have hv:foV (li,m,o,l)=((false,0,0,[]),(poV (symV (li,m,o,l)).1 m).2):=by unfold foV;rw[if_pos h,if_neg h2]
   exact QC.mt (by show MtL _ [paV (foV (li,m,o,l)).1,.i (foV (li,m,o,l)).2] _;rw[hv];exact qcy _) rfl
  ·have h2:¬ (poV (symV (li,m,o,l)).1 m).2≠0:=of_decide_eq_false h2;have h2:(poV (symV (li,m,o,l)).1 m).2=0:=by omega
   have hv:foV (li,m,o,l)=((li,(poV (symV (li,m,o,l)).1 m).1.2),0):=by unfold foV;rw[if_pos h,if_pos h2]
   exact QC.flat (by show [paV (foV (li,m,o,l)).1,.i (foV (li,m,o,l)).2]=_;rw[hv];rfl) rfl rfl
theorem q7f:Held Tryz.prog G0 53 ctFo:=Held.run cxFo (fn:=Tryz.f53) rfl rfl ⟨by decide,by decide⟩ λ ⟨⟨li,m,o,l⟩,_⟩ _=>zan li m o l _
abbrev gI3 (w:List Int) (i:Nat):Int:=gt (Sh.int .i32) w i
def preW (w:List Int):Prop:=∀ j,-2147483648<=gI3 w j/\gI3 w j<2147483648
theorem za1 {m N:Int}:∀ {l:List OpT} {left i:Int},(chkF m N l left i).2=0\/(chkF m N l left i).2=60
 | [],left,i=>by
  simp only[chkF];split
  ·exact .inr rfl
  ·exact .inl rfl
 | x::l,left,i=>by
  simp only[chkF];split
  ·exact .inr rfl
  ·split
   ·exact .inr rfl
   ·exact za1
theorem za0 (p:PaT):(chkV p).2=0\/(chkV p).2=60:=by
 unfold chkV;split
 ·exact za1
 ·exact .inr rfl
section
variable (z:Int) (l4:List (List Int)) (w:List Int) (h6:preM6 z l4) (hw:preW w)
include h6 hw
end
theorem qwb {s:List SyT} {m:Int} (hr:∀ x∈s,sOK m x=true) (h0:0<=m) (h1:m<=65536) (hl:s.length<=4096):poV s m=((false,m,(s.length:Int),chL s),0)/\symF (chL s)=s/\(∀ x∈chL s,isRB x m=true)/\q1n (chL s)=cst s/\(chL s).length<=4096/\ (chkV (false,m,(s.length:Int),chL s)).2=0:=by
 obtain ⟨c1,c2,c3,c4⟩:=ch_ok (m:=m) (by omega) s.length s (Nat.le_refl _) (by omega) hr;have hb:=qso s (by omega);unfold boL at hb;have hlen:(chL s).length<=4096:=by
  show (chF s.length s).length<=4096
  have:oct s=(bst s).2.2.2:=rfl;omega
 have hs:=qec c2;rw[c1] at hs;refine ⟨?_,c1,c2,c3,hlen,?_⟩
 ·unfold poV;rw[if_neg (by omega)]
 ·have:=qx2 (li:=false) (o:=(s.length:Int)) h0 h1 (by omega) hlen c2 hs.symm;rw[this]
theorem zax {s:List SyT} {m:Int} (hr:∀ x∈s,sOK m x=true) (h0:0<=m) (h1:m<=65536) (hl:s.length<=4096):cpV s m=((false,m,(s.length:Int),chL s),0):=by
 unfold cpV;rw[if_neg (q6m ⟨by simp[szB];omega,by simp[szB];omega,by rw[List.all_eq_true];exact hr⟩)];exact (qwb hr h0 h1 hl).1
def q55 (x:OpT) (i:Int):Prop:=k14 x/\0<=i/\(x.1=2\/x.1=4->i<(x.2.2.2.2.length:Int))
def syV (s:SyT):SV:=.agg [.bool s.1,.i s.2.1,.u s.2.2]
def ctSb:Ctr:=⟨[opS,iI],λ x=>q55 x.1 x.2.1,λ x=>[syV (elO x.1.1.toNat x.1 (Int.toNat x.2.1))],λ _=>[]⟩
def CSm:CV:=[(59,.inl ctRi),(60,.inl ctSb)]
set_option maxRecDepth 100000
theorem vc_sb (x:OpT) (i:Int) (Q:QT) (R:RT):sA [] Tryz.f60 Q R [.code (qad Tryz.f60)] (entry [opS,iI] (x,i,())) =
  (bc (decide (x.1=(1:Int))) (Q [.agg [.bool true,.i (i64.wrap (x.2.1+i)),.u 0]] [(2,.var (oJ x.1 x.2.1 x.2.2.1 x.2.2.2.1 x.2.2.2.2)),(4,.var [.bool true,.i (i64.wrap (x.2.1+i)),.u 0])]) (bc (decide (x.1=(2:Int))) ((0:Int)<=i/\i<(↑(List.length x.2.2.2.2):Int)/\Q [.agg [.bool true,.i (i64.wrap (x.2.1+i)),.u (gtB x.2.2.2.2 i.toNat)]] [(2,.var (oJ x.1 x.2.1 x.2.2.1 x.2.2.2.1 x.2.2.2.2)),(4,.var [.bool true,.i (i64.wrap (x.2.1+i)),.u (gtB x.2.2.2.2 i.toNat)])]) (bc (decide (x.1=(3:Int))) (Q [.agg [.bool false,.i 0,.u x.2.2.2.1]] [(2,.var (oJ x.1 x.2.1 x.2.2.1 x.2.2.2.1 x.2.2.2.2)),(4,.var [.bool false,.i 0,.u x.2.2.2.1])]) ((0:Int)<=i/\i<(↑(List.length x.2.2.2.2):Int)/\Q [.agg [.bool false,.i 0,.u (gtB x.2.2.2.2 i.toNat)]] [(2,.var (oJ x.1 x.2.1 x.2.2.1 x.2.2.2.1 x.2.2.2.2)),(4,.var [.bool false,.i 0,.u (gtB x.2.2.2.2 i.toNat)])])))):=by kernel_rfl
theorem vc_rs (li:Bool) (m o:Int) (l:List OpT) (Q:QT) (R:RT):sA CSm Tryz.f15 Q (λ it S=>R it (qa5 [1,4,5,6] [1,10,37] S)) [.code (qad Tryz.f15)] (entry [paS] ((li,m,o,l),())) =
  (ctRi.pre ((li,m,o,l),())/\bc (!decide ((chkV (li,m,o,l)).2=(0:Int))) (Q [.nils,.i 60] [(1,.var (pL li m o l))]) (R (hd Tryz.f15 0) { env:=[(1,.ptr 1 0),(4,.win true syS 10 0 (0:Nat)),(5,.i 0)],blk:=[(1,.var (pL li m o l)),(10,.row 93 syS (List.replicate (0:Nat) syS.dflt))] })):=by kernel_rfl
theorem q2p (li:Bool) (m o:Int) (l:List OpT) (s:List SyT) (i:Nat) (Q:QT) (R:RT):sA CSm Tryz.f15 Q (λ it S=>R it (qa5 [1,4,5,6] [1,10,37] S)) (hd Tryz.f15 0) ⟨[(1,.ptr 1 0),(4,.win true syS 10 0 s.length),(5,.i (i:Nat))],[(1,.var (pL li m o l)),(10,.row 93 syS s)]⟩ =
  (bc (decide ((i:Int)<l.length)) (R (hd Tryz.f15 1) { env:=[(1,.ptr 1 0),(4,.win true syS 10 0 s.length),(5,.i i),(6,.i 0)],blk:=[(1,.var (pL li m o l)),(10,.row 93 syS s)] }) (Q [.win true syS 10 0 s.length,.i 0] [(1,.var (pL li m o l)),(10,.row 93 syS s)])):=by kernel_rfl
theorem q2q (li:Bool) (m o:Int) (l:List OpT) (s:List SyT) (i k:Nat) (Q:QT) (R:RT):sA CSm Tryz.f15 Q (λ it S=>R it (qa5 [1,4,5,6] [1,10,37] S)) (hd Tryz.f15 1) ⟨[(1,.ptr 1 0),(4,.win true syS 10 0 s.length),(5,.i (i:Nat)),(6,.i (k:Nat))],[(1,.var (pL li m o l)),(10,.row 93 syS s)]⟩ =
  ((0:Int)<=i/\(i:Int)<l.length/\bc (decide ((k:Int)<(gtO l (i:Int).toNat).2.2.1)) ((0:Int)<=i/\(i:Int)<l.length/\ctSb.pre ((gtO l (i:Int).toNat),(k:Int),())/\0+1<=([(elO (Int.toNat (gtO l (i:Int).toNat).1) (gtO l (i:Int).toNat) (k:Int).toNat)]:List syS.D).length/\s.length=s.length/\(0:Nat)=(0:Nat)/\s.length+(([(elO (Int.toNat (gtO l (i:Int).toNat).1) (gtO l (i:Int).toNat) (k:Int).toNat)]:List syS.D)).length<2 ^ 30/\(24:Nat)<=2 ^ 10/\R (hd Tryz.f15 1) { env:=[(1,.ptr 1 0),(4,.win true syS 37 0 (s.length+(([(elO (Int.toNat (gtO l (i:Int).toNat).1) (gtO l (i:Int).toNat) (k:Int).toNat)]:List syS.D)).length)),(5,.i i),(6,.i (i64.wrap ((k:Int)+1)))],blk:=[(1,.var (pL li m o l)),(37,.row 93 syS (s++([(elO (Int.toNat (gtO l (i:Int).toNat).1) (gtO l (i:Int).toNat) (k:Int).toNat)]:List syS.D)))] }) (R (hd Tryz.f15 0) { env:=[(1,.ptr 1 0),(4,.win true syS 10 0 s.length),(5,.i (i64.wrap ((i:Int)+1))),(6,.i k)],blk:=[(1,.var (pL li m o l)),(10,.row 93 syS s)] })):=by kernel_rfl
theorem q9w (k f n b i:Int) (d:List Int) (hp:q55 (k,f,n,b,d) i) (R:List Item->PS->Prop):sA [] Tryz.f60 (QC ctSb ((k,f,n,b,d),i,())) R [.code (qad Tryz.f60)] (entry [opS,iI] ((k,f,n,b,d),i,())):=by
 obtain ⟨hk,h0,hd⟩:=hp;have out:∀ s,elO k.toNat ((k,f,n,b,d):OpT) i.toNat=s->ctSb.out ((k,f,n,b,d),i,())=[syV s]:=λ s e=>congrArg (λ s=>[syV s]) e
 have hi:((i.toNat:Nat):Int)=i:=by omega
 refine (vc_sb (k,f,n,b,d) i _ _).mpr ?_;rcases hk with e | e | e | e
 ·have e:k=1:=e;subst e;refine QC.flat (out (true,IntKind.i64.wrap (f+i),0) ?_) rfl rfl
  show ((true,IntKind.i64.wrap (f+(i.toNat:Int)),0):SyT)=_
  rw[hi]
 ·have e:k=2:=e;subst e;have hd2:i<(d.length:Int):=hd (.inl rfl);refine ⟨h0,hd2,QC.flat (out (true,IntKind.i64.wrap (f+i),gtB d i.toNat) ?_) rfl rfl⟩
  show ((true,IntKind.i64.wrap (f+(i.toNat:Int)),gtB d i.toNat):SyT)=_
  rw[hi]
 ·have e:k=3:=e;subst e;exact QC.flat (out _ rfl) rfl rfl
 ·have e:k=4:=e;subst e;have hd2:i<(d.length:Int):=hd (.inr rfl);exact ⟨h0,hd2,QC.flat (out _ rfl) rfl rfl⟩
theorem q5w:Held Tryz.prog G0 60 ctSb:=Held.run cx0 (fn:=Tryz.f60) rfl rfl ⟨by decide,by decide⟩ λ ⟨⟨k,f,n,b,d⟩,i,_⟩ hp=>q9w k f n b i d hp _
theorem qt6:CxOK Tryz.prog tt G0 CSm:=(cx0.k q5w (fn:=Tryz.f60)).k qta (fn:=Tryz.f59)
section
variable (li:Bool) (m o:Int) (l:List OpT) (hc:(chkV (li,m,o,l)).2=0)
abbrev RsQ:List SV->List (Nat × LB)->Prop:=QC ctSym ((li,m,o,l),())
include hc
theorem qzp (i:Nat) (hi:i<l.length) (nx:GD 15 Tryz.f15 (RsQ li m o l) (hd Tryz.f15 0) ⟨[(1,.ptr 1 0),(4,.win true syS 10 0 (symF (l.take (i+1))).length),(5,.i ((i+1:Nat):Int))],[(1,.var (pL li m o l)),(10,.row 93 syS (symF (l.take (i+1))))]⟩) :
  ∀ (c k:Nat),l[i].2.2.1.toNat-k=c->k<=l[i].2.2.1.toNat ->
  GD 15 Tryz.f15 (RsQ li m o l) (hd Tryz.f15 1) ⟨[(1,.ptr 1 0),(4,.win true syS 10 0 (symF (l.take i)++(qaz l[i].1.toNat l[i]).take k).length),(5,.i (i:Nat)),(6,.i (k:Nat))],[(1,.var (pL li m o l)),(10,.row 93 syS (symF (l.take i)++(qaz l[i].1.toNat l[i]).take k))]⟩:=by
 obtain ⟨hr,hs,ho,hl⟩:=qim hc;have hl:l.length<=4096:=hl;have hx:=hr _ (List.getElem_mem hi);have hlx:=qdt hx;obtain ⟨k4,hcn⟩:=qfh hx;have sl:(qaz l[i].1.toNat l[i]).length=cntO l[i].1.toNat l[i]:=qk6 ..;have hsf:(symF (l.take i)).length<=65536:=by
  have h1:=qec (m:=m) (l:=l.take i) λ y hy=>hr y (List.mem_of_mem_take hy)
  have h2:lenS l=lenS (l.take i)+lenS (l.drop i):=by rw[<- q0r,List.take_append_drop]
  have h3:=qho (m:=m) (l:=l.drop i) λ y hy=>hr y (List.mem_of_mem_drop hy)
  have ho2:o<=65536:=ho.2;have hs2:lenS l=o:=hs;omega
 have ht:symF (l.take (i+1))=symF (l.take i)++qaz l[i].1.toNat l[i]:=by
  rw[List.take_succ_eq_append_getElem hi,qjk];simp[symF]
 intro c
 induction c with
 | zero=>
  intro k hk hk2;have hk:k=l[i].2.2.1.toNat:=by omega
  have e:(qaz l[i].1.toNat l[i]).take k=qaz l[i].1.toNat l[i]:=List.take_of_length_le (by omega);rw[e,<- ht];refine qak qt6 (q2q li m o l (symF (l.take (i+1))) i k _ _) ?_;rw[Int.toNat_natCast,qgh hi,decide_eq_false (by omega),bc_f,IntWalk.i64_in ((i:Int)+1) (by omega)];exact ⟨by omega,by omega,nx.only ⟨rfl,rfl,rfl,trivial⟩ ⟨rfl,rfl,trivial⟩⟩
 | succ c ih=>
  intro k hk hk2;have hk3:k<cntO l[i].1.toNat l[i]:=by omega
  have nk:=ih (k+1) (by omega) (by omega);have e:(qaz l[i].1.toNat l[i]).take (k+1)=(qaz l[i].1.toNat l[i]).take k++[elO l[i].1.toNat l[i] k]:=by
   rw[List.take_succ_eq_append_getElem (by omega)]
   congr 2
   have:=qql (elO l[i].1.toNat l[i]) (cntO l[i].1.toNat l[i]) 0 k hk3;rw[Nat.zero_add] at this;have h2:(qaz l[i].1.toNat l[i])[k]?=some (elO l[i].1.toNat l[i] k):=this;rw[List.getElem?_eq_getElem (by omega)] at h2;exact Option.some.inj h2
  rw[e,<- List.append_assoc] at nk;have tl:((qaz l[i].1.toNat l[i]).take k).length<=65536:=by rw[List.length_take];omega
  have pre:q55 l[i] (k:Int):=⟨k4,by omega,λ h=>by
   have:cntO l[i].1.toNat l[i]=l[i].2.2.2.2.length:=by rcases h with h | h <;> (rw[h];rfl)
   omega⟩
  generalize hss:symF (l.take i)++(qaz l[i].1.toNat l[i]).take k=ss at *;have hsl:ss.length<=131072:=by rw[<- hss,List.length_append];omega
  refine qak qt6 (q2q li m o l ss i k _ _) ?_;rw[Int.toNat_natCast,qgh hi,decide_eq_true (show (k:Int)<l[i].2.2.1 by omega),bc_t,IntWalk.i64_in ((k:Int)+1) (by omega),Int.toNat_natCast];refine ⟨by omega,by omega,by omega,by omega,pre,Nat.le_refl 1,rfl,rfl,?_,by decide,?_⟩
  ·show ss.length+1<2 ^ 30
   show ss.length+1<1073741824
   omega
  ·exact nk.onlyR [(10,37)] rfl ⟨rfl,by rw[List.length_append];rfl,rfl,rfl,trivial⟩ ⟨rfl,rfl,trivial⟩
theorem qzo:∀ (c i:Nat),l.length-i=c->i<=l.length ->
  GD 15 Tryz.f15 (RsQ li m o l) (hd Tryz.f15 0) ⟨[(1,.ptr 1 0),(4,.win true syS 10 0 (symF (l.take i)).length),(5,.i (i:Nat))],[(1,.var (pL li m o l)),(10,.row 93 syS (symF (l.take i)))]⟩:=by
 have hv:symV (li,m,o,l)=(symF l,0):=by unfold symV;rw[if_pos hc]
 intro c
 induction c with
 | zero=>
  intro i hc2 hi;refine qak qt6 (q2p li m o l (symF (l.take i)) i _ _) ?_;rw[decide_eq_false (by omega),bc_f,List.take_of_length_le (by omega)];refine qke (e:=syS) (et:=93) (a:=10) (z:=0) (xs:=symF l) ?_ ?_ rfl rfl rfl
  ·show [SV.win true syS 0 0 (symV (li,m,o,l)).1.length,.i (symV (li,m,o,l)).2]=_
   rw[hv]
  ·show [LB.row 93 syS (symV (li,m,o,l)).1]=_
   rw[hv]
 | succ c ih=>
  intro i hc2 hi;have hil:i<l.length:=by omega
  refine qak qt6 (q2p li m o l (symF (l.take i)) i _ _) ?_;rw[decide_eq_true (show (i:Int)<(l.length:Int) by omega),bc_t];have h:=qzp li m o l hc i hil (ih (i+1) (by omega) (by omega)) _ 0 rfl (Nat.zero_le _);rw[List.take_zero,List.append_nil] at h;exact h.only ⟨rfl,rfl,rfl,rfl,trivial⟩ ⟨rfl,rfl,trivial⟩
end
theorem qvu:Held Tryz.prog G0 15 ctSym:=Held.of qt6 (fn:=Tryz.f15) rfl rfl ⟨by decide,by decide⟩ λ ⟨⟨li,m,o,l⟩,_⟩ _=>by
 refine qak qt6 (vc_rs li m o l _ _) ⟨trivial,qaf (λ h=>?_) (λ h=>?_)⟩
 ·have h:¬ (chkV (li,m,o,l)).2=0:=by
   have h:(!decide ((chkV (li,m,o,l)).2=0))=true:=h;simpa using h
  have h6:(chkV (li,m,o,l)).2=60:=by rcases za0 (li,m,o,l) with q | q;exact absurd q h;exact q
  have hv:symV (li,m,o,l)=([],60):=by unfold symV;rw[if_neg h,h6]
  refine qkf (e:=syS) (et:=93) (z:=60) ?_ ?_ rfl (by decide)
  ·show [SV.win true syS 0 0 (symV (li,m,o,l)).1.length,.i (symV (li,m,o,l)).2]=_
   rw[hv];rfl
  ·show [LB.row 93 syS (symV (li,m,o,l)).1]=_
   rw[hv]
 ·have h:(chkV (li,m,o,l)).2=0:=by
   have h:(!decide ((chkV (li,m,o,l)).2=0))=false:=h;simpa using h
  exact (qzo li m o l h _ 0 rfl (Nat.zero_le _)).only ⟨rfl,rfl,rfl,trivial⟩ ⟨rfl,rfl,trivial⟩
def rkd (s:SyT):Int:=match s.1 with
 | false=>4
 | true=>if s.2.2≠0 then 2 else 1
def ctRk:Ctr:=⟨[syS],λ _=>True,λ x=>[.i (rkd x.1)],λ _=>[]⟩
def rgoB (a b:SyT):Bool:=decide (rkd a=rkd b)&&(!a.1 || decide (b.2.1=IntKind.i64.wrap (a.2.1+1)))
def ctRgo:Ctr:=⟨[syS,syS],λ _=>True,λ x=>[.bool (rgoB x.1 x.2.1)],λ _=>[]⟩
set_option maxRecDepth 100000
theorem vc_rk (f:Bool) (a b:Int) (Q:QT) (R:RT):sA [] Tryz.f74 Q R [.code (qad Tryz.f74)] (entry [syS] ((f,a,b),())) =
  (bc (!f) (Q [.i 4] [(1,.var [.bool f,.i a,.u b])]) (bc (decide (b≠0)) (Q [.i 2] [(1,.var [.bool f,.i a,.u b])]) (Q [.i 1] [(1,.var [.bool f,.i a,.u b])]))):=by kernel_rfl
theorem q8i (f:Bool) (a b:Int) (f2:Bool) (a2 b2:Int) (Q:QT) (R:RT):sA [(74,.inl ctRk)] Tryz.f73 Q R [.code (qad Tryz.f73)] (entry [syS,syS] ((f,a,b),(f2,a2,b2),())) =
  (ctRk.pre ((f,a,b),())/\ctRk.pre ((f2,a2,b2),())/\bc (decide (rkd (f,a,b)=rkd (f2,a2,b2))) (bc (!f) (true=true/\Q [.bool true] [(2,.var [.bool f,.i a,.u b]),(3,.var [.bool f2,.i a2,.u b2])]) (Q [.bool (decide (a2=IntKind.i64.wrap (a+1)))] [(2,.var [.bool f,.i a,.u b]),(3,.var [.bool f2,.i a2,.u b2])])) (false=false/\Q [.bool false] [(2,.var [.bool f,.i a,.u b]),(3,.var [.bool f2,.i a2,.u b2])])):=by kernel_rfl
theorem q4a (f:Bool) (a b:Int) (m:Int) (Q:QT) (R:RT):sA [(67,.inl ctIn)] Tryz.f72 Q R [.code (qad Tryz.f72)] (entry [syS,iI] ((f,a,b),m,())) =
  (bc f (ctIn.pre (a,(0:Int),IntKind.i64.wrap (m-1),())/\Q [.bool (decide ((0:Int)<=a)&&decide (a<=IntKind.i64.wrap (m-1)))] [(2,.var [.bool f,.i a,.u b])]) (Q [.bool (decide (a=(0:Int)))] [(2,.var [.bool f,.i a,.u b])])):=by kernel_rfl
theorem qvx:Held Tryz.prog G0 74 ctRk:=by
 refine Held.run cx0 (fn:=Tryz.f74) rfl rfl ⟨by decide,by decide⟩ λ ⟨⟨f,a,b⟩,_⟩ _=>(vc_rk f a b _ _).mpr ?_
 have fin:∀ (v:Int) blk,rkd (f,a,b)=v->QC ctRk ((f,a,b),()) [SV.i v] blk:=λ v blk h=>QC.flat (by show [SV.i (rkd _)]=_;rw[h]) rfl rfl
 refine qaf (λ h=>fin _ _ ?_) (λ h=>qaf (λ h2=>fin _ _ ?_) (λ h2=>fin _ _ ?_))
 ·rw[Bool.not_eq_true'] at h;rw[h];rfl
 ·rw[Bool.not_eq_false'] at h;rw[h];simp only[rkd];rw[if_pos (of_decide_eq_true h2)]
 ·rw[Bool.not_eq_false'] at h;rw[h];simp only[rkd];rw[if_neg (of_decide_eq_false h2)]
theorem qzt:Held Tryz.prog G0 73 ctRgo:=by
 refine Held.run (cx0.k qvx (fn:=Tryz.f74)) (fn:=Tryz.f73) rfl rfl ⟨by decide,by decide⟩ λ ⟨⟨f,a,b⟩,⟨f2,a2,b2⟩,_⟩ _=>(q8i f a b f2 a2 b2 _ _).mpr ⟨trivial,trivial,?_⟩
 have fin:∀ (v:Bool) blk,rgoB (f,a,b) (f2,a2,b2)=v->QC ctRgo ((f,a,b),(f2,a2,b2),()) [SV.bool v] blk:=λ v blk h=>QC.flat (by show [SV.bool (rgoB _ _)]=_;rw[h]) rfl rfl
 refine qaf (λ h=>qaf (λ h2=>⟨rfl,fin _ _ ?_⟩) (λ h2=>fin _ _ ?_)) (λ h=>⟨rfl,fin _ _ ?_⟩)
 ·simp only[rgoB,h,Bool.true_and];rw[h2];rfl
 ·simp only[rgoB,h,Bool.true_and];rw[h2];rfl
 ·simp only[rgoB,h,Bool.false_and]
def qv8 (m:Int):Prop:=0<=m/\m<16777216
def ctRsyB:Ctr:=⟨[syS,iI],λ x=>qv8 x.2.1,λ x=>[.bool (sOK x.2.1 x.1)],λ _=>[]⟩
theorem sOK_w (a b m:Int) (hp:qv8 m):sOK m (true,a,b)=(decide (0<=a)&&decide (a<=IntKind.i64.wrap (m-1))):=by
 obtain ⟨h0,h1⟩:=hp;rw[IntWalk.i64_in (m-1) (by omega)]
 show (decide (0<=a)&&decide (a<m))=_
 congr 1
 exact decide_eq_decide.2 (by omega)
theorem qvt:Held Tryz.prog G0 72 ctRsyB:=by
 refine Held.run (cx0.k qnl (fn:=Tryz.f67)) (fn:=Tryz.f72) rfl rfl ⟨by decide,by decide⟩ λ ⟨⟨f,a,b⟩,m,_⟩ hp=>(q4a f a b m _ _).mpr ?_
 have fin:∀ (v:Bool) blk,sOK m (f,a,b)=v->QC ctRsyB ((f,a,b),m,()) [SV.bool v] blk:=λ v blk h=>QC.flat (by show [SV.bool (sOK _ _)]=_;rw[h]) rfl rfl
 refine qaf (λ h=>⟨trivial,fin _ _ ?_⟩) (λ h=>fin _ _ ?_)
 ·rw[show f=true from h];exact sOK_w a b m hp
 ·rw[show f=false from h];rfl
end Go.Proofs.YtgopblmdkjkbbaaGreatDoor
