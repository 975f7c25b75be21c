/-
  A part of the proof: what pieces of the program give; conditions: those of each theorem.
-/
import Derived.Test.YtdeacfammdjajaaGreatDoorQ1
import Derived.Test.YtdeacfammdjajaaGreatDoorQ0
set_option linter.unusedVariables false
set_option linter.unusedSimpArgs false
namespace Go.Proofs.YtdeacfammdjajaaGreatDoor
open Go.Px Go.Ax
set_option maxRecDepth 100000
attribute [local irreducible] Go.Px.sy Go.Px.syE
def szL (l:List (List Int)) (m:Int) (i:Nat):List OpT:=(List.range i).map λ j=>opV (gt a4S l j) m
def szK (l:List (List Int)):Nat:=min l.length 6
def szO (l:List (List Int)) (m:Int):List OpT:=szL l m (szK l)
def szV (l:List (List Int)) (m:Int):PaT:=(false,m,lenS (szO l m),szO l m)
theorem qux (l:List (List Int)) (m:Int) (i:Nat):(szL l m i).length=i:=by simp[szL]
theorem qq4 (l:List (List Int)) (m:Int) (i:Nat):szL l m (i+1)=szL l m i++[opV (gt a4S l i) m]:=by simp[szL,List.range_succ]
theorem qrv (a b:List OpT):lenS (a++b)=lenS a+lenS b:=by simp[lenS]
theorem qp1 {x:List Int} {m:Int} (hx:qs7 x) (h0:0<=m):1<=(opV x m).2.2.1/\(opV x m).2.2.1<=5:=by
 have m2:=qd1 (hx 2).1 (b:=5) (by decide);unfold opV;split
 ·split
  ·show 1<=1+_/\1+_<=5
   omega
  ·have m1:=qd1 (hx 1).1 (b:=m) (by omega);have m3:=qd1 (hx 2).1 (b:=m-(gtB x 1).tmod m) (by omega);have m4:=qd1 m3.1 (b:=5) (by decide)
   show 1<=1+_/\1+_<=5
   omega
 ·show 1<=1+_/\1+_<=5
  omega
theorem qmr {l:List (List Int)} {m:Int} (hl:∀ j,qs7 (gt a4S l j)) (h0:0<=m):∀ i,0<=lenS (szL l m i)/\lenS (szL l m i)<=5*i
 | 0=>by simp[szL,lenS]
 | i+1=>by
  have:=qmr hl h0 i;have h:=qp1 (hl i) h0;rw[qq4,qrv];have e:lenS [opV (gt a4S l i) m]=(opV (gt a4S l i) m).2.2.1:=by simp[lenS]
  rw[e];omega
def qm3 (l:List (List Int)):Prop:=∀ j,qs7 (gt a4S l j)
def preSz (l:List (List Int)) (m:Int):Prop:=qm3 l/\preN m/\l.length<9223372036854775808
def ctSz:Ctr:=⟨[raS,iI],λ x=>preSz x.1.2 x.2.1,λ x=>[paV (szV x.1.2 x.2.1)],λ _=>[]⟩
abbrev PaQ (p:PaT):List SV->List (Nat × LB)->Prop:=λ rs _=>MtL (λ _=>none) [paV p] rs
section
variable (z m:Int) (l:List (List Int)) (hl:qm3 l) (hm0:0<=m) (hm1:m<16777216) (hn:l.length<9223372036854775808)
abbrev szBs (i:Nat) (d:List OpT) (o:Int):PS:=⟨[(1,.i m),(2,.ptr 2 0),(4,.ptr 4 0),(5,.ptr 5 0),(6,.i (i:Nat))],[(2,.var [.u z,.sl a4S l]),(4,.var [.bool false,.i 0,.i 0,.nils]),(5,.var [.bool false,.i m,.i o,.win true opS 32 0 d.length]),(32,.row 74 opS d)]⟩
include hl hm0 hm1 hn
theorem q36 (i:Nat) (hi:i=szK l):GD 40 Tryz.f40 (PaQ (szV l m)) (hd Tryz.f40 0) (szBs z m l i (szL l m i) (lenS (szL l m i))):=by
 have _:=And.intro hl (And.intro hm0 (And.intro hm1 hn));have hd:szL l m i=szO l m:=by rw[hi];rfl
 rw[hd];refine Good.frz (i:=32) (e:=opS) (et:=74) (xs:=szO l m) rfl (λ c hc=>?_) ?_
 ·have hc:c∈[0+(szO l m).length<=(szO l m).length]:=hc;rw[List.mem_singleton] at hc;subst hc;omega
 ·have e:GD 40 Tryz.f40 (PaQ (szV l m)) (Px.hd Tryz.f40 0) ⟨[(1,.i m),(2,.ptr 2 0),(4,.ptr 4 0),(5,.ptr 5 0),(6,.i (i:Nat))],[(2,.var [.u z,.sl a4S l]),(4,.var [.bool false,.i 0,.i 0,.nils]),(5,.var [.bool false,.i m,.i (lenS (szO l m)),.sl opS (winL opS 0 (szO l m).length (szO l m))])]⟩:=by
   refine qat cx54 (q6y z m (lenS (szO l m)) l (winL opS 0 (szO l m).length (szO l m)) i _ _) ?_;rw[winA];have fin:PaQ (szV l m) [SV.agg [SV.bool false,SV.int IntKind.i64 m,SV.int IntKind.i64 (lenS (szO l m)),SV.sl opS (szO l m)]] []:=⟨_,_,rfl,⟨_,rfl,_,_,rfl,rfl,_,_,rfl,rfl,_,_,rfl,rfl,_,_,rfl,.inl rfl,rfl⟩,rfl⟩;refine qag (λ h=>qag (λ h2=>?_) (λ h2=>fin)) (λ h=>⟨rfl,fin⟩);have h:=of_decide_eq_true h;have h2:=of_decide_eq_true h2;unfold szK at hi;omega
  exact e.only ⟨rfl,rfl,rfl,rfl,rfl,trivial⟩ ⟨rfl,rfl,rfl,trivial⟩
theorem qyt:∀ (k i:Nat),szK l-i=k->i<=szK l->GD 40 Tryz.f40 (PaQ (szV l m)) (hd Tryz.f40 0) (szBs z m l i (szL l m i) (lenS (szL l m i))):=by
 intro k
 induction k with
 | zero=>intro i hk hi;exact q36 z m l hl hm0 hm1 hn i (by omega)
 | succ k ih=>
  intro i hk hi;have nx:=ih (i+1) (by omega) (by omega);have hs:=qmr hl hm0 i;have hs2:=qmr hl hm0 (i+1);have h6:i<l.length/\i<6:=by unfold szK at hk hi;omega
  rw[qq4,qrv] at nx hs2;have e1:lenS [opV (gt a4S l i) m]=(opV (gt a4S l i) m).2.2.1:=by simp[lenS]
  rw[e1] at nx hs2;refine qat cx54 (q6z z m (lenS (szL l m i)) l (szL l m i) i _ _) ?_;rw[decide_eq_true (show (i:Int)<(l.length:Int) by omega),bc_t,decide_eq_true (show (i:Int)<(6:Int) by omega),bc_t,Int.toNat_natCast,IntWalk.i64_in ((i:Int)+1) (by omega),IntWalk.i64_in (lenS (szL l m i)+(opV (gt a4S l i) m).2.2.1) (by omega)];refine ⟨by omega,by omega,⟨hl i,hm0,hm1⟩,Nat.le_refl 1,rfl,rfl,?_,by decide,nx.only ⟨rfl,rfl,rfl,rfl,rfl,trivial⟩ ⟨rfl,rfl,by rw[List.length_append];rfl,rfl,trivial⟩⟩
  show (szL l m i).length+1<2 ^ 30
  rw[qux];omega
theorem qyu:GD 40 Tryz.f40 (PaQ (szV l m)) (hd Tryz.f40 0) ⟨[(1,.i m),(2,.ptr 2 0),(4,.ptr 4 0),(5,.ptr 5 0),(6,.i 0)],[(2,.var [.u z,.sl a4S l]),(4,.var [.bool false,.i 0,.i 0,.nils]),(5,.var [.bool false,.i m,.i 0,.nils])]⟩:=by
 refine qat cx54 (q60 z m 0 l 0 _ _) ?_;refine qag (λ h=>qag (λ h2=>?_) (λ h2=>?_)) (λ h=>⟨rfl,?_⟩)
 ·have h:=of_decide_eq_true h;have nx:=qyt z m l hl hm0 hm1 hn _ 1 rfl (by unfold szK;omega);have hs:=qp1 (hl 0) hm0;have e0:szL l m 1=[opV (gt a4S l 0) m]:=rfl;have e1:lenS [opV (gt a4S l 0) m]=(opV (gt a4S l 0) m).2.2.1:=by simp[lenS]
  rw[e0,e1] at nx;rw[Int.toNat_natCast,IntWalk.i64_in (((0:Nat):Int)+1) (by omega),IntWalk.i64_in (0+(opV (gt a4S l 0) m).2.2.1) (by omega),Int.zero_add];exact ⟨by omega,by omega,⟨hl 0,hm0,hm1⟩,Nat.le_refl 1,(show 1<2 ^ 30 by decide),by decide,nx.only ⟨rfl,rfl,rfl,rfl,rfl,trivial⟩ ⟨rfl,rfl,rfl,rfl,trivial⟩⟩
 ·exact absurd (of_decide_eq_false h2) (by decide)
 ·have h:=of_decide_eq_false h;have e:szO l m=[]:=by
   have:l.length=0:=by omega
   unfold szO szK;rw[this];rfl
  show MtL _ [paV (szV l m)] _
  unfold szV;rw[e];exact ⟨_,_,rfl,⟨_,rfl,_,_,rfl,rfl,_,_,rfl,rfl,_,_,rfl,rfl,_,_,rfl,.inr ⟨rfl,rfl⟩,rfl⟩,rfl⟩
end
theorem q33:Held Tryz.prog G0 40 ctSz:=
 Held.of cx54 (fn:=Tryz.f40) rfl rfl ⟨by decide,by decide⟩ λ ⟨⟨z,l⟩,m,_⟩ hp=>
  qat cx54 (qx9 z m l _ _) ((qyu z m l hp.1 hp.2.1.1 hp.2.1.2 hp.2.2).post λ rs blk hq=>QC.mt hq rfl)
open Go.IntKind(i64 u32 u8)
def C30:CV:=[(40,.inl ctSz)]
theorem cx30:CxOK Tryz.prog tt G0 C30:=cx0.k q33 (fn:=Tryz.f40)
set_option maxRecDepth 100000
theorem qye (z:Int) (l:List (List Int)) (Q:QT) (R:RT):sA C30 Tryz.f10 Q R [.code (qae Tryz.f10)] (entry [raS] ((z,l),())) =
  ((13:Int)≠0/\ctSz.pre ((z,l),(i64.wrap z).tmod (13:Int),())/\Q [.agg [.bool (szV l ((i64.wrap z).tmod (13:Int))).1,.i (szV l ((i64.wrap z).tmod (13:Int))).2.1,.i (szV l ((i64.wrap z).tmod (13:Int))).2.2.1,.sl opS (szV l ((i64.wrap z).tmod (13:Int))).2.2.2]] [(1,.var [.u z,.sl (Sh.arr (4:Nat) uB) l]),(2,.var [.bool (szV l ((i64.wrap z).tmod (13:Int))).1,.i (szV l ((i64.wrap z).tmod (13:Int))).2.1,.i (szV l ((i64.wrap z).tmod (13:Int))).2.2.1,.sl opS (szV l ((i64.wrap z).tmod (13:Int))).2.2.2])]):=by kernel_rfl
def qvw (z:Int) (l:List (List Int)):Prop:=(0<=z/\z<256)/\qm3 l/\l.length<9223372036854775808
def ctM6:Ctr:=⟨[raS],λ x=>qvw x.1.1 x.1.2,λ x=>[paV (szV x.1.2 (x.1.1 % 13))],λ _=>[]⟩
theorem qwp (z:Int) (l:List (List Int)) (hz:0<=z/\z<256) (hl:qm3 l) (hn:l.length<9223372036854775808):GD 10 Tryz.f10 (QC ctM6 ((z,l),())) [.code (qae Tryz.f10)] (entry [raS] ((z,l),())):=by
 refine qai cx30 _ _ _ ((qye z l _ _).mpr ?_);have w:(IntKind.i64.wrap z).tmod 13=z % 13:=by rw[IntWalk.i64_in z (by omega),Int.tmod_eq_emod_of_nonneg hz.1]
 rw[w];exact ⟨by decide,⟨hl,(show preN (z % 13) from ⟨by omega,by omega⟩),hn⟩,QC.flat rfl rfl rfl⟩
theorem qth:Held Tryz.prog G0 10 ctM6:=
 Held.of cx30 (fn:=Tryz.f10) rfl rfl ⟨by decide,by decide⟩ λ ⟨⟨z,l⟩,_⟩ hp=>qwp z l hp.1 hp.2.1 hp.2.2
theorem qxb (el:Nat->SyT):∀ n i k,k<n->(gen el n i)[k]?=some (el (i+k))
 | 0,_,_,h=>by omega
 | n+1,i,0,_=>by rw[gen];rfl
 | n+1,i,k+1,h=>by
  rw[gen,List.getElem?_cons_succ,qxb el n (i+1) k (by omega)]
  congr 2;omega
theorem qxa (el:Nat->SyT):∀ n i s,s∈gen el n i->∃ k,k<n/\s=el (i+k)
 | 0,_,_,h=>by cases h
 | n+1,i,s,h=>by
  rw[gen] at h;rcases List.mem_cons.1 h with h | h
  ·exact ⟨0,by omega,h⟩
  ·obtain ⟨k,h1,h2⟩:=qxa el n (i+1) s h;exact ⟨k+1,by omega,by rw[h2];congr 1;omega⟩
theorem qnp (x:List Int) {k n:Int} (hk:k=2\/k=4) (hn:0<=n):((datO x k n).length:Int)=n:=by
 unfold datO;rw[if_pos hk,qnq];omega
theorem qr9 (x:List Int) {k n:Int} (hk:¬ (k=2\/k=4)):datO x k n=[]:=if_neg hk
theorem qv6 {x:List Int} {m:Int} (hx:qs7 x) (h0:0<=m) (h1:m<16777216):isRB (opV x m) m=true:=by
 have hl:=qp1 hx h0;have m0:=qd1 (hx 0).1 (b:=4) (by decide);have m2:=qd1 (hx 2).1 (b:=5) (by decide);have kR:kR (opV x m) m=true:=by
  unfold opV kR;split
  next hk=>
   split
   ·rw[if_neg (show ¬ ((4:Int)=1) by decide),if_neg (show ¬ ((4:Int)=2) by decide),if_neg (show ¬ ((4:Int)=3) by decide),if_pos (show (4:Int)=4 by decide)];simp only[rB,Bool.and_eq_true,decide_eq_true_eq];exact ⟨trivial,trivial,qnp x (.inr rfl) (by omega)⟩
   next hm=>
    have m1:=qd1 (hx 1).1 (b:=m) (by omega);have m3:=qd1 (hx 2).1 (b:=m-(gtB x 1).tmod m) (by omega);have e5:=Int.tmod_eq_emod_of_nonneg (b:=5) m3.1;generalize (gtB x 1).tmod m=f at *;generalize (gtB x 2).tmod (m-f)=g at *;rw[e5];have wp:IntKind.i64.wrap (m-(1+g % 5))=m-(1+g % 5):=IntWalk.i64_in _ (by omega);rcases (show 1+(gtB x 0).tmod 4=1\/1+(gtB x 0).tmod 4=2 by omega) with e | e
    ·rw[e];simp only[rB,qcv,wp,Bool.and_eq_true,decide_eq_true_eq,if_true];rw[qr9 x (by decide)];exact ⟨⟨by omega,by omega⟩,trivial,rfl⟩
    ·rw[e];simp only[rB,qcv,wp,Bool.and_eq_true,decide_eq_true_eq,if_true];rw[if_neg (by decide)];simp only[Bool.and_eq_true,decide_eq_true_eq];exact ⟨⟨by omega,by omega⟩,trivial,qnp x (.inl rfl) (by omega)⟩
  next hk=>
   rcases (show 1+(gtB x 0).tmod 4=3\/1+(gtB x 0).tmod 4=4 by omega) with e | e
   ·rw[e,qr9 x (by decide)];rfl
   ·rw[e];rw[if_neg (show ¬ ((4:Int)=1) by decide),if_neg (show ¬ ((4:Int)=2) by decide),if_neg (show ¬ ((4:Int)=3) by decide),if_pos (show (4:Int)=4 by decide)];simp only[rB,Bool.and_eq_true,decide_eq_true_eq];exact ⟨trivial,if_neg (by decide),qnp x (.inr rfl) (by omega)⟩
 unfold isRB;rw[decide_eq_true (show 1<=(opV x m).2.2.1 by omega),decide_eq_true (show (opV x m).2.2.1<=65536 by omega),kR];rfl
theorem q21 {m N:Int}:∀ {l:List OpT} {left i:Int},(∀ x∈l,isRB x m=true)->lenS l=left->chkF m N l left i=(N,0)
 | [],left,i,_,h=>by
  have h:(0:Int)=left:=h;rw[chkF,if_neg (by omega)]
 | x::l,left,i,hr,h=>by
  have h1:=hr x (by simp);have h2:=qes h1;have h3:=qjr (l:=l) λ y hy=>hr y (by simp[hy])
  rw[qkq] at h;rw[chkF,if_neg (by rw[h1];decide),if_neg (by omega)];exact q21 (λ y hy=>hr y (by simp[hy])) (by omega)
theorem qxs {li:Bool} {m o:Int} {l:List OpT} (h0:0<=m) (h1:m<=65536) (ho:o<=65536) (hl:l.length<=4096) (hr:∀ x∈l,isRB x m=true) (hs:lenS l=o):chkV (li,m,o,l)=((l.length:Int),(0:Int)):=by
 have:=qjr hr;unfold chkV;rw[if_pos ⟨by simp[szB];omega,by simp[szB];omega,hl⟩];exact q21 hr hs
theorem quz {m:Int}:∀ {l:List OpT},(∀ x∈l,isRB x m=true)->∀ s∈symF l,∃ x∈l,∃ k:Nat,(k:Int)<x.2.2.1/\s=elO x.1.toNat x k
 | [],_,s,h=>by cases h
 | x::l,hr,s,h=>by
  rw[symF] at h;rcases List.mem_append.1 h with h | h
  ·obtain ⟨k,h1,h2⟩:=qxa _ _ _ _ h;have:=(qd6 (hr x (by simp))).2;exact ⟨x,by simp,k,by omega,by rw[h2,Nat.zero_add]⟩
  ·obtain ⟨y,hy,k,h1,h2⟩:=quz (λ y hy=>hr y (by simp[hy])) s h;exact ⟨y,by simp[hy],k,h1,h2⟩
theorem qw0 {x:OpT} {m:Int} (h:isRB x m=true) (hm:0<=m/\m<16777216) (hk:x.1=1\/x.1=2):0<=x.2.1/\x.2.1+x.2.2.1<=m:=by
 unfold isRB kR at h;simp only[Bool.and_eq_true,decide_eq_true_eq] at h;obtain ⟨h1,h2,h3⟩:=h;have w:IntKind.i64.wrap (m-x.2.2.1)=m-x.2.2.1:=IntWalk.i64_in _ (by omega);rcases hk with e | e
 ·rw[if_pos e] at h3;simp only[rB,qcv,w,Bool.and_eq_true,decide_eq_true_eq] at h3;omega
 ·rw[if_neg (by omega),if_pos e] at h3;simp only[rB,qcv,w,Bool.and_eq_true,decide_eq_true_eq] at h3;omega
theorem quw {l:List (List Int)} {m:Int} (hl:qm3 l) (h0:0<=m) (h1:m<=65536):∀ x∈szO l m,isRB x m=true:=λ x hx=>by
 unfold szO szL at hx;obtain ⟨j,_,rfl⟩:=List.mem_map.1 hx;exact qv6 (hl j) h0 (by omega)
theorem q35 (l:List (List Int)) (m:Int):(szO l m).length<=6:=by
 unfold szO szK;rw[qux];omega
theorem quv {l:List (List Int)} {m:Int} (hl:qm3 l) (h0:0<=m):0<=lenS (szO l m)/\lenS (szO l m)<=30:=by
 have:=qmr hl h0 (szK l);have h6:szK l<=6:=by unfold szK;omega
 unfold szO;omega
theorem q34 {l:List (List Int)} {m:Int} (hl:qm3 l) (h0:0<=m) (h1:m<=65536):chkV (szV l m)=(((szO l m).length:Int),(0:Int)):=by
 have h30:=quv hl h0;have h6:=q35 l m;exact qxs h0 h1 (by omega) (by omega) (quw hl h0 h1) rfl
def qqm:List OpT->Int
 | []=>0
 | x::l=>cN x.1.toNat x+qqm l
theorem cN_le {x:OpT} {m:Int} (h:isRB x m=true):0<=cN x.1.toNat x/\cN x.1.toNat x<=65540:=by
 have hl:=qes h;rcases (qd6 h).1 with e | e | e | e
 ·rw[e];exact (show (0:Int)<=4/\(4:Int)<=65540 by decide)
 ·rw[e]
  show 0<=IntKind.i64.wrap (4+x.2.2.1)/\IntKind.i64.wrap (4+x.2.2.1)<=65540
  rw[IntWalk.i64_in _ (by omega)];omega
 ·rw[e];exact (show (0:Int)<=4/\(4:Int)<=65540 by decide)
 ·rw[e]
  show 0<=IntKind.i64.wrap (2+x.2.2.1)/\IntKind.i64.wrap (2+x.2.2.1)<=65540
  rw[IntWalk.i64_in _ (by omega)];omega
theorem qsa {m:Int}:∀ {l:List OpT} {s:Int},(∀ x∈l,isRB x m=true)->0<=s->s+65540*l.length<4611686018427387904->qtv s l=s+qqm l
 | [],s,_,_,_=>by simp[qtv,qqm]
 | x::l,s,h,h0,hb=>by
  have h1:=cN_le (h x (by simp));rw[List.length_cons] at hb;rw[qtv,IntWalk.i64_in _ (by omega),qsa (λ y hy=>h y (by simp[hy])) (by omega) (by omega),qqm];omega
theorem qs2 {m:Int} {l:List OpT} (h:∀ x∈l,isRB x m=true):∀ y∈l,k14 y:=λ y hy=>(qd6 (h y hy)).1
theorem qvb {m:Int} {s:SyT} (h:sOK m s=true) (ho:s.1=true):0<=s.2.1/\s.2.1<m:=by
 unfold sOK at h;rw[if_pos ho] at h;simpa using h
theorem q8f {m:Int} {s:SyT} (h:sOK m s=true) (ho:s.1=false):s.2.1=0:=by
 unfold sOK at h;rw[if_neg (by rw[ho];decide)] at h;simpa using h
section
variable {l:List SyT} {m:Int} (hr:∀ s∈l,sOK m s=true) (hm:m<16777216)
include hr hm
end
def q88:Ctr:=⟨[.sl syS],λ x=>List.length x.1=0,λ x=>[.sl opS (opsL x.1)],λ _=>[]⟩
def ctOpsA:Ctr:=⟨[.sl syS],λ x=>List.length x.1<16777216,λ x=>[.sl opS (opsL x.1)],λ _=>[]⟩
set_option maxRecDepth 100000
theorem q7e (l:List SyT) (m:Int) (Q:QT) (R:RT):sA ((112,.inl ctOpsA)::(111,.inl ctAre)::C1) Tryz.f89 Q R [.code (qae Tryz.f89)] (entry [.sl syS,iI] (l,m,())) =
  (ctSize.pre (m,())/\bc (!(decide ((0:iI.D)<=m)&&decide (m<=(65536:iI.D)))) (true=true/\true=true/\Q [.agg [.bool false,.i 0,.i 0,.nils],.i 60] [(4,.var [.bool false,.i 0,.i 0,.nils])]) (ctSize.pre ((l.length:Int),())/\bc (bif false then true else !(decide ((0:iI.D)<=(l.length:Int))&&decide ((l.length:Int)<=(65536:iI.D)))) (true=true/\Q [.agg [.bool false,.i 0,.i 0,.nils],.i 60] [(4,.var [.bool false,.i 0,.i 0,.nils])]) (ctAre.pre (l,m,())/\bc (bif false then true else !l.all (sOK m)) (Q [.agg [.bool false,.i 0,.i 0,.nils],.i 60] [(4,.var [.bool false,.i 0,.i 0,.nils])]) (ctOpsA.pre (l,())/\bc (decide ((4096:Int)<(↑(opsL l).length:Int))) (Q [.agg [.bool false,.i 0,.i 0,.nils],.i 2] [(4,.var [.bool false,.i 0,.i 0,.nils])]) (Q [.agg [.bool false,.i m,.i (l.length:Int),.sl opS (opsL l)],.i 0] [(4,.var [.bool false,.i m,.i (l.length:Int),.sl opS (opsL l)])]))))):=by kernel_rfl
theorem qv4:Held Tryz.prog G0 112 q88:=by
 refine Held.run dxO (fn:=Tryz.f112) rfl rfl ⟨by decide,by decide⟩ ?_;rintro ⟨l,⟨⟩⟩ hp;replace hp:l.length=0:=hp;have e:l=[]:=List.eq_nil_of_length_eq_zero hp;subst e;refine (q1y [] _ _).mpr ?_;refine Good.only (S':=⟨[(0,.sl syS []),(3,.nils),(4,.i ((0:Nat):Int)),(5,.i ((1:Nat):Int))],[]⟩) (qai dxO _ _ _ ((que [] 0 1 _ _).mpr ?_)) ⟨rfl,rfl,rfl,rfl,trivial⟩ trivial;rw[decide_eq_false (by decide),bc_f];exact QC.mt ⟨_,_,rfl,.inr ⟨rfl,rfl⟩,rfl⟩ rfl
theorem qv3:Held Tryz.prog G0 112 ctOpsA:=λ x hp=>by
 by_cases h:List.length x.1=0
 ·exact qv4 x h
 ·exact qzo x ⟨Nat.pos_of_ne_zero h,hp⟩
def ctOfA:Ctr:=⟨[.sl syS,iI],λ x=>List.length x.1<16777216,λ x=>[paV (ofV x.1 x.2.1).1,.i (ofV x.1 x.2.1).2],λ _=>[]⟩
theorem qzv:Held Tryz.prog G0 89 ctOfA:=by
 refine Held.run ((cx1.k q09 (fn:=Tryz.f111)).k qv3 (fn:=Tryz.f112)) (fn:=Tryz.f89) rfl rfl ⟨by decide,by decide⟩ ?_;rintro ⟨l,m,⟨⟩⟩ hp;replace hp:l.length<16777216:=hp;have bad:¬ (szB m=true/\szB l.length=true/\l.all (sOK m)=true)->ofV l m=((false,0,0,[]),60):=λ q=>if_neg q
 refine (q7e l m _ _).mpr ⟨trivial,qag (λ h=>⟨rfl,rfl,?_⟩) (λ h=>⟨trivial,qag (λ h2=>⟨rfl,?_⟩) (λ h2=>⟨(show l.length<1099511627776 by omega),qag (λ h3=>?_) (λ h3=>⟨hp,qag (λ h4=>?_) (λ h4=>?_)⟩)⟩)⟩)⟩
 ·have h:(!szB m)=true:=h;have hv:=bad λ q=>by rw[q.1] at h;cases h
  exact QC.mt (by show MtL _ [paV (ofV l m).1,.i (ofV l m).2] _;rw[hv];exact ⟨_,_,rfl,⟨_,rfl,_,_,rfl,rfl,_,_,rfl,rfl,_,_,rfl,rfl,_,_,rfl,.inr ⟨rfl,rfl⟩,rfl⟩,_,_,rfl,rfl,rfl⟩) rfl
 ·have h2:(!szB l.length)=true:=h2;have hv:=bad λ q=>by rw[q.2.1] at h2;cases h2
  exact QC.mt (by show MtL _ [paV (ofV l m).1,.i (ofV l m).2] _;rw[hv];exact ⟨_,_,rfl,⟨_,rfl,_,_,rfl,rfl,_,_,rfl,rfl,_,_,rfl,rfl,_,_,rfl,.inr ⟨rfl,rfl⟩,rfl⟩,_,_,rfl,rfl,rfl⟩) rfl
 ·have h3:(!l.all (sOK m))=true:=h3;have hv:=bad λ q=>by rw[q.2.2] at h3;cases h3
  exact QC.mt (by show MtL _ [paV (ofV l m).1,.i (ofV l m).2] _;rw[hv];exact ⟨_,_,rfl,⟨_,rfl,_,_,rfl,rfl,_,_,rfl,rfl,_,_,rfl,rfl,_,_,rfl,.inr ⟨rfl,rfl⟩,rfl⟩,_,_,rfl,rfl,rfl⟩) rfl
 all_goals
  have h:(!szB m)=false:=h;have h2:(!szB l.length)=false:=h2;have h3:(!l.all (sOK m))=false:=h3;have hg:szB m=true/\szB l.length=true/\l.all (sOK m)=true:=⟨by simpa using h,by simpa using h2,by simpa using h3⟩
 ·have h4:(4096:Int)<((opsL l).length:Int):=of_decide_eq_true h4;have hv:ofV l m=((false,0,0,[]),2):=by unfold ofV;rw[if_pos hg,if_pos (by omega)]
  exact QC.mt (by show MtL _ [paV (ofV l m).1,.i (ofV l m).2] _;rw[hv];exact ⟨_,_,rfl,⟨_,rfl,_,_,rfl,rfl,_,_,rfl,rfl,_,_,rfl,rfl,_,_,rfl,.inr ⟨rfl,rfl⟩,rfl⟩,_,_,rfl,rfl,rfl⟩) rfl
 ·have h4:¬ (4096:Int)<((opsL l).length:Int):=of_decide_eq_false h4;have hv:ofV l m=(((false,m,(l.length:Int),opsL l):PaT),(0:Int)):=by unfold ofV;rw[if_pos hg,if_neg (by omega)]
  exact QC.flat (by show [paV (ofV l m).1,.i (ofV l m).2]=_;rw[hv];rfl) rfl rfl
abbrev LiT:Type:=Int × Int × Int × Int
def zLi:LiT:=(0,0,0,0)
def canB (k:Int) (s:SyT):Bool:=if k=1 then s.1&&decide (s.2.2=0) else if k=2 then s.1 else !s.1
def goK (k:Int) (s t:SyT):Bool:=if k=1\/k=2 then decide (t.2.1=IntKind.i64.wrap (s.2.1+1)) else if k=3 then decide (t.2.2=s.2.2) else true
def hdC (k:Int):Int:=if k=4 then 2 else 4
def eaC (k:Int):Int:=if k=2\/k=4 then 1 else 0
def betB (a b:LiT):Bool:=
 if a.2.1=0\/b.2.1=0 then decide (0<a.2.1)&&decide (b.2.1=0)
 else if a.2.2.1≠b.2.2.1 then decide (a.2.2.1<b.2.2.1)
 else if a.2.2.2≠b.2.2.2 then decide (a.2.2.2<b.2.2.2)
 else if a.1≠b.1 then decide (a.1<b.1)
 else decide (b.2.1<a.2.1)
def oneF (k:Int) (w:Int × Int):LiT:=(k,1,w.1+hdC k+eaC k,w.2+1)
def qkk (k:Int) (g:LiT):LiT:=(k,g.2.1+1,g.2.2.1+eaC k,g.2.2.2)
def begF (k:Int) (s t:SyT) (w:Int × Int) (g:LiT):LiT:=
 if canB k s=false then zLi
 else if g.2.1=0\/goK k s t=false then oneF k w
 else if betB (oneF k w) (qkk k g)=true then oneF k w else qkk k g
def upd (b g:LiT):LiT:=if betB g b=true then g else b
def q8k (g:Int->LiT):LiT:=upd (upd (upd (upd zLi (g 1)) (g 2)) (g 3)) (g 4)
def tb:List SyT->(Int->LiT) × LiT
 | []=>(λ _=>zLi,zLi)
 | s::r=>(λ k=>begF k s (gtY r 0) (tb r).2.2.2 ((tb r).1 k),q8k λ k=>begF k s (gtY r 0) (tb r).2.2.2 ((tb r).1 k))
def bst (l:List SyT):LiT:=(tb l).2
def beg (l:List SyT) (k:Int):LiT:=(tb l).1 k
theorem qsi (s:SyT) (r:List SyT) (k:Int):beg (s::r) k=begF k s (gtY r 0) (bst r).2.2 (beg r k):=rfl
theorem q04 (s:SyT) (r:List SyT):bst (s::r)=q8k λ k=>beg (s::r) k:=rfl
def fitN (k:Int):List SyT->Nat
 | []=>0
 | s::r=>if canB k s=true then (if goK k s (gtY r 0)=true then 1+fitN k r else 1) else 0
theorem qfo (k:Int):∀ l,fitN k l<=l.length
 | []=>Nat.le_refl _
 | s::r=>by
  have:=qfo k r;rw[fitN,List.length_cons];split
  ·split <;> omega
  ·omega
def keyT (b:LiT):Int:=((b.2.2.1*4294967296+b.2.2.2)*8+b.1)*1048576-b.2.1
def wB (b:LiT):Int:=b.2.2.1*4294967296+b.2.2.2
def keyL (k:Int) (n:Nat) (l:List SyT):Int:=(((hdC k+eaC k*(n:Int))*4294967296+1+wB (bst (l.drop n)))*8+k)*1048576-(n:Int)
def boL (m:Nat) (b:LiT):Prop:=0<=b.2.2.1/\b.2.2.1<=5*(m:Int)/\0<=b.2.2.2/\b.2.2.2<=(m:Int)
def okB (k:Int) (l:List SyT) (g:LiT):Prop:=
 (fitN k l=0/\g=zLi)\/(g.1=k/\∃ n:Nat,g.2.1=(n:Int)/\1<=n/\n<=fitN k l/\keyT g=keyL k n l/\(∀ m:Nat,1<=m->m<=fitN k l->keyL k n l<=keyL k m l)/\boL l.length g)
abbrev kOK (k:Int):Prop:=1<=k/\k<=4
def okL (l:List SyT) (b:LiT):Prop:=
 (l=[]/\b=zLi)\/(l≠[]/\kOK b.1/\∃ n:Nat,b.2.1=(n:Int)/\1<=n/\n<=fitN b.1 l/\keyT b=keyL b.1 n l/\(∀ k,kOK k->∀ m:Nat,1<=m->m<=fitN k l->keyL b.1 n l<=keyL k m l)/\boL l.length b)
theorem qsh {a b:LiT} (ha:kOK a.1) (hb:kOK b.1) (a1:1<=a.2.1/\a.2.1<1048576) (b1:1<=b.2.1/\b.2.1<1048576) (a2:0<=a.2.2.2/\a.2.2.2<4294967296) (b2:0<=b.2.2.2/\b.2.2.2<4294967296) :
  (betB a b=true↔keyT a<keyT b):=by
 obtain ⟨k,n,c,o⟩:=a;obtain ⟨k',n',c',o'⟩:=b;simp only[kOK] at *;unfold betB keyT;simp only;rw[if_neg (by omega)];by_cases h1:c=c'
 ·rw[if_neg (by simpa using h1)];by_cases h2:o=o'
  ·rw[if_neg (by simpa using h2)];by_cases h3:k=k'
   ·rw[if_neg (by simpa using h3)];simp only[decide_eq_true_eq];omega
   ·rw[if_pos h3];simp only[decide_eq_true_eq];omega
  ·rw[if_pos h2];simp only[decide_eq_true_eq];omega
 ·rw[if_pos h1];simp only[decide_eq_true_eq];omega
theorem q8w (k:Int):2<=hdC k/\hdC k<=4:=by unfold hdC;split <;> omega
theorem q84 (k:Int):0<=eaC k/\eaC k<=1:=by unfold eaC;split <;> omega
theorem qrx (k:Int) (s:SyT) (r:List SyT):keyL k 1 (s::r)=keyT (oneF k (bst r).2.2):=by
 have e:(s::r).drop 1=r:=rfl;unfold keyL keyT oneF wB;rw[e];simp only[Int.mul_one,Int.natCast_one];omega
theorem qkt (k:Int) (s:SyT) (r:List SyT) (n:Nat):keyL k (n+1) (s::r)=keyL k n r+eaC k*36028797018963968-1:=by
 have e:(s::r).drop (n+1)=r.drop n:=rfl;unfold keyL;rw[e,Int.natCast_add,Int.natCast_one,Int.mul_add,Int.mul_one];omega
theorem qwx (k:Int) (g:LiT) (hk:g.1=k):keyT (qkk k g)=keyT g+eaC k*36028797018963968-1:=by
 unfold keyT qkk;simp only[hk];omega
theorem q9j (m:Nat):boL m zLi:=by
 unfold boL zLi;simp only;omega
theorem qzu {k:Int} (hk:kOK k) {s:SyT} {r:List SyT} (hr:okB k r (beg r k)) (hb:boL r.length (bst r)) (hl:(s::r).length<=65536):okB k (s::r) (beg (s::r) k):=by
 rw[qsi];unfold begF;have hh:=q8w k;have he:=q84 k;have hn:=qfo k r;rw[List.length_cons] at hl;by_cases hc:canB k s=false
 ·rw[if_pos hc];exact .inl ⟨by rw[fitN,if_neg (by rw[hc];decide)],rfl⟩
 ·rw[if_neg hc];have hc:canB k s=true:=by simpa using hc
  have hone:boL (s::r).length (oneF k (bst r).2.2):=by
   unfold boL oneF at *;simp only[List.length_cons];omega
  by_cases hg:(beg r k).2.1=0\/goK k s (gtY r 0)=false
  ·rw[if_pos hg];have hf:fitN k (s::r)=1:=by
    rw[fitN,if_pos hc];split
    next h=>
     rcases hg with hg | hg
     ·rcases hr with hr | ⟨_,n,h1,h2,_⟩
      ·rw[hr.1]
      ·omega
     ·rw[hg] at h;cases h
    ·rfl
   refine .inr ⟨rfl,1,rfl,Nat.le_refl _,by omega,(qrx k s r).symm,λ m h1 h2=>?_,hone⟩;have:m=1:=by omega
   rw[this];exact Int.le_refl _
  ·rw[if_neg hg];have hg1:¬ (beg r k).2.1=0:=λ h=>hg (.inl h)
   have hg2:goK k s (gtY r 0)=true:=by
    have:¬ goK k s (gtY r 0)=false:=λ h=>hg (.inr h)
    simpa using this
   rcases hr with hr | ⟨e1,n,h1,h2,h3,h4,h5,h6⟩
   ·rw[hr.2] at hg1;exact absurd rfl hg1
   have hf:fitN k (s::r)=1+fitN k r:=by rw[fitN,if_pos hc,if_pos hg2]
   have hm:keyT (qkk k (beg r k))=keyL k (n+1) (s::r):=by rw[qwx k _ e1,qkt,h4]
   have hmb:boL (s::r).length (qkk k (beg r k)):=by
    unfold boL qkk at *;simp only[List.length_cons];omega
   have ho:=qrx k s r;have hmo:∀ m:Nat,1<=m->m<=fitN k (s::r)->m=1\/keyL k (n+1) (s::r)<=keyL k m (s::r):=λ m m1 m2=>by
    rcases Nat.lt_or_ge 1 m with h | h
    ·obtain ⟨q,hq⟩:∃ q,m=q+1:=⟨m-1,by omega⟩;subst hq;have:=h5 q (by omega) (by omega);rw[qkt,qkt];exact .inr (by omega)
    ·exact .inl (by omega)
   have hkey:=qsh (a:=oneF k (bst r).2.2) (b:=qkk k (beg r k)) hk hk (show 1<=(1:Int)/\(1:Int)<1048576 by omega) (show 1<=(beg r k).2.1+1/\(beg r k).2.1+1<1048576 by omega) (show 0<=(bst r).2.2.2+1/\(bst r).2.2.2+1<4294967296 by unfold boL at hb;omega) (show 0<=(beg r k).2.2.2/\(beg r k).2.2.2<4294967296 by unfold boL at h6;omega);split
   next hbt=>
    have hlt:=hkey.1 hbt;rw[<- ho,hm] at hlt;refine .inr ⟨rfl,1,rfl,Nat.le_refl _,by omega,ho.symm,λ m m1 m2=>?_,hone⟩;rcases hmo m m1 m2 with h | h
    ·rw[h];exact Int.le_refl _
    ·omega
   next hbt=>
    have hlt:¬ keyT (oneF k (bst r).2.2)<keyT (qkk k (beg r k)):=λ h=>hbt (hkey.2 h)
    rw[<- ho,hm] at hlt;refine .inr ⟨rfl,n+1,by rw[Int.natCast_add,<- h1];rfl,by omega,by omega,hm,λ m m1 m2=>?_,hmb⟩;rcases hmo m m1 m2 with h | h
    ·rw[h];omega
    ·omega
def okU (m:Int) (l:List SyT) (b:LiT):Prop:=
 (b=zLi/\∀ k,1<=k->k<=m->fitN k l=0)\/(kOK b.1/\b.1<=m/\∃ n:Nat,b.2.1=(n:Int)/\1<=n/\n<=fitN b.1 l/\keyT b=keyL b.1 n l/\(∀ k,1<=k->k<=m->∀ q:Nat,1<=q->q<=fitN k l->keyL b.1 n l<=keyL k q l)/\boL l.length b)
theorem qjp {m:Int} {l:List SyT} {b g:LiT} (hm:0<=m/\m<4) (hl:l.length<=65536) (hb:okU m l b) (hg:okB (m+1) l g):okU (m+1) l (upd b g):=by
 have fle:=λ k=>qfo k l
 unfold upd;rcases hg with ⟨h1,h2⟩ | ⟨e1,n,h1,h2,h3,h4,h5,h6⟩
 ·have hx:betB g b=false:=by
   subst h2;unfold betB zLi;simp
  rw[hx,if_neg (by decide)];rcases hb with ⟨q1,q2⟩ | ⟨q1,q2,q,q3,q4,q5,q6,q7,q8⟩
  ·refine .inl ⟨q1,λ k k1 k2=>?_⟩;rcases Int.lt_or_le k (m+1) with h | h
   ·exact q2 k k1 (by omega)
   ·have:k=m+1:=by omega
    rw[this];exact h1
  ·refine .inr ⟨q1,by omega,q,q3,q4,q5,q6,λ k k1 k2 p p1 p2=>?_,q8⟩;rcases Int.lt_or_le k (m+1) with h | h
   ·exact q7 k k1 (by omega) p p1 p2
   ·have:k=m+1:=by omega
    rw[this,h1] at p2;omega
 ·have gk:kOK g.1:=by rw[e1];unfold kOK;omega
  have f1:=fle (m+1);rcases hb with ⟨q1,q2⟩ | ⟨q1,q2,q,q3,q4,q5,q6,q7,q8⟩
  ·have hx:betB g b=true:=by
    subst q1;unfold betB zLi;rw[if_pos (.inr rfl)];simp;omega
   rw[hx,if_pos rfl];refine .inr ⟨gk,by omega,n,h1,h2,by rw[e1];exact h3,by rw[e1];exact h4,λ k k1 k2 p p1 p2=>?_,h6⟩;rcases Int.lt_or_le k (m+1) with h | h
   ·rw[q2 k k1 (by omega)] at p2;omega
   ·have hk:k=m+1:=by omega
    subst hk;rw[e1];exact h5 p p1 p2
  ·have f2:=fle b.1;have hkey:=qsh (a:=g) (b:=b) gk q1 (by omega) (by omega) (by unfold boL at h6;omega) (by unfold boL at q8;omega);have e2:keyL g.1 n l=keyL (m+1) n l:=by rw[e1]
   split
   next hx=>
    have hlt:=hkey.1 hx;refine .inr ⟨gk,by omega,n,h1,h2,by rw[e1];exact h3,by rw[e1];exact h4,λ k k1 k2 p p1 p2=>?_,h6⟩;rcases Int.lt_or_le k (m+1) with h | h
    ·have:=q7 k k1 (by omega) p p1 p2;omega
    ·have hk:k=m+1:=by omega
     subst hk;rw[e2];exact h5 p p1 p2
   next hx=>
    have hlt:¬ keyT g<keyT b:=λ h=>hx (hkey.2 h)
    refine .inr ⟨q1,by omega,q,q3,q4,q5,q6,λ k k1 k2 p p1 p2=>?_,q8⟩;rcases Int.lt_or_le k (m+1) with h | h
    ·exact q7 k k1 (by omega) p p1 p2
    ·have hk:k=m+1:=by omega
     subst hk;have:=h5 p p1 p2;omega
theorem q0n (s:SyT) (r:List SyT):(1:Nat)<=fitN 2 (s::r)\/(1:Nat)<=fitN 4 (s::r):=by
 cases h:s.1
 ·right;rw[fitN,if_pos (by simp[canB,h])];split <;> omega
 ·left;rw[fitN,if_pos (by simp[canB,h])];split <;> omega
theorem qrq:∀ l:List SyT,l.length<=65536->(∀ k,kOK k->okB k l (beg l k))/\okL l (bst l)
 | [],_=>⟨λ k _=>.inl ⟨rfl,rfl⟩,.inl ⟨rfl,rfl⟩⟩
 | s::r,hl=>by
  have hr:=qrq r (by rw[List.length_cons] at hl;omega);have hb:boL r.length (bst r):=by
   rcases hr.2 with h | ⟨_,_,n,_,_,_,_,_,h⟩
   ·rw[h.2];exact q9j _
   ·exact h
  have hg:∀ k,kOK k->okB k (s::r) (beg (s::r) k):=λ k hk=>qzu hk (hr.1 k hk) hb hl
  refine ⟨hg,?_⟩;have h0:okU 0 (s::r) zLi:=.inl ⟨rfl,λ k k1 k2=>by omega⟩;have h1:=qjp (m:=0) (by omega) hl h0 (hg 1 (by unfold kOK;omega));have h2:=qjp (m:=1) (by omega) hl h1 (hg 2 (by unfold kOK;omega));have h3:=qjp (m:=2) (by omega) hl h2 (hg 3 (by unfold kOK;omega));have h4:=qjp (m:=3) (by omega) hl h3 (hg 4 (by unfold kOK;omega));rw[q04];rcases h4 with ⟨q1,q2⟩ | ⟨q1,q2,q,q3,q4,q5,q6,q7,q8⟩
  ·exfalso;have a:=q2 2 (by omega) (by omega);have b:=q2 4 (by omega) (by omega);rcases q0n s r with h | h <;> omega
  ·exact .inr ⟨by simp,q1,q,q3,q4,q5,q6,λ k hk p p1 p2=>q7 k hk.1 hk.2 p p1 p2,q8⟩
theorem qsg (l:List SyT) (hl:l.length<=65536):boL l.length (bst l):=by
 rcases (qrq l hl).2 with h | ⟨_,_,n,_,_,_,_,_,h⟩
 ·rw[h.2];exact q9j _
 ·exact h
abbrev suS:Sh:=.pair iI iI
abbrev liS:Sh:=.pair iI (.pair iI suS)
set_option maxRecDepth 100000
theorem qyg (a:Int) (Q:QT) (R:RT):sA [] Tryz.f167 Q R [.code (qae Tryz.f167)] (entry [iI] (a,())) =
  (Q [.bool (decide (a≠a))] []):=by kernel_rfl
theorem q3y (k:Int) (s:SyT) (Q:QT) (R:RT):sA [] Tryz.f157 Q R [.code (qae Tryz.f157)] (entry [iI,syS] (k,s,())) =
  (bc (decide (k=(1:Int))) (bc s.1 (Q [.bool (decide (s.2.2=(0:Int)))] [(3,.var [.bool s.1,.i s.2.1,.u s.2.2])]) (false=false/\Q [.bool false] [(3,.var [.bool s.1,.i s.2.1,.u s.2.2])])) (bc (decide (k=(2:Int))) (Q [.bool s.1] [(3,.var [.bool s.1,.i s.2.1,.u s.2.2])]) (Q [.bool !s.1] [(3,.var [.bool s.1,.i s.2.1,.u s.2.2])]))):=by kernel_rfl
def qct (s t:SyT):List (Nat × LB):=[(4,.var [.bool s.1,.i s.2.1,.u s.2.2]),(5,.var [.bool t.1,.i t.2.1,.u t.2.2])]
theorem q3w (k:Int) (s t:SyT) (Q:QT) (R:RT):sA [] Tryz.f158 Q R [.code (qae Tryz.f158)] (entry [iI,syS,syS] (k,s,t,())) =
  (bc (decide (k=(1:Int))) (bc (decide (k=(1:Int))) (Q [.bool (decide (t.2.1=IntKind.i64.wrap (s.2.1+1)))] (qct s t)) (bc (decide (k=(3:Int))) (Q [.bool (decide (t.2.2=s.2.2))] (qct s t)) (Q [.bool true] (qct s t)))) (bc (decide (k=(2:Int))) (Q [.bool (decide (t.2.1=IntKind.i64.wrap (s.2.1+1)))] (qct s t)) (bc (decide (k=(3:Int))) (Q [.bool (decide (t.2.2=s.2.2))] (qct s t)) (Q [.bool true] (qct s t))))):=by kernel_rfl
theorem vc_or (x:List Int) (Q:QT) (R:RT):sA [] Tryz.f159 Q R [.code (qae Tryz.f159)] (entry [.sl iI] (x,())) =
  (R (hd Tryz.f159 0) { env:=[(0,.sl iI x),(2,.i 0),(3,.i 0),(6,.sl iI x),(7,.i (x.length:Int)),(8,.i 0)],blk:=[] }):=by kernel_rfl
theorem q1w (x:List Int) (i:Nat) (Q:QT) (R:RT):sA [] Tryz.f159 Q R (hd Tryz.f159 0) ⟨[(3,.i 0),(6,.sl iI x),(7,.i x.length),(8,.i (i:Nat))],[]⟩ =
  (bc (decide ((i:Int)<(x.length:Int))) ((0:Int)<=(i:Int)/\(i:Int)<(x.length:Int)/\bc (decide (gt iI x (i:Int).toNat≠0)) (Q [.i (gt iI x (i:Int).toNat)] []) (R (hd Tryz.f159 0) { env:=[(3,.i 0),(5,.i (gt iI x (i:Int).toNat)),(6,.sl iI x),(7,.i (x.length:Int)),(8,.i (IntKind.i64.wrap ((i:Int)+1))),(9,.bool (decide ((i:Int)<(x.length:Int)))),(10,.elv iI (gt iI x (i:Int).toNat)),(11,.i (gt iI x (i:Int).toNat)),(12,.i (gt iI x (i:Int).toNat)),(13,.i 0),(14,.bool (decide (gt iI x (i:Int).toNat≠0))),(16,.i (IntKind.i64.wrap ((i:Int)+1)))],blk:=[] })) (Q [.i 0] [])):=by kernel_rfl
def ctNan:Ctr:=⟨[iI],λ _=>True,λ _=>[.bool false],λ _=>[]⟩
theorem qzy:Held Tryz.prog G0 167 ctNan:=Held.run cx0 (fn:=Tryz.f167) rfl rfl ⟨by decide,by decide⟩ λ x _=>by
 refine (qyg x.1 _ _).mpr ?_;rw[decide_eq_false (by simp)];exact QC.flat rfl rfl rfl
def CNan:CV:=[(167,.inl ctNan)]
theorem cxNan:CxOK Tryz.prog tt G0 CNan:=cx0.k qzy (fn:=Tryz.f167)
def ctCan:Ctr:=⟨[iI,syS],λ _=>True,λ x=>[.bool (canB x.1 x.2.1)],λ _=>[]⟩
theorem q6q (k:Int) (o:Bool) (a b:Int) (R:List Item->PS->Prop):sA [] Tryz.f157 (QC ctCan (k,(o,a,b),())) R [.code (qae Tryz.f157)] (entry [iI,syS] (k,(o,a,b),())):=by
 refine (q3y k (o,a,b) _ _).mpr ?_;refine qag (λ h=>?_) (λ h=>qag (λ h2=>?_) (λ h2=>?_))
 ·have h:=of_decide_eq_true h;subst h;refine qag (λ h=>?_) (λ h=>⟨rfl,?_⟩)
  ·have h:o=true:=h;subst h;exact QC.flat rfl rfl rfl
  ·have h:o=false:=h;subst h;exact QC.flat rfl rfl rfl
 ·have h2:=of_decide_eq_true h2;subst h2;exact QC.flat rfl rfl rfl
 ·have h:=of_decide_eq_false h;have h2:=of_decide_eq_false h2;refine QC.flat ?_ rfl rfl
  show [SV.bool (canB k (o,a,b))]=_
  unfold canB;rw[if_neg h,if_neg h2]
theorem q03:Held Tryz.prog G0 157 ctCan:=Held.run cx0 (fn:=Tryz.f157) rfl rfl ⟨by decide,by decide⟩ λ ⟨k,⟨o,a,b⟩,_⟩ _=>q6q k o a b _
def ctGoe:Ctr:=⟨[iI,syS,syS],λ _=>True,λ x=>[.bool (goK x.1 x.2.1 x.2.2.1)],λ _=>[]⟩
theorem q51 (k:Int) (s t:SyT) (R:List Item->PS->Prop):sA [] Tryz.f158 (QC ctGoe (k,s,t,())) R [.code (qae Tryz.f158)] (entry [iI,syS,syS] (k,s,t,())):=by
 refine (q3w k s t _ _).mpr ?_;have out:∀ b,goK k s t=b->ctGoe.out (k,s,t,())=[SV.bool b]:=λ b e=>congrArg (λ b=>[SV.bool b]) e
 refine qag (λ h=>?_) (λ h=>qag (λ h2=>?_) (λ h2=>qag (λ h3=>?_) (λ h3=>?_)))
 ·have h:=of_decide_eq_true h;subst h;exact QC.flat (out _ rfl) rfl rfl
 ·have h2:=of_decide_eq_true h2;subst h2;exact QC.flat (out _ rfl) rfl rfl
 ·have h3:=of_decide_eq_true h3;subst h3;exact QC.flat (out _ rfl) rfl rfl
 ·have h:=of_decide_eq_false h;have h2:=of_decide_eq_false h2;have h3:=of_decide_eq_false h3;exact QC.flat (out _ (by unfold goK;rw[if_neg (by omega),if_neg h3])) rfl rfl
theorem q0l:Held Tryz.prog G0 158 ctGoe:=Held.run cx0 (fn:=Tryz.f158) rfl rfl ⟨by decide,by decide⟩ λ ⟨k,s,t,_⟩ _=>q51 k s t _
def orF:List Int->Int
 | []=>0
 | a::l=>if a≠0 then a else orF l
def ctOr:Ctr:=⟨[.sl iI],λ x=>List.length x.1<1000000,λ x=>[.i (orF x.1)],λ _=>[]⟩
theorem q41 (x:List Int) (hl:x.length<1000000):∀ (c i:Nat),x.length-i=c->i<=x.length ->
  GD 159 Tryz.f159 (λ rs _=>rs=[.i (orF (x.drop i))]) (hd Tryz.f159 0) ⟨[(3,.i 0),(6,.sl iI x),(7,.i x.length),(8,.i (i:Nat))],[]⟩:=by
 intro c
 induction c with
 | zero=>
  intro i hc hi;refine qjd cx0 (q1w x i _ _) ?_;rw[decide_eq_false (by omega),bc_f,List.drop_eq_nil_of_le (by omega)];rfl
 | succ c ih=>
  intro i hc hi;have hil:i<x.length:=by omega
  have nx:=ih (i+1) (by omega) (by omega);have e:gt iI x i=x[i]:=gtE (e:=iI) hil;refine qjd cx0 (q1w x i _ _) ?_;rw[decide_eq_true (show (i:Int)<(x.length:Int) by omega),bc_t,Int.toNat_natCast,IntWalk.i64_in ((i:Int)+1) (by omega),e];rw[List.drop_eq_getElem_cons hil];refine ⟨by omega,by omega,qag (λ h=>?_) (λ h=>?_)⟩
  ·have h:x[i]≠0:=of_decide_eq_true h
   show _=_
   rw[orF,if_pos h]
  ·have h:¬ x[i]≠0:=of_decide_eq_false h;rw[orF,if_neg h];exact nx.only ⟨rfl,rfl,rfl,rfl,trivial⟩ trivial
theorem q42:Held Tryz.prog G0 159 ctOr:=
 Held.of cx0 (fn:=Tryz.f159) rfl rfl ⟨by decide,by decide⟩ λ ⟨x,_⟩ hp=>
  qjd cx0 (vc_or x _ _) (((q41 x hp _ 0 rfl (by omega)).post λ rs blk hq=>QC.flat (by rw[hq];rfl) rfl (by rw[hq];rfl)).only ⟨rfl,rfl,rfl,rfl,trivial⟩ trivial)
def cmF (a b:Int):Int:=if a<b then -1 else if b<a then 1 else 0
def ctCmp:Ctr:=⟨[iI,iI],λ _=>True,λ x=>[.i (cmF x.1 x.2.1)],λ _=>[]⟩
set_option maxRecDepth 100000
theorem q7t (a b:Int) (Q:QT) (R:RT):sA CNan Tryz.f160 Q R [.code (qae Tryz.f160)] (entry [iI,iI] (a,b,())) =
  (ctNan.pre (a,())/\ctNan.pre (b,())/\bc (decide (a<b)) (Q [.i (-1:Int)] []) (bc (decide (b<a)) (Q [.i 1] []) (Q [.i 0] []))):=by kernel_rfl
def qc9 (a b:LiT):List (Nat × LB):=[(2,.var [.i a.1,.i a.2.1,.i a.2.2.1,.i a.2.2.2]),(3,.var [.i b.1,.i b.2.1,.i b.2.2.1,.i b.2.2.2])]
theorem q7k (a b:LiT) (Q:QT) (R:RT):sA [(160,.inl ctCmp),(159,.inl ctOr)] Tryz.f148 Q R [.code (qae Tryz.f148)] (entry [liS,liS] (a,b,())) =
  (bc (decide (a.2.1=(0:Int))) (true=true/\bc (decide ((0:Int)<a.2.1)) (Q [.bool (decide (b.2.1=(0:Int)))] (qc9 a b)) (false=false/\Q [.bool false] (qc9 a b))) (bc (bif false then true else decide (b.2.1=(0:Int))) (bc (decide ((0:Int)<a.2.1)) (Q [.bool (decide (b.2.1=(0:Int)))] (qc9 a b)) (false=false/\Q [.bool false] (qc9 a b))) (bc (!decide ([a.2.2.1,a.2.2.2]=[b.2.2.1,b.2.2.2])) (ctCmp.pre (a.2.2.1,b.2.2.1,())/\ctCmp.pre (a.2.2.2,b.2.2.2,())/\0+2<=(((List.replicate (2:Nat) iI.dflt).set (0:Nat) (cmF a.2.2.1 b.2.2.1)).set (1:Nat) (cmF a.2.2.2 b.2.2.2)).length/\ctOr.pre (winL iI 0 2 (((List.replicate (2:Nat) iI.dflt).set (0:Nat) (cmF a.2.2.1 b.2.2.1)).set (1:Nat) (cmF a.2.2.2 b.2.2.2)),())/\Q [.bool (decide (orF (winL iI 0 2 (((List.replicate (2:Nat) iI.dflt).set (0:Nat) (cmF a.2.2.1 b.2.2.1)).set (1:Nat) (cmF a.2.2.2 b.2.2.2)))<0))] [(2,.var [.i a.1,.i a.2.1,.i a.2.2.1,.i a.2.2.2]),(3,.var [.i b.1,.i b.2.1,.i b.2.2.1,.i b.2.2.2]),(42,.row 3 iI (((List.replicate (2:Nat) iI.dflt).set (0:Nat) (cmF a.2.2.1 b.2.2.1)).set (1:Nat) (cmF a.2.2.2 b.2.2.2)))]) (bc (decide (a.1≠b.1)) (Q [.bool (decide (a.1<b.1))] (qc9 a b)) (Q [.bool (decide (b.2.1<a.2.1))] (qc9 a b)))))):=by kernel_rfl
theorem q6f (a b:Int) (R:List Item->PS->Prop):sA CNan Tryz.f160 (QC ctCmp (a,b,())) R [.code (qae Tryz.f160)] (entry [iI,iI] (a,b,())):=by
 refine (q7t a b _ _).mpr ⟨trivial,trivial,?_⟩;have out:∀ n,cmF a b=n->ctCmp.out (a,b,())=[SV.i n]:=λ b e=>congrArg (λ b=>[SV.i b]) e
 refine qag (λ h=>?_) (λ h=>qag (λ h2=>?_) (λ h2=>?_))
 ·exact QC.flat (out _ (by unfold cmF;rw[if_pos (of_decide_eq_true h)])) rfl rfl
 ·exact QC.flat (out _ (by unfold cmF;rw[if_neg (of_decide_eq_false h),if_pos (of_decide_eq_true h2)])) rfl rfl
 ·exact QC.flat (out _ (by unfold cmF;rw[if_neg (of_decide_eq_false h),if_neg (of_decide_eq_false h2)])) rfl rfl
theorem q0w:Held Tryz.prog G0 160 ctCmp:=Held.run cxNan (fn:=Tryz.f160) rfl rfl ⟨by decide,by decide⟩ λ ⟨a,b,_⟩ _=>q6f a b _
def ctBet:Ctr:=⟨[liS,liS],λ _=>True,λ x=>[.bool (betB x.1 x.2.1)],λ _=>[]⟩
theorem q85:CxOK Tryz.prog tt G0 [(160,.inl ctCmp),(159,.inl ctOr)]:=(cx0.k q42 (fn:=Tryz.f159)).k q0w (fn:=Tryz.f160)
theorem q5w (k n c o k' n' c' o':Int) (R:List Item->PS->Prop):sA [(160,.inl ctCmp),(159,.inl ctOr)] Tryz.f148 (QC ctBet ((k,n,c,o),(k',n',c',o'),())) R [.code (qae Tryz.f148)] (entry [liS,liS] ((k,n,c,o),(k',n',c',o'),())):=by
 refine (q7k (k,n,c,o) (k',n',c',o') _ _).mpr ?_;have out:∀ b,betB (k,n,c,o) (k',n',c',o')=b->ctBet.out ((k,n,c,o),(k',n',c',o'),())=[SV.bool b]:=λ b e=>congrArg (λ b=>[SV.bool b]) e
 refine qag (λ h=>⟨rfl,?_⟩) (λ h=>qag (λ h2=>?_) (λ h2=>?_))
 ·have h:n=0:=of_decide_eq_true h;refine qag (λ h2=>?_) (λ h2=>⟨rfl,?_⟩)
  ·have h2:0<n:=of_decide_eq_true h2;exact QC.flat (out _ (by unfold betB;rw[if_pos (.inl h)];simp[h2])) rfl rfl
  ·have h2:¬ 0<n:=of_decide_eq_false h2;exact QC.flat (out _ (by unfold betB;rw[if_pos (.inl h)];simp[h2])) rfl rfl
 ·have h2:decide (n'=0)=true:=h2;have h2:n'=0:=of_decide_eq_true h2;refine qag (λ h3=>?_) (λ h3=>⟨rfl,?_⟩)
  ·have h3:0<n:=of_decide_eq_true h3;exact QC.flat (out _ (by unfold betB;rw[if_pos (.inr h2)];simp[h3])) rfl rfl
  ·have h3:¬ 0<n:=of_decide_eq_false h3;exact QC.flat (out _ (by unfold betB;rw[if_pos (.inr h2)];simp[h3])) rfl rfl
 ·have h:¬ n=0:=of_decide_eq_false h;have h2:decide (n'=0)=false:=h2;have h2:¬ n'=0:=of_decide_eq_false h2;have hz:¬ (n=0\/n'=0):=by omega
  refine qag (λ h3=>⟨trivial,trivial,Nat.le_refl 2,(show (2:Nat)<1000000 by decide),?_⟩) (λ h3=>qag (λ h4=>?_) (λ h4=>?_))
  ·have h3:¬ (c=c'/\o=o'):=by
    intro e;rw[e.1,e.2] at h3;simp at h3
   have ev:orF (winL iI 0 2 (((List.replicate 2 iI.dflt).set 0 (cmF c c')).set 1 (cmF o o')))=orF [cmF c c',cmF o o']:=rfl;refine QC.flat (out _ ?_) rfl rfl
   show betB (k,n,c,o) (k',n',c',o')=decide (orF (winL iI 0 2 (((List.replicate 2 iI.dflt).set 0 (cmF c c')).set 1 (cmF o o')))<0)
   rw[ev];unfold betB;simp only[if_neg hz];by_cases hc:c=c'
   ·have ho:o≠o':=λ e=>h3 ⟨hc,e⟩
    rw[if_neg (by simpa using hc),if_pos ho];refine decide_eq_decide.2 ?_;have e1:cmF c c'=0:=by unfold cmF;rw[if_neg (by omega),if_neg (by omega)]
    rw[orF,if_neg (by simpa using e1)];unfold cmF;simp only[orF];split
    ·simp;omega
    ·split
     ·simp;omega
     ·omega
   ·rw[if_pos hc];refine decide_eq_decide.2 ?_;unfold cmF;simp only[orF];split
    ·simp;omega
    ·split
     ·simp;omega
     ·omega
  ·have h3:c=c'/\o=o':=by simpa using h3
   have h4:k≠k':=of_decide_eq_true h4;exact QC.flat (out _ (by unfold betB;simp only[if_neg hz];rw[if_neg (by simpa using h3.1),if_neg (by simpa using h3.2),if_pos h4])) rfl rfl
  ·have h3:c=c'/\o=o':=by simpa using h3
   have h4:¬ k≠k':=of_decide_eq_false h4;exact QC.flat (out _ (by unfold betB;simp only[if_neg hz];rw[if_neg (by simpa using h3.1),if_neg (by simpa using h3.2),if_neg h4])) rfl rfl
theorem qrz:Held Tryz.prog G0 148 ctBet:=Held.run q85 (fn:=Tryz.f148) rfl rfl ⟨by decide,by decide⟩ λ ⟨⟨k,n,c,o⟩,⟨k',n',c',o'⟩,_⟩ _=>q5w k n c o k' n' c' o' _
def mdK (k:Int) (l:List SyT):OpT:=(k,(gtY l 0).2.1,(l.length:Int),if k=3 then (gtY l 0).2.2 else 0,if k=2\/k=4 then l.map λ s=>s.2.2 else [])
def isK (k:Int) (l:List SyT) (n:Nat):Prop:=∀ j,j<n->canB k (gtY l j)=true/\(k=1\/k=2->(gtY l j).2.1=(gtY l 0).2.1+j)/\(k=3->(gtY l j).2.2=(gtY l 0).2.2)
theorem qhy {k:Int} {s:SyT} (hk:k=1\/k=2) (h:canB k s=true):s.1=true:=by
 unfold canB at h;rcases hk with e | e
 ·subst e;rw[if_pos rfl] at h;simp at h;exact h.1
 ·subst e;rw[if_neg (by decide),if_pos rfl] at h;exact h
theorem q8x (s:SyT) (r:List SyT) (j:Nat):gtY (s::r) (j+1)=gtY r j:=by
 simp[gt]
theorem q5z (s:SyT) (r:List SyT):gtY (s::r) 0=s:=by
 simp[gt]
section
variable {m:Int} (hm:m<16777216)
include hm
theorem q2r {k:Int}:∀ {l:List SyT},(∀ s∈l,sOK m s=true)->isK k l (fitN k l)
 | [],_=>λ j h=>by rw[fitN] at h;omega
 | s::r,hr=>by
  have ih:=q2r (k:=k) (l:=r) λ x hx=>hr x (by simp[hx])
  have hs:=hr s (by simp);intro j hj;rw[fitN] at hj;by_cases hc:canB k s=true
  ·rw[if_pos hc] at hj;rcases j with _ | j
   ·rw[q5z];exact ⟨hc,λ _=>by simp,λ _=>rfl⟩
   ·rw[q8x,q5z];by_cases hg:goK k s (gtY r 0)=true
    ·rw[if_pos hg] at hj;obtain ⟨h1,h2,h3⟩:=ih j (by omega);refine ⟨h1,λ hk=>?_,λ hk=>?_⟩
     ·have b:=qvb hs (qhy hk hc);unfold goK at hg;rw[if_pos hk,decide_eq_true_eq,IntWalk.i64_in _ (by omega)] at hg;rw[h2 hk,hg];omega
     ·unfold goK at hg;rw[if_neg (by omega),if_pos hk,decide_eq_true_eq] at hg;rw[h3 hk,hg]
    ·rw[if_neg hg] at hj;omega
  ·rw[if_neg hc] at hj;omega
theorem q5m {k:Int} {l:List SyT} (hk:kOK k) (hr:∀ s∈l,sOK m s=true) (hi:isK k l l.length):qba k.toNat (mdK k l)=l:=by
 have key:∀ (el:Nat->SyT),(∀ j,j<l.length->el j=gtY l j)->gen el l.length 0=l:=λ el h=>by
  refine List.ext_getElem? λ j=>?_
  by_cases hj:j<l.length
  ·rw[qxb _ _ _ _ (by omega),Nat.zero_add,h j hj,List.getElem?_eq_getElem (by omega),<- qi2 (by omega)]
  ·rw[List.getElem?_eq_none (by rw[qng];omega),List.getElem?_eq_none (by omega)]
 have dat:∀ j,j<l.length->gtB (l.map λ s=>s.2.2) j=(gtY l j).2.2:=λ j hj=>by
  rw[qox (by rw[List.length_map];omega),List.getElem_map,<- qi2 (by omega)]
 have ext3:∀ (s:SyT) (x:Bool) (y z:Int),s.1=x->s.2.1=y->s.2.2=z->(x,y,z)=s:=λ s x y z h1 h2 h3=>by subst h1;subst h2;subst h3;rfl
 have ok:∀ j,j<l.length->sOK m (gtY l j)=true:=λ j hj=>by rw[qi2 hj];exact hr _ (List.getElem_mem hj)
 have at':k=1\/k=2->∀ j,j<l.length->(gtY l j).1=true/\IntKind.i64.wrap ((gtY l 0).2.1+(j:Int))=(gtY l j).2.1:=λ hk j hj=>by
  have h:=hi j hj;have o:=qhy hk h.1;have b:=qvb (ok j hj) o;have e:=h.2.1 hk;have h0:=hi 0 (by omega);have b0:=qvb (ok 0 (by omega)) (qhy hk h0.1);exact ⟨o,by rw[IntWalk.i64_in _ (by omega),e]⟩
 have lit:¬ (k=1\/k=2)->∀ j,j<l.length->(gtY l j).1=false/\(gtY l j).2.1=0:=λ hk j hj=>by
  have h:=(hi j hj).1;unfold canB at h;rw[if_neg (by omega),if_neg (by omega)] at h;have o:(gtY l j).1=false:=by simpa using h
  exact ⟨o,q8f (ok j hj) o⟩
 rcases (show k=1\/k=2\/k=3\/k=4 by unfold kOK at hk;omega) with e | e | e | e
 ·subst e;have c:cntO 1 (mdK 1 l)=l.length:=by show ((l.length:Int)).toNat=_;omega
  show gen _ (cntO 1 _) 0=_
  rw[c];refine key _ λ j hj=>?_
  obtain ⟨o,w⟩:=at' (.inl rfl) j hj;have h:=(hi j hj).1;unfold canB at h;rw[if_pos rfl] at h;simp at h;exact ext3 _ _ _ _ o w.symm h.2
 ·subst e;have c:cntO 2 (mdK 2 l)=l.length:=by show (l.map λ s=>s.2.2).length=_;rw[List.length_map]
  show gen _ (cntO 2 _) 0=_
  rw[c];refine key _ λ j hj=>?_
  obtain ⟨o,w⟩:=at' (.inr rfl) j hj;exact ext3 _ _ _ _ o w.symm (dat j hj).symm
 ·subst e;have c:cntO 3 (mdK 3 l)=l.length:=by show ((l.length:Int)).toNat=_;omega
  show gen _ (cntO 3 _) 0=_
  rw[c];refine key _ λ j hj=>?_
  obtain ⟨o,w⟩:=lit (by decide) j hj;exact ext3 _ _ _ _ o w ((hi j hj).2.2 rfl)
 ·subst e;have c:cntO 4 (mdK 4 l)=l.length:=by show (l.map λ s=>s.2.2).length=_;rw[List.length_map]
  show gen _ (cntO 4 _) 0=_
  rw[c];refine key _ λ j hj=>?_
  obtain ⟨o,w⟩:=lit (by decide) j hj;exact ext3 _ _ _ _ o w (dat j hj).symm
theorem qwm {k:Int} {l:List SyT} (hk:kOK k) (hr:∀ s∈l,sOK m s=true) (hi:isK k l l.length) (h1:1<=l.length) (hl:l.length<=65536):isRB (mdK k l) m=true:=by
 have ok:∀ j,j<l.length->sOK m (gtY l j)=true:=λ j hj=>by rw[qi2 hj];exact hr _ (List.getElem_mem hj)
 have part:k=1\/k=2->qcv (gtY l 0).2.1 l.length m=true:=λ hk=>by
  have h0:=hi 0 (by omega);have b0:=qvb (ok 0 (by omega)) (qhy hk h0.1);have h9:=hi (l.length-1) (by omega);have b9:=qvb (ok (l.length-1) (by omega)) (qhy hk h9.1);have e:=h9.2.1 hk;have w:IntKind.i64.wrap (m-(l.length:Int))=m-l.length:=IntWalk.i64_in _ (by omega);unfold qcv;rw[w];simp only[Bool.and_eq_true,decide_eq_true_eq];omega
 have lens:decide (1<=(mdK k l).2.2.1)=true/\decide ((mdK k l).2.2.1<=65536)=true:=by
  show decide (1<=(l.length:Int))=true/\decide ((l.length:Int)<=65536)=true
  simp only[decide_eq_true_eq];omega
 have lit:¬ (k=1\/k=2)->(gtY l 0).2.1=0:=λ hk=>by
  have h:=(hi 0 (by omega)).1;unfold canB at h;rw[if_neg (by omega),if_neg (by omega)] at h;have o:(gtY l 0).1=false:=by simpa using h
  exact q8f (ok 0 (by omega)) o
 unfold isRB;rw[lens.1,lens.2];unfold mdK kR;rcases (show k=1\/k=2\/k=3\/k=4 by unfold kOK at hk;omega) with e | e | e | e
 ·subst e;simp[rB,part (.inl rfl)]
 ·subst e;simp[rB,part (.inr rfl)]
 ·subst e;simp[rB,lit (by decide)]
 ·subst e;simp[rB,lit (by decide)]
end
theorem qz2 {k:Int} {l:List SyT} (hk:kOK k) (hl:l.length<=65536):cN k.toNat (mdK k l)=hdC k+eaC k*(l.length:Int):=by
 rcases (show k=1\/k=2\/k=3\/k=4 by unfold kOK at hk;omega) with e | e | e | e
 ·subst e;show (4:Int)=hdC 1+eaC 1*_;simp[hdC,eaC]
 ·subst e
  show IntKind.i64.wrap (4+(l.length:Int))=_
  rw[IntWalk.i64_in _ (by omega)];simp[hdC,eaC]
 ·subst e;show (4:Int)=hdC 3+eaC 3*_;simp[hdC,eaC]
 ·subst e
  show IntKind.i64.wrap (2+(l.length:Int))=_
  rw[IntWalk.i64_in _ (by omega)];simp[hdC,eaC]
def cst (l:List SyT):Int:=(bst l).2.2.1
def oct (l:List SyT):Int:=(bst l).2.2.2
theorem eaN (k:Int) (n:Nat):0<=eaC k*(n:Int)/\eaC k*(n:Int)<=n:=by
 unfold eaC;split
 ·omega
 ·omega
theorem q24 {l:List SyT} (hl:l.length<=65536) (h0:l≠[]):kOK (bst l).1/\∃ n:Nat,(bst l).2.1=(n:Int)/\1<=n/\n<=fitN (bst l).1 l/\(∀ k,kOK k->∀ m:Nat,1<=m->m<=fitN k l->keyL (bst l).1 n l<=keyL k m l)/\ cst l=hdC (bst l).1+eaC (bst l).1*(n:Int)+cst (l.drop n)/\oct l=1+oct (l.drop n):=by
 rcases (qrq l hl).2 with ⟨h,_⟩ | ⟨_,hk,n,h1,h2,h3,h4,h5,h6⟩
 ·exact absurd h h0
 refine ⟨hk,n,h1,h2,h3,h5,?_⟩;have hd:(l.drop n).length<=65536:=by rw[List.length_drop];omega
 have hb:=qsg (l.drop n) hd;have hf:=qfo (bst l).1 l;unfold keyT keyL wB at h4;unfold boL at hb h6;unfold cst oct;have e1:=eaN (bst l).1 n;generalize eaC (bst l).1*(n:Int)=e at *;generalize (bst (l.drop n))=b at *;rw[List.length_drop] at hb;omega
def chF:Nat->List SyT->List OpT
 | 0,_=>[]
 | f+1,l=>if l=[] then [] else mdK (bst l).1 (l.take (bst l).2.1.toNat)::chF f (l.drop (bst l).2.1.toNat)
def chL (l:List SyT):List OpT:=chF l.length l
theorem q0b {k:Int} {l:List SyT} {n q:Nat} (hq:n<=q) (h:isK k l q):isK k (l.take n) n:=λ j hj=>by
 have e:∀ j,j<n->gtY (l.take n) j=gtY l j:=λ j hj=>by simp[gt,hj]
 rw[e j hj,e 0 (by omega)];exact h j (by omega)
theorem ch_ok {m:Int} (hm:m<16777216):∀ (f:Nat) (l:List SyT),l.length<=f->l.length<=65536->(∀ s∈l,sOK m s=true) ->
  symF (chF f l)=l/\(∀ x∈chF f l,isRB x m=true)/\qqm (chF f l)=cst l/\((chF f l).length:Int)=oct l:=by
 intro f
 induction f with
 | zero=>
  intro l hf hl hr;have e:l=[]:=List.eq_nil_of_length_eq_zero (by omega);subst e;exact ⟨rfl,(λ x hx=>by cases hx),rfl,rfl⟩
 | succ f ih=>
  intro l hf hl hr;by_cases h0:l=[]
  ·subst h0;exact ⟨rfl,(λ x hx=>by cases hx),rfl,rfl⟩
  ·obtain ⟨hb,q,q1,q2,q3,q4,q5,q6⟩:=q24 hl h0;have hq:=qfo (bst l).1 l;have e:chF (f+1) l=mdK (bst l).1 (l.take q)::chF f (l.drop q):=by rw[chF,if_neg h0,q1,Int.toNat_natCast]
   rw[e];have tl:(l.take q).length=q:=by rw[List.length_take];omega
   have dl:(l.drop q).length=l.length-q:=List.length_drop ..;obtain ⟨i1,i2,i3,i4⟩:=ih (l.drop q) (by omega) (by omega) λ s hs=>hr s (List.mem_of_mem_drop hs)
   have tr:∀ s∈l.take q,sOK m s=true:=λ s hs=>hr s (List.mem_of_mem_take hs)
   have ti:isK (bst l).1 (l.take q) (l.take q).length:=by rw[tl];exact q0b q3 (q2r hm hr)
   refine ⟨?_,λ x hx=>?_,?_,?_⟩
   ·rw[symF,i1]
    show qba (bst l).1.toNat _++_=_
    rw[q5m hm hb tr ti,List.take_append_drop]
   ·rcases List.mem_cons.1 hx with h | h
    ·subst h;exact qwm hm hb tr ti (by omega) (by omega)
    ·exact i2 x h
   ·rw[qqm,i3]
    show cN (bst l).1.toNat _+_=_
    rw[qz2 hb (by omega),q5,tl]
   ·rw[List.length_cons,q6];omega
def CBe:CV:=[(157,.inl ctCan),(158,.inl ctGoe),(148,.inl ctBet)]
theorem cxBe:CxOK Tryz.prog tt G0 CBe:=((cx0.k qrz (fn:=Tryz.f148)).k q0l (fn:=Tryz.f158)).k q03 (fn:=Tryz.f157)
def q4w (k:Int) (l:List SyT) (g:LiT):Prop:=kOK k/\1<=l.length/\(g.2.1=0\/2<=l.length)
def begL (k:Int) (l:List SyT) (w:Int × Int) (g:LiT):LiT:=begF k (gtY l 0) (gtY l 1) w g
def boB (w:Int × Int) (g:LiT):Prop:=(0<=w.1/\w.1<16777216/\0<=w.2/\w.2<16777216)/\0<=g.2.1/\g.2.1<16777216/\0<=g.2.2.1/\g.2.2.1<16777216
def ctBg:Ctr:=⟨[iI,.sl syS,suS,liS],λ x=>q4w x.1 x.2.1 x.2.2.2.1/\boB x.2.2.1 x.2.2.2.1,λ x=>[.agg [.i (begL x.1 x.2.1 x.2.2.1 x.2.2.2.1).1,.i (begL x.1 x.2.1 x.2.2.1 x.2.2.2.1).2.1,.i (begL x.1 x.2.1 x.2.2.1 x.2.2.2.1).2.2.1,.i (begL x.1 x.2.1 x.2.2.1 x.2.2.2.1).2.2.2]],λ _=>[]⟩
def qpz (k:Int) (l:List SyT):Prop:=kOK k/\1<=l.length/\l.length<16777216
def ctMk:Ctr:=⟨[iI,.sl syS],λ x=>qpz x.1 x.2.1,λ x=>mdV (mdK x.1 x.2.1),λ _=>[]⟩
set_option maxRecDepth 100000
def ql6 (k:Int) (w:Int × Int) (g:LiT):List (Nat × LB):=[(6,.var [.i w.1,.i w.2]),(7,.var [.i g.1,.i g.2.1,.i g.2.2.1,.i g.2.2.2]),(8,.var [.i k,.i 1,.i (i64.wrap (i64.wrap (w.1+(gt (iI.pair iI) costsL k.toNat).1)+(gt (iI.pair iI) costsL k.toNat).2)),.i (i64.wrap (w.2+(1:Int)))]),(9,.var [.i (gt (iI.pair iI) costsL k.toNat).1,.i (gt (iI.pair iI) costsL k.toNat).2]),(10,.var [.i k,.i 1,.i (i64.wrap (i64.wrap (w.1+(gt (iI.pair iI) costsL k.toNat).1)+(gt (iI.pair iI) costsL k.toNat).2)),.i (i64.wrap (w.2+(1:Int)))])]
theorem q7z (k:Int) (l:List SyT) (w:Int × Int) (g:LiT) (Q:QT) (R:RT):sA CBe Tryz.f147 Q R [.code (qae Tryz.f147)] (entry [iI,.sl syS,suS,liS] (k,l,w,g,())) =
  ((0:Int)<=0/\(0:Int)<(l.length:Int)/\ctCan.pre (k,(gtY l (0)),())/\bc (!canB k (gtY l (0))) (Q [.agg [.i 0,.i 0,.i 0,.i 0]] [(6,.var [.i w.1,.i w.2]),(7,.var [.i g.1,.i g.2.1,.i g.2.2.1,.i g.2.2.2]),(8,.var [.i 0,.i 0,.i 0,.i 0])]) ((0:Int)<=k/\k<(↑(5:Nat):Int)/\bc (decide (g.2.1=(0:Int))) (true=true/\Q [.agg [.i k,.i 1,.i (i64.wrap (i64.wrap (w.1+(gt (iI.pair iI) costsL k.toNat).1)+(gt (iI.pair iI) costsL k.toNat).2)),.i (i64.wrap (w.2+1))]] (ql6 k w g)) ((0:Int)<=0/\(0:Int)<(l.length:Int)/\(0:Int)<=1/\(1:Int)<(l.length:Int)/\ctGoe.pre (k,(gtY l (0)),(gtY l (1)),())/\bc (bif false then true else !goK k (gtY l (0)) (gtY l (1))) (Q [.agg [.i k,.i 1,.i (i64.wrap (i64.wrap (w.1+(gt (iI.pair iI) costsL k.toNat).1)+(gt (iI.pair iI) costsL k.toNat).2)),.i (i64.wrap (w.2+1))]] (ql6 k w g)) (ctBet.pre ((k,(1:Int),i64.wrap (i64.wrap (w.1+(gt (iI.pair iI) costsL k.toNat).1)+(gt (iI.pair iI) costsL k.toNat).2),i64.wrap (w.2+1)),(k,i64.wrap (g.2.1+1),i64.wrap (g.2.2.1+(gt (iI.pair iI) costsL k.toNat).2),g.2.2.2),())/\bc (betB (k,(1:Int),i64.wrap (i64.wrap (w.1+(gt (iI.pair iI) costsL k.toNat).1)+(gt (iI.pair iI) costsL k.toNat).2),i64.wrap (w.2+1)) (k,i64.wrap (g.2.1+1),i64.wrap (g.2.2.1+(gt (iI.pair iI) costsL k.toNat).2),g.2.2.2)) (Q [.agg [.i k,.i 1,.i (i64.wrap (i64.wrap (w.1+(gt (iI.pair iI) costsL k.toNat).1)+(gt (iI.pair iI) costsL k.toNat).2)),.i (i64.wrap (w.2+1))]] [(6,.var [.i w.1,.i w.2]),(7,.var [.i g.1,.i g.2.1,.i g.2.2.1,.i g.2.2.2]),(8,.var [.i k,.i 1,.i (i64.wrap (i64.wrap (w.1+(gt (iI.pair iI) costsL k.toNat).1)+(gt (iI.pair iI) costsL k.toNat).2)),.i (i64.wrap (w.2+1))]),(9,.var [.i (gt (iI.pair iI) costsL k.toNat).1,.i (gt (iI.pair iI) costsL k.toNat).2]),(10,.var [.i k,.i 1,.i (i64.wrap (i64.wrap (w.1+(gt (iI.pair iI) costsL k.toNat).1)+(gt (iI.pair iI) costsL k.toNat).2)),.i (i64.wrap (w.2+1))]),(11,.var [.i k,.i (i64.wrap (g.2.1+1)),.i (i64.wrap (g.2.2.1+(gt (iI.pair iI) costsL k.toNat).2)),.i g.2.2.2])]) (Q [.agg [.i k,.i (i64.wrap (g.2.1+1)),.i (i64.wrap (g.2.2.1+(gt (iI.pair iI) costsL k.toNat).2)),.i g.2.2.2]] [(6,.var [.i w.1,.i w.2]),(7,.var [.i g.1,.i g.2.1,.i g.2.2.1,.i g.2.2.2]),(8,.var [.i k,.i (i64.wrap (g.2.1+1)),.i (i64.wrap (g.2.2.1+(gt (iI.pair iI) costsL k.toNat).2)),.i g.2.2.2]),(9,.var [.i (gt (iI.pair iI) costsL k.toNat).1,.i (gt (iI.pair iI) costsL k.toNat).2]),(10,.var [.i k,.i 1,.i (i64.wrap (i64.wrap (w.1+(gt (iI.pair iI) costsL k.toNat).1)+(gt (iI.pair iI) costsL k.toNat).2)),.i (i64.wrap (w.2+1))]),(11,.var [.i k,.i (i64.wrap (g.2.1+1)),.i (i64.wrap (g.2.2.1+(gt (iI.pair iI) costsL k.toNat).2)),.i g.2.2.2])]))))):=by kernel_rfl
def qon (k:Int) (l:List SyT):List (Nat × LB):=[(4,.var [.i k,.i (gtY l (0)).2.1,.i (l.length:Int),.u 0,.nils]),(5,.var [.i k,.i (gtY l (0)).2.1,.i (l.length:Int),.u 0,.nils])]
theorem q3l (k:Int) (l:List SyT) (Q:QT) (R:RT):sA [] Tryz.f129 Q (λ it S=>R it (qbt [4,5,31,32,33] [4,5,29] S)) [.code (qae Tryz.f129)] (entry [iI,.sl syS] (k,l,())) =
  ((0:Int)<=0/\(0:Int)<(l.length:Int)/\bc (decide (k=(3:Int))) ((0:Int)<=0/\(0:Int)<(l.length:Int)/\Q [.agg [.i k,.i (gtY l (0)).2.1,.i (l.length:Int),.u (gtY l (0)).2.2,.nils]] [(4,.var [.i k,.i (gtY l (0)).2.1,.i (l.length:Int),.u (gtY l (0)).2.2,.nils]),(5,.var [.i k,.i (gtY l (0)).2.1,.i (l.length:Int),.u (gtY l (0)).2.2,.nils])]) (bc (decide (k=(2:Int))) (bc (decide (k=(2:Int))) ((0:Int)<=(l.length:Int)/\(l.length:Int)<=(l.length:Int)/\(l.length:Int)<2 ^ 24/\(↑(1:Nat):Int)*(l.length:Int)<=2 ^ 48/\R (hd Tryz.f129 0) { env:=[(4,.ptr 4 0),(5,.ptr 5 0),(31,.sl syS l),(32,.i (l.length:Int)),(33,.i 0)],blk:=[(4,.var [.i 0,.i 0,.i 0,.u 0,.nils]),(5,.var [.i k,.i (gtY l (0)).2.1,.i (l.length:Int),.u 0,.win true uB 29 0 (l.length:Int).toNat]),(29,.row 5 uB (List.replicate (l.length:Int).toNat uB.dflt))] }) (Q [.agg [.i k,.i (gtY l (0)).2.1,.i (l.length:Int),.u 0,.nils]] (qon k l))) (bc (decide (k=(4:Int))) ((0:Int)<=(l.length:Int)/\(l.length:Int)<=(l.length:Int)/\(l.length:Int)<2 ^ 24/\(↑(1:Nat):Int)*(l.length:Int)<=2 ^ 48/\R (hd Tryz.f129 0) { env:=[(4,.ptr 4 0),(5,.ptr 5 0),(31,.sl syS l),(32,.i (l.length:Int)),(33,.i 0)],blk:=[(4,.var [.i 0,.i 0,.i 0,.u 0,.nils]),(5,.var [.i k,.i (gtY l (0)).2.1,.i (l.length:Int),.u 0,.win true uB 29 0 (l.length:Int).toNat]),(29,.row 5 uB (List.replicate (l.length:Int).toNat uB.dflt))] }) (Q [.agg [.i k,.i (gtY l (0)).2.1,.i (l.length:Int),.u 0,.nils]] (qon k l))))):=by kernel_rfl
theorem qq1 (k a:Int) (b:List Int) (l:List SyT) (i:Nat) (Q:QT) (R:RT):sA [] Tryz.f129 Q (λ it S=>R it (qbt [4,5,31,32,33] [4,5,29] S)) (hd Tryz.f129 0) ⟨[(4,.ptr 4 0),(5,.ptr 5 0),(31,.sl syS l),(32,.i l.length),(33,.i (i:Nat))],[(4,.var [.i 0,.i 0,.i 0,.u 0,.nils]),(5,.var [.i k,.i a,.i l.length,.u 0,.win true uB 29 0 b.length]),(29,.row 5 uB b)]⟩ =
  (bc (decide ((i:Int)<(l.length:Int))) ((0:Int)<=(i:Int)/\(i:Int)<(l.length:Int)/\(0:Int)<=(i:Int)/\(i:Int)<(b.length:Int)/\0+(i:Int).toNat<b.length/\R (hd Tryz.f129 0) { env:=[(4,.ptr 4 0),(5,.ptr 5 0),(31,.sl syS l),(32,.i (l.length:Int)),(33,.i (IntKind.i64.wrap ((i:Int)+1)))],blk:=[(4,.var [.i 0,.i 0,.i 0,.u 0,.nils]),(5,.var [.i k,.i a,.i (l.length:Int),.u 0,.win true uB 29 0 b.length]),(29,.row 5 uB (b.set (0+(i:Int).toNat) (gtY l (i:Int).toNat).2.2))] }) (Q [.agg [.i k,.i a,.i (l.length:Int),.u 0,.win true uB 29 0 b.length]] [(4,.var [.i k,.i a,.i (l.length:Int),.u 0,.win true uB 29 0 b.length]),(5,.var [.i k,.i a,.i (l.length:Int),.u 0,.win true uB 29 0 b.length]),(29,.row 5 uB b)])):=by kernel_rfl
theorem q7h (k a:Int) (d:List Int) (l:List SyT) (i:Nat) (Q:QT) (R:RT):sA [] Tryz.f129 Q (λ it S=>R it (qbt [4,5,31,32,33] [4,5,29] S)) (hd Tryz.f129 0) ⟨[(4,.ptr 4 0),(5,.ptr 5 0),(31,.sl syS l),(32,.i l.length),(33,.i (i:Nat))],[(4,.var [.i 0,.i 0,.i 0,.u 0,.nils]),(5,.var [.i k,.i a,.i l.length,.u 0,.sl uB d])]⟩ =
  (bc (decide ((i:Int)<(l.length:Int))) ((0:Int)<=(i:Int)/\(i:Int)<(l.length:Int)/\(0:Int)<=(i:Int)/\(i:Int)<(d.length:Int)/\False) (Q [.agg [.i k,.i a,.i (l.length:Int),.u 0,.sl uB d]] [(4,.var [.i k,.i a,.i (l.length:Int),.u 0,.sl uB d]),(5,.var [.i k,.i a,.i (l.length:Int),.u 0,.sl uB d])])):=by kernel_rfl
theorem q6e {k:Int} (hk:kOK k):gt (iI.pair iI) costsL k.toNat=(hdC k,eaC k):=by
 rcases (show k=1\/k=2\/k=3\/k=4 by unfold kOK at hk;omega) with e | e | e | e <;> subst e <;> rfl
theorem q6u (k:Int) (l:List SyT) (c o gk gn gc go:Int) (hp:q4w k l (gk,gn,gc,go)) (hb:boB (c,o) (gk,gn,gc,go)) (R:List Item->PS->Prop):sA CBe Tryz.f147 (QC ctBg (k,l,(c,o),(gk,gn,gc,go),())) R [.code (qae Tryz.f147)] (entry [iI,.sl syS,suS,liS] (k,l,(c,o),(gk,gn,gc,go),())):=by
 refine (q7z k l (c,o) (gk,gn,gc,go) _ _).mpr ?_;have out:∀ a b d e,begL k l (c,o) (gk,gn,gc,go)=(a,b,d,e)->ctBg.out (k,l,(c,o),(gk,gn,gc,go),())=[SV.agg [.i a,.i b,.i d,.i e]]:=λ a b d e q=>congrArg (λ x:LiT=>[SV.agg [.i x.1,.i x.2.1,.i x.2.2.1,.i x.2.2.2]]) q
 obtain ⟨hk,h1,h2⟩:=hp;obtain ⟨⟨b1,b2,b3,b4⟩,b5,b6,b7,b8⟩:=hb;simp only at b1 b2 b3 b4 b5 b6 b7 b8 h2;have hh:=q8w k;have he:=q84 k;have hk':0<=k/\k<5:=by unfold kOK at hk;omega
 rw[q6e hk];simp only;have w1:IntKind.i64.wrap (c+hdC k)=c+hdC k:=IntWalk.i64_in _ (by omega);have w2:IntKind.i64.wrap (c+hdC k+eaC k)=c+hdC k+eaC k:=IntWalk.i64_in _ (by omega);have w3:IntKind.i64.wrap (o+1)=o+1:=IntWalk.i64_in _ (by omega);have w4:IntKind.i64.wrap (gn+1)=gn+1:=IntWalk.i64_in _ (by omega);have w5:IntKind.i64.wrap (gc+eaC k)=gc+eaC k:=IntWalk.i64_in _ (by omega);rw[w1,w2,w3,w4,w5];refine ⟨by omega,by omega,trivial,qag (λ h=>?_) (λ h=>⟨hk'.1,hk'.2,qag (λ h3=>⟨by trivial,?_⟩) (λ h3=>⟨by omega,by omega,by omega,?_,trivial,qag (λ h4=>?_) (λ h4=>⟨trivial,qag (λ h5=>?_) (λ h5=>?_)⟩)⟩)⟩)⟩
 ·have h:canB k (gtY l 0)=false:=by simpa using h
  exact QC.flat (out _ _ _ _ (by unfold begL begF;rw[if_pos h];rfl)) rfl rfl
 ·have h:¬ canB k (gtY l 0)=false:=by
   have:(!canB k (gtY l 0))=false:=h;simpa using this
  have h3:gn=0:=of_decide_eq_true h3;exact QC.flat (out _ _ _ _ (by unfold begL begF;rw[if_neg h,if_pos (.inl h3)];rfl)) rfl rfl
 ·have h3:¬ gn=0:=of_decide_eq_false h3;omega
 ·have h:¬ canB k (gtY l 0)=false:=by
   have:(!canB k (gtY l 0))=false:=h;simpa using this
  have h4:(!goK k (gtY l 0) (gtY l 1))=true:=h4;have h4:goK k (gtY l 0) (gtY l 1)=false:=by simpa using h4
  exact QC.flat (out _ _ _ _ (by unfold begL begF;rw[if_neg h,if_pos (.inr h4)];rfl)) rfl rfl
 ·have h:¬ canB k (gtY l 0)=false:=by
   have:(!canB k (gtY l 0))=false:=h;simpa using this
  have h3:¬ gn=0:=of_decide_eq_false h3;have h4:(!goK k (gtY l 0) (gtY l 1))=false:=h4;have h4:goK k (gtY l 0) (gtY l 1)=true:=by simpa using h4
  have hz:¬ ((gk,gn,gc,go).2.1=0\/goK k (gtY l 0) (gtY l 1)=false):=by
   rw[h4];intro q;rcases q with q | q
   ·exact h3 q
   ·cases q
  have h5:betB (oneF k (c,o)) (qkk k (gk,gn,gc,go))=true:=h5;exact QC.flat (out _ _ _ _ (by unfold begL begF;rw[if_neg h,if_neg hz,if_pos h5];rfl)) rfl rfl
 ·have h:¬ canB k (gtY l 0)=false:=by
   have:(!canB k (gtY l 0))=false:=h;simpa using this
  have h3:¬ gn=0:=of_decide_eq_false h3;have h4:(!goK k (gtY l 0) (gtY l 1))=false:=h4;have h4:goK k (gtY l 0) (gtY l 1)=true:=by simpa using h4
  have hz:¬ ((gk,gn,gc,go).2.1=0\/goK k (gtY l 0) (gtY l 1)=false):=by
   rw[h4];intro q;rcases q with q | q
   ·exact h3 q
   ·cases q
  have h5:betB (oneF k (c,o)) (qkk k (gk,gn,gc,go))=false:=h5;exact QC.flat (out _ _ _ _ (by unfold begL begF;rw[if_neg h,if_neg hz,if_neg (by rw[h5];decide)];rfl)) rfl rfl
theorem q05:Held Tryz.prog G0 147 ctBg:=Held.run cxBe (fn:=Tryz.f147) rfl rfl ⟨by decide,by decide⟩ λ ⟨k,l,⟨c,o⟩,⟨gk,gn,gc,go⟩,_⟩ hp=>q6u k l c o gk gn gc go hp.1 hp.2 _
theorem qp6 (k a:Int) (l:List SyT) (hl:l.length<16777216):∀ (n i:Nat) (b:List Int),l.length-i=n->i<=l.length->b.length=l.length->(∀ j,j<i->b[j]?=(l.map λ s=>s.2.2)[j]?) ->
  GD 129 Tryz.f129 (λ rs _=>rs=[.agg [.i k,.i a,.i l.length,.u 0,.sl uB (l.map λ s=>s.2.2)]]) (hd Tryz.f129 0) ⟨[(4,.ptr 4 0),(5,.ptr 5 0),(31,.sl syS l),(32,.i l.length),(33,.i (i:Nat))],[(4,.var [.i 0,.i 0,.i 0,.u 0,.nils]),(5,.var [.i k,.i a,.i l.length,.u 0,.win true uB 29 0 b.length]),(29,.row 5 uB b)]⟩:=by
 intro n
 induction n with
 | zero=>
  intro i b hk hi hb hj;have hi:i=l.length:=by omega
  subst hi;have hbl:b=l.map λ s=>s.2.2:=by
   refine List.ext_getElem? λ j=>?_
   by_cases h:j<l.length
   ·exact hj j h
   ·rw[List.getElem?_eq_none (by omega),List.getElem?_eq_none (by rw[List.length_map];omega)]
  refine Good.frz (i:=29) (e:=uB) (et:=5) (xs:=b) rfl (λ c hc=>?_) ?_
  ·have hc:c∈[0+b.length<=b.length]:=hc;rw[List.mem_singleton] at hc;subst hc;omega
  ·have e:GD 129 Tryz.f129 (λ rs _=>rs=[.agg [.i k,.i a,.i l.length,.u 0,.sl uB (l.map λ s=>s.2.2)]]) (hd Tryz.f129 0) ⟨[(4,.ptr 4 0),(5,.ptr 5 0),(31,.sl syS l),(32,.i l.length),(33,.i (l.length:Nat))],[(4,.var [.i 0,.i 0,.i 0,.u 0,.nils]),(5,.var [.i k,.i a,.i l.length,.u 0,.sl uB (winL uB 0 b.length b)])]⟩:=by
    refine qat cx0 (q7h k a (winL uB 0 b.length b) l l.length _ _) ?_;rw[decide_eq_false (by omega),bc_f,winA,hbl]
   exact e.only ⟨rfl,rfl,rfl,rfl,rfl,trivial⟩ ⟨rfl,rfl,trivial⟩
 | succ n ih=>
  intro i b hk hi hb hj;have hil:i<l.length:=by omega
  refine qat cx0 (qq1 k a b l i _ _) ?_;rw[decide_eq_true (show (i:Int)<(l.length:Int) by omega),bc_t,Int.toNat_natCast,qi2 hil,IntWalk.i64_in ((i:Int)+1) (by omega),Nat.zero_add];refine ⟨by omega,by omega,by omega,by omega,by omega,?_⟩;refine (ih (i+1) (b.set i l[i].2.2) (by omega) (by omega) (by rw[List.length_set];exact hb) (λ j h=>?_)).only ⟨rfl,rfl,rfl,rfl,rfl,trivial⟩ ⟨rfl,?_,rfl,trivial⟩
  ·rw[List.getElem?_set];by_cases hji:i=j
   ·subst hji;rw[if_pos rfl,if_pos (by omega),List.getElem?_map,List.getElem?_eq_getElem hil];rfl
   ·rw[if_neg hji];exact hj j (by omega)
  ·rw[List.length_set];rfl
theorem qwk (k:Int) (l:List SyT) (hp:qpz k l):GD 129 Tryz.f129 (QC ctMk (k,l,())) [.code (qae Tryz.f129)] (entry [iI,.sl syS] (k,l,())):=by
 obtain ⟨hk,h0,h1⟩:=hp;have dat:k=2\/k=4->GD 129 Tryz.f129 (QC ctMk (k,l,())) (hd Tryz.f129 0) ⟨[(4,.ptr 4 0),(5,.ptr 5 0),(31,.sl syS l),(32,.i l.length),(33,.i ((0:Nat):Int))],[(4,.var [.i 0,.i 0,.i 0,.u 0,.nils]),(5,.var [.i k,.i (gtY l 0).2.1,.i l.length,.u 0,.win true uB 29 0 (List.replicate (l.length:Int).toNat (0:Int)).length]),(29,.row 5 uB (List.replicate (l.length:Int).toNat (0:Int)))]⟩:=λ hk2=>by
  refine (qp6 k (gtY l 0).2.1 l h1 _ 0 (List.replicate (l.length:Int).toNat 0) rfl (by omega) (by rw[List.length_replicate,Int.toNat_natCast]) (λ j h=>by omega)).post λ rs blk hq=>QC.flat ?_ rfl (by rw[hq];rfl)
  rw[hq]
  show mdV (mdK k l)=_
  unfold mdK;rw[if_neg (show ¬ k=3 by omega),if_pos hk2];rfl
 have room:(0:Int)<=(l.length:Int)/\(l.length:Int)<=(l.length:Int)/\(l.length:Int)<(2:Int) ^ (24:Nat)/\((1:Nat):Int)*(l.length:Int)<=(2:Int) ^ (48:Nat):=by
  refine ⟨by omega,by omega,?_,?_⟩
  ·show (l.length:Int)<16777216
   omega
  ·show (1:Int)*(l.length:Int)<=281474976710656
   omega
 refine qat cx0 (q3l k l _ _) ⟨by omega,by omega,qag (λ h=>⟨by omega,by omega,?_⟩) (λ h=>qag (λ h2=>?_) (λ h2=>qag (λ h3=>?_) (λ h3=>?_)))⟩
 ·have h:=of_decide_eq_true h;subst h;refine QC.mt ?_ rfl
  show MtL _ (mdV (mdK 3 l)) _
  exact ⟨_,_,rfl,⟨_,rfl,_,_,rfl,rfl,_,_,rfl,rfl,_,_,rfl,rfl,_,_,rfl,rfl,_,_,rfl,.inr ⟨rfl,rfl⟩,rfl⟩,rfl⟩
 ·have h2':=of_decide_eq_true h2;rw[h2,bc_t];refine ⟨room.1,room.2.1,room.2.2.1,room.2.2.2,(dat (.inl h2')).only ⟨rfl,rfl,rfl,rfl,rfl,trivial⟩ ⟨rfl,?_,rfl,trivial⟩⟩;rw[List.length_replicate];rfl
 ·have h3':=of_decide_eq_true h3;refine ⟨room.1,room.2.1,room.2.2.1,room.2.2.2,(dat (.inr h3')).only ⟨rfl,rfl,rfl,rfl,rfl,trivial⟩ ⟨rfl,?_,rfl,trivial⟩⟩;rw[List.length_replicate];rfl
 ·have h:=of_decide_eq_false h;have h2:=of_decide_eq_false h2;have h3:=of_decide_eq_false h3;unfold kOK at hk;have hk1:k=1:=by omega
  subst hk1;refine QC.mt ?_ rfl
  show MtL _ (mdV (mdK 1 l)) _
  exact ⟨_,_,rfl,⟨_,rfl,_,_,rfl,rfl,_,_,rfl,rfl,_,_,rfl,rfl,_,_,rfl,rfl,_,_,rfl,.inr ⟨rfl,rfl⟩,rfl⟩,rfl⟩
theorem qp7:Held Tryz.prog G0 129 ctMk:=Held.of cx0 (fn:=Tryz.f129) rfl rfl ⟨by decide,by decide⟩ λ ⟨k,l,_⟩ hp=>qwk k l hp
def CBs:CV:=[(147,.inl ctBg),(148,.inl ctBet)]
theorem cxBs:CxOK Tryz.prog tt G0 CBs:=(cx0.k qrz (fn:=Tryz.f148)).k q05 (fn:=Tryz.f147)
abbrev gtL (l:List LiT) (i:Nat):LiT:=gt liS l i
set_option maxRecDepth 100000
theorem vc_bs (l:List SyT) (Q:QT) (R:RT):sA CBs Tryz.f128 Q (λ it S=>R it (qbt [0,3,4,5,6] [4,10] S)) [.code (qae Tryz.f128)] (entry [.sl syS] (l,())) =
  ((0:Int)<=i64.wrap ((l.length:Int)+1)/\i64.wrap ((l.length:Int)+1)<=i64.wrap ((l.length:Int)+1)/\i64.wrap ((l.length:Int)+1)<2 ^ 24/\(↑(32:Nat):Int)*i64.wrap ((l.length:Int)+1)<=2 ^ 48/\R (hd Tryz.f128 0) { env:=[(0,.sl syS l),(3,.win true liS 10 0 (i64.wrap ((l.length:Int)+1)).toNat),(4,.ptr 4 0),(5,.i (i64.wrap ((l.length:Int)-1)))],blk:=[(4,.var [.arr (5:Nat) liS (Sh.arr (5:Nat) liS).dflt]),(10,.row 189 liS (List.replicate (i64.wrap ((l.length:Int)+1)).toNat liS.dflt))] }):=by kernel_rfl
theorem q15 (l:List SyT) (b bg:List LiT) (i:Int) (Q:QT) (R:RT):sA CBs Tryz.f128 Q (λ it S=>R it (qbt [0,3,4,5,6] [4,10] S)) (hd Tryz.f128 0) ⟨[(0,.sl syS l),(3,.win true liS 10 0 b.length),(4,.ptr 4 0),(5,.i i)],[(4,.var [.arr 5 liS bg]),(10,.row 189 liS b)]⟩ =
  (bc (decide ((0:Int)<=i)) (R (hd Tryz.f128 1) { env:=[(0,.sl syS l),(3,.win true liS 10 0 b.length),(4,.ptr 4 0),(5,.i i),(6,.i 1)],blk:=[(4,.var [.arr (5:Nat) liS bg]),(10,.row 189 liS b)] }) (Q [.win true liS 10 0 b.length] [(4,.var [.arr (5:Nat) liS bg]),(10,.row 189 liS b)])):=by kernel_rfl
theorem q16 (l:List SyT) (b bg:List LiT) (i k:Int) (Q:QT) (R:RT):sA CBs Tryz.f128 Q (λ it S=>R it (qbt [0,3,4,5,6] [4,10] S)) (hd Tryz.f128 1) ⟨[(0,.sl syS l),(3,.win true liS 10 0 b.length),(4,.ptr 4 0),(5,.i i),(6,.i k)],[(4,.var [.arr 5 liS bg]),(10,.row 189 liS b)]⟩ =
  (bc (decide (k<=4)) ((0:Int)<=i/\i<=(l.length:Int)/\(0:Int)<=i64.wrap (i+1)/\i64.wrap (i+1)<(b.length:Int)/\0+(i64.wrap (i+1)).toNat<b.length/\(0:Int)<=k/\k<(↑(5:Nat):Int)/\k.toNat<5/\ctBg.pre (k,List.drop i.toNat l,((gtL b (0+(i64.wrap (i+1)).toNat)).2.2),(gtL bg k.toNat),())/\(0:Int)<=k/\k<(↑(5:Nat):Int)/\k.toNat<5/\(0:Int)<=k/\k<(↑(5:Nat):Int)/\k.toNat<5/\(0:Int)<=i/\i<(b.length:Int)/\0+i.toNat<b.length/\ctBet.pre ((gtL (bg.set k.toNat (begL k (List.drop i.toNat l) ((gtL b (0+(i64.wrap (i+1)).toNat)).2.2) (gtL bg k.toNat))) k.toNat),(gtL b (0+i.toNat)),())/\bc (betB (gtL (bg.set k.toNat (begL k (List.drop i.toNat l) ((gtL b (0+(i64.wrap (i+1)).toNat)).2.2) (gtL bg k.toNat))) k.toNat) (gtL b (0+i.toNat))) ((0:Int)<=k/\k<(↑(5:Nat):Int)/\k.toNat<5/\(0:Int)<=i/\i<(b.length:Int)/\0+i.toNat<b.length/\R (hd Tryz.f128 1) { env:=[(0,.sl syS l),(3,.win true liS 10 0 b.length),(4,.ptr 4 0),(5,.i i),(6,.i (i64.wrap (k+1)))],blk:=[(4,.var [.arr (5:Nat) liS (bg.set k.toNat (begL k (List.drop i.toNat l) ((gtL b (0+(i64.wrap (i+1)).toNat)).2.2) (gtL bg k.toNat)))]),(10,.row 189 liS (b.set (0+i.toNat) (gtL (bg.set k.toNat (begL k (List.drop i.toNat l) ((gtL b (0+(i64.wrap (i+1)).toNat)).2.2) (gtL bg k.toNat))) k.toNat)))] }) (R (hd Tryz.f128 1) { env:=[(0,.sl syS l),(3,.win true liS 10 0 b.length),(4,.ptr 4 0),(5,.i i),(6,.i (i64.wrap (k+1)))],blk:=[(4,.var [.arr (5:Nat) liS (bg.set k.toNat (begL k (List.drop i.toNat l) ((gtL b (0+(i64.wrap (i+1)).toNat)).2.2) (gtL bg k.toNat)))]),(10,.row 189 liS b)] })) (R (hd Tryz.f128 0) { env:=[(0,.sl syS l),(3,.win true liS 10 0 b.length),(4,.ptr 4 0),(5,.i (i64.wrap (i-1))),(6,.i k)],blk:=[(4,.var [.arr (5:Nat) liS bg]),(10,.row 189 liS b)] })):=by kernel_rfl
def bT (l:List SyT) (m:Nat):List LiT:=(List.range (l.length+1)).map λ j=>if m<=j then bst (l.drop j) else zLi
theorem qml (l:List SyT) (m:Nat):(bT l m).length=l.length+1:=by simp[bT]
theorem q9k (l:List SyT) (i:Nat) (hi:i<=l.length):bT l i=(bT l (i+1)).set i (bst (l.drop i)):=by
 refine List.ext_getElem? λ j=>?_
 rw[List.getElem?_set];by_cases h:i=j
 ·subst h;rw[if_pos rfl,if_pos (by rw[qml];omega)];simp[bT,show i<l.length+1 by omega]
 ·rw[if_neg h];unfold bT;by_cases hj:j<l.length+1
  ·simp only[List.getElem?_map,List.getElem?_range hj,Option.map_some];by_cases h2:i<=j
   ·rw[if_pos h2,if_pos (by omega)]
   ·rw[if_neg h2,if_neg (by omega)]
  ·simp[show l.length+1<=j by omega]
theorem bT_z (l:List SyT) (i:Nat) (hi:i<=l.length):(bT l (i+1)).set i zLi=bT l (i+1):=by
 refine List.ext_getElem? λ j=>?_
 rw[List.getElem?_set];by_cases h:i=j
 ·subst h;rw[if_pos rfl,if_pos (by rw[qml];omega)];simp[bT,show i<l.length+1 by omega,show ¬ (i+1<=i) by omega]
 ·rw[if_neg h]
theorem qxz (l:List SyT) (m j:Nat) (hj:j<=l.length) (hm:m<=j):gtL (bT l m) j=bst (l.drop j):=by
 show ((bT l m)[j]?).getD _=_
 simp[bT,show j<l.length+1 by omega,hm]
theorem q9l (l:List SyT):List.replicate (l.length+1) (liS.dflt:LiT)=bT l l.length:=by
 refine List.ext_getElem? λ j=>?_
 by_cases hj:j<l.length+1
 ·simp only[bT,List.getElem?_replicate,List.getElem?_map,List.getElem?_range hj,Option.map_some,if_pos hj];by_cases h:l.length<=j
  ·rw[if_pos h,List.drop_eq_nil_of_le h];rfl
  ·rw[if_neg h];rfl
 ·simp[bT,show l.length+1<=j by omega]
def bgL (r:List SyT):List LiT:=[zLi,beg r 1,beg r 2,beg r 3,beg r 4]
def qch (l:List SyT):List LiT:=bT l 0
def q4v (l:List SyT):Prop:=l.length<=65536
def ctBs:Ctr:=⟨[.sl syS],λ x=>q4v x.1,λ x=>[.win true liS 0 0 (qch x.1).length],λ x=>[.row 189 liS (qch x.1)]⟩
section
variable (l:List SyT) (hl:l.length<=65536)
abbrev BQ:List SV->List (Nat × LB)->Prop:=QC ctBs (l,())
abbrev bsO (b bg:List LiT) (i:Int):PS:=⟨[(0,.sl syS l),(3,.win true liS 10 0 b.length),(4,.ptr 4 0),(5,.i i)],[(4,.var [.arr 5 liS bg]),(10,.row 189 liS b)]⟩
abbrev bsI (b bg:List LiT) (i k:Int):PS:=⟨[(0,.sl syS l),(3,.win true liS 10 0 b.length),(4,.ptr 4 0),(5,.i i),(6,.i k)],[(4,.var [.arr 5 liS bg]),(10,.row 189 liS b)]⟩
include hl
theorem qnt (i:Nat) (hi:i<l.length) (k:Nat) (hk:1<=k/\k<=4) (b bg:List LiT) (hb:b.length=l.length+1) (hbg:bg.length=5) (c:LiT) (h1:gtL b (i+1)=bst (l.drop (i+1))) (hg:gtL bg k=beg (l.drop (i+1)) k)
  (nx:GD 128 Tryz.f128 (BQ l) (hd Tryz.f128 1) (bsI l (b.set i (upd c (beg (l.drop i) k))) (bg.set k (beg (l.drop i) k)) i ((k+1:Nat):Int))) :
  GD 128 Tryz.f128 (BQ l) (hd Tryz.f128 1) (bsI l (b.set i c) bg i (k:Nat)):=by
 have kk:kOK (k:Int):=by unfold kOK;omega
 have hd:l.drop i=l[i]::l.drop (i+1):=List.drop_eq_getElem_cons hi;have rl:(l.drop (i+1)).length=l.length-(i+1):=List.length_drop ..;have ra:=qrq (l.drop (i+1)) (by omega);have rb:=qsg (l.drop (i+1)) (by omega);have eb:begL k (l.drop i) (bst (l.drop (i+1))).2.2 (beg (l.drop (i+1)) k)=beg (l.drop i) k:=by
  rw[hd,qsi];unfold begL;rw[q5z,q8x l[i] (l.drop (i+1)) 0]
 refine qat cxBs (q16 l (b.set i c) bg i k _ _) ?_;have w1:IntKind.i64.wrap ((i:Int)+1)=((i+1:Nat):Int):=by rw[IntWalk.i64_in _ (by omega)];omega
 have w2:IntKind.i64.wrap ((k:Int)+1)=((k+1:Nat):Int):=by rw[IntWalk.i64_in _ (by omega)];omega
 have g1:gtL (b.set i c) (0+(i+1))=bst (l.drop (i+1)):=by
  rw[<- h1,Nat.zero_add]
  show ((b.set i c)[i+1]?).getD _=(b[i+1]?).getD _
  rw[List.getElem?_set_ne (by omega)]
 have g2:∀ x,gtL (bg.set k x) k=x:=λ x=>by
  show ((bg.set k x)[k]?).getD _=_
  rw[List.getElem?_set_self (by omega)];rfl
 have g3:gtL (b.set i c) (0+i)=c:=by
  rw[Nat.zero_add]
  show ((b.set i c)[i]?).getD _=_
  rw[List.getElem?_set_self (by omega)];rfl
 rw[w1,w2,decide_eq_true (show (k:Int)<=4 by omega),bc_t];simp only[Int.toNat_natCast];rw[g1,hg,eb,g2,g3];have pl:(l.drop i).length=l.length-i:=List.length_drop ..;have pre1:q4w k (l.drop i) (beg (l.drop (i+1)) k):=by
  refine ⟨kk,by omega,?_⟩;rcases ra.1 k kk with h | ⟨_,n,n1,n2,n3,_⟩
  ·left;rw[h.2];rfl
  ·right;have:=qfo k (l.drop (i+1));omega
 have pre2:boB (bst (l.drop (i+1))).2.2 (beg (l.drop (i+1)) k):=by
  unfold boL at rb;refine ⟨by omega,?_⟩;rcases ra.1 k kk with h | ⟨_,n,n1,n2,n3,_,_,h⟩
  ·rw[h.2];exact (show 0<=(0:Int)/\(0:Int)<16777216/\0<=(0:Int)/\(0:Int)<16777216 by decide)
  ·have:=qfo k (l.drop (i+1));unfold boL at h;omega
 have bl:(b.set i c).length=l.length+1:=by rw[List.length_set];exact hb
 refine ⟨by omega,by omega,by omega,by omega,by omega,by omega,by omega,by omega,⟨pre1,pre2⟩,by omega,by omega,by omega,by omega,by omega,by omega,by omega,by omega,by omega,trivial,qag (λ h=>?_) (λ h=>?_)⟩
 ·have eu:upd c (beg (l.drop i) k)=beg (l.drop i) k:=by unfold upd;rw[if_pos h]
  rw[eu] at nx;refine ⟨by omega,by omega,by omega,by omega,by omega,by omega,?_⟩;rw[Nat.zero_add,List.set_set];exact nx.only ⟨rfl,by simp only[List.length_set];rfl,rfl,rfl,rfl,trivial⟩ ⟨rfl,rfl,trivial⟩
 ·have eu:upd c (beg (l.drop i) k)=c:=by unfold upd;rw[if_neg (by rw[h];decide)]
  rw[eu] at nx;exact nx.only ⟨rfl,rfl,rfl,rfl,rfl,trivial⟩ ⟨rfl,rfl,trivial⟩
theorem q6s:∀ (n:Nat),n<=l.length->GD 128 Tryz.f128 (BQ l) (hd Tryz.f128 0) (bsO l (bT l n) (bgL (l.drop n)) ((n:Int)-1)):=by
 intro n
 induction n with
 | zero=>
  intro hn;refine qat cxBs (q15 l (bT l 0) (bgL (l.drop 0)) (((0:Nat):Int)-1) _ _) ?_;rw[decide_eq_false (by omega),bc_f];exact qvt (e:=liS) (et:=189) (a:=10) (xs:=qch l) rfl rfl rfl rfl rfl
 | succ n ih=>
  intro hn;have e:((n+1:Nat):Int)-1=(n:Int):=by omega
  rw[e];refine qat cxBs (q15 l (bT l (n+1)) (bgL (l.drop (n+1))) n _ _) ?_;rw[decide_eq_true (show (0:Int)<=(n:Int) by omega),bc_t];have fin:GD 128 Tryz.f128 (BQ l) (hd Tryz.f128 1) (bsI l (bT l n) (bgL (l.drop n)) n 5):=by
   refine qat cxBs (q16 l (bT l n) (bgL (l.drop n)) n 5 _ _) ?_;rw[decide_eq_false (by omega),bc_f,IntWalk.i64_in ((n:Int)-1) (by omega)];exact (ih (by omega)).only ⟨rfl,rfl,rfl,rfl,trivial⟩ ⟨rfl,rfl,trivial⟩
  have hb:=qml l (n+1);have h1:=qxz l (n+1) (n+1) (by omega) (Nat.le_refl _);rw[q9k l n (by omega)] at fin;have hd:l.drop n=l[n]::l.drop (n+1):=List.drop_eq_getElem_cons hn;have up:bst (l.drop n)=upd (upd (upd (upd zLi (beg (l.drop n) 1)) (beg (l.drop n) 2)) (beg (l.drop n) 3)) (beg (l.drop n) 4):=by rw[hd];rfl
  rw[up] at fin;have s4:=qnt l hl n hn 4 ⟨by omega,by omega⟩ (bT l (n+1)) [zLi,beg (l.drop n) 1,beg (l.drop n) 2,beg (l.drop n) 3,beg (l.drop (n+1)) 4] hb rfl _ h1 rfl (fin.only ⟨rfl,by simp only[List.length_set];rfl,rfl,rfl,rfl,trivial⟩ ⟨rfl,rfl,trivial⟩);have s3:=qnt l hl n hn 3 ⟨by omega,by omega⟩ (bT l (n+1)) [zLi,beg (l.drop n) 1,beg (l.drop n) 2,beg (l.drop (n+1)) 3,beg (l.drop (n+1)) 4] hb rfl _ h1 rfl (s4.only ⟨rfl,by simp only[List.length_set];rfl,rfl,rfl,rfl,trivial⟩ ⟨rfl,rfl,trivial⟩);have s2:=qnt l hl n hn 2 ⟨by omega,by omega⟩ (bT l (n+1)) [zLi,beg (l.drop n) 1,beg (l.drop (n+1)) 2,beg (l.drop (n+1)) 3,beg (l.drop (n+1)) 4] hb rfl _ h1 rfl (s3.only ⟨rfl,by simp only[List.length_set];rfl,rfl,rfl,rfl,trivial⟩ ⟨rfl,rfl,trivial⟩);have s1:=qnt l hl n hn 1 ⟨by omega,by omega⟩ (bT l (n+1)) [zLi,beg (l.drop (n+1)) 1,beg (l.drop (n+1)) 2,beg (l.drop (n+1)) 3,beg (l.drop (n+1)) 4] hb rfl zLi h1 rfl (s2.only ⟨rfl,by simp only[List.length_set];rfl,rfl,rfl,rfl,trivial⟩ ⟨rfl,rfl,trivial⟩);rw[bT_z l n (by omega)] at s1;exact s1.only ⟨rfl,rfl,rfl,rfl,rfl,trivial⟩ ⟨rfl,rfl,trivial⟩
theorem q9i:GD 128 Tryz.f128 (BQ l) [.code (qae Tryz.f128)] (entry [.sl syS] (l,())):=by
 refine qat cxBs (vc_bs l _ _) ?_;rw[IntWalk.i64_in ((l.length:Int)+1) (by omega),IntWalk.i64_in ((l.length:Int)-1) (by omega)];have e:((l.length:Int)+1).toNat=l.length+1:=by omega
 rw[e];refine ⟨by omega,by omega,?_,?_,?_⟩
 ·show (l.length:Int)+1<16777216
  omega
 ·show (32:Int)*((l.length:Int)+1)<=281474976710656
  omega
 ·have h:=q6s l hl l.length (Nat.le_refl _);rw[List.drop_length] at h;rw[q9l l];exact h.only ⟨rfl,by rw[qml];rfl,rfl,rfl,trivial⟩ ⟨rfl,rfl,trivial⟩
end
theorem q6t:Held Tryz.prog G0 128 ctBs:=Held.of cxBs (fn:=Tryz.f128) rfl rfl ⟨by decide,by decide⟩ λ ⟨l,_⟩ hp=>q9i l hp
def CCh:CV:=[(128,.inl ctBs),(129,.inl ctMk)]
theorem cxCh:CxOK Tryz.prog tt G0 CCh:=(cx0.k qp7 (fn:=Tryz.f129)).k q6t (fn:=Tryz.f128)
set_option maxRecDepth 100000
theorem vc_ch (l:List SyT) (Q:QT) (R:RT):sA CCh Tryz.f104 Q (λ it S=>R it (qbt [0,3,4,5] [3,8,14,1032768] S)) [.code (qae Tryz.f104)] (entry [.sl syS] (l,())) =
  (ctBs.pre (l,())/\(0:Int)<=0/\(0:Int)<(↑(qch l).length:Int)/\0+0<(qch l).length/\(0:Int)<=0/\(0:Int)<=(gtL (qch l) (0+0)).2.2.2/\(gtL (qch l) (0+0)).2.2.2<2 ^ 24/\(↑(56:Nat):Int)*(gtL (qch l) (0+0)).2.2.2<=2 ^ 48/\R (hd Tryz.f104 0) { env:=[(0,.sl syS l),(3,.win true liS 1032768 0 (qch l).length),(4,.win true opS 14 0 (0:Nat)),(5,.i 0)],blk:=[(14,.row 74 opS (List.replicate (0) opS.dflt)),(1032768,.row 189 liS (qch l))] }):=by kernel_rfl
theorem q7w (l:List SyT) (b:List LiT) (o:List OpT) (a:Nat) (Q:QT) (R:RT):sA CCh Tryz.f104 Q (λ it S=>R it (qbt [0,3,4,5] [14,46,1032768] S)) (hd Tryz.f104 0) ⟨[(0,.sl syS l),(3,.win true liS 1032768 0 b.length),(4,.win true opS 14 0 o.length),(5,.i (a:Nat))],[(14,.row 74 opS o),(1032768,.row 189 liS b)]⟩ =
  (bc (decide ((a:Int)<(l.length:Int))) ((0:Int)<=(a:Int)/\(a:Int)<(b.length:Int)/\0+(a:Int).toNat<b.length/\(0:Int)<=(a:Int)/\(a:Int)<(b.length:Int)/\0+(a:Int).toNat<b.length/\(0:Int)<=(a:Int)/\(a:Int)<i64.wrap ((a:Int)+(gtL b (0+(a:Int).toNat)).2.1)/\i64.wrap ((a:Int)+(gtL b (0+(a:Int).toNat)).2.1)<=i64.wrap ((a:Int)+(gtL b (0+(a:Int).toNat)).2.1)/\i64.wrap ((a:Int)+(gtL b (0+(a:Int).toNat)).2.1)<=(l.length:Int)/\i64.wrap ((a:Int)+(gtL b (0+(a:Int).toNat)).2.1)<1099511627776/\ctMk.pre ((gtL b (0+(a:Int).toNat)).1,Px.part l (some (a:Int)) (some (i64.wrap ((a:Int)+(gtL b (0+(a:Int).toNat)).2.1))),())/\0+1<=([(mdK (gtL b (0+(a:Int).toNat)).1 (Px.part l (some (a:Int)) (some (i64.wrap ((a:Int)+(gtL b (0+(a:Int).toNat)).2.1)))))]:List opS.D).length/\o.length=o.length/\(0:Nat)=(0:Nat)/\o.length+(([(mdK (gtL b (0+(a:Int).toNat)).1 (Px.part l (some (a:Int)) (some (i64.wrap ((a:Int)+(gtL b (0+(a:Int).toNat)).2.1)))))]:List opS.D)).length<2 ^ 30/\(56:Nat)<=2 ^ 10/\(0:Int)<=(a:Int)/\(a:Int)<(b.length:Int)/\0+(a:Int).toNat<b.length/\R (hd Tryz.f104 0) { env:=[(0,.sl syS l),(3,.win true liS 1032768 0 b.length),(4,.win true opS 46 0 (o.length+(([(mdK (gtL b (0+(a:Int).toNat)).1 (Px.part l (some (a:Int)) (some (i64.wrap ((a:Int)+(gtL b (0+(a:Int).toNat)).2.1)))))]:List opS.D)).length)),(5,.i (i64.wrap ((a:Int)+(gtL b (0+(a:Int).toNat)).2.1)))],blk:=[(46,.row 74 opS (o++([(mdK (gtL b (0+(a:Int).toNat)).1 (Px.part l (some (a:Int)) (some (i64.wrap ((a:Int)+(gtL b (0+(a:Int).toNat)).2.1)))))]:List opS.D))),(1032768,.row 189 liS b)] }) (Q [.win true opS 14 0 o.length] [(14,.row 74 opS o),(1032768,.row 189 liS b)])):=by kernel_rfl
theorem q7x (l:List SyT) (b:List LiT) (o:List OpT) (a:Nat) (Q:QT) (R:RT):sA CCh Tryz.f104 Q (λ it S=>R it (qbt [0,3,4,5] [14,1032768] S)) (hd Tryz.f104 0) ⟨[(0,.sl syS l),(4,.sl opS o),(5,.i (a:Nat))],[]⟩ =
  (bc (decide ((a:Int)<(l.length:Int))) False (Q [.sl opS o] [])):=by kernel_rfl
def ctCh:Ctr:=⟨[.sl syS],λ x=>q4v x.1,λ x=>[.sl opS (chL x.1)],λ _=>[]⟩
theorem q4z (l:List SyT) (a n:Nat):Px.part l (some (a:Int)) (some ((a+n:Nat):Int))=(l.drop a).take n:=by
 simp only[Px.part,Int.toNat_natCast]
 first
  | (rw[List.drop_take];congr 1;omega)
  | (rw[List.take_drop];done)
  | simp[List.drop_take]
section
variable (l:List SyT) (hl:l.length<=65536)
include hl
theorem q22 (o:List OpT) (a:Nat) (ha:a=l.length):GD 104 Tryz.f104 (OQ o) (hd Tryz.f104 0) ⟨[(0,.sl syS l),(3,.win true liS 1032768 0 (qch l).length),(4,.win true opS 14 0 o.length),(5,.i (a:Nat))],[(14,.row 74 opS o),(1032768,.row 189 liS (qch l))]⟩:=by
 have _:=hl;subst ha;refine Good.frz (i:=14) (e:=opS) (et:=74) (xs:=o) rfl (λ c hc=>?_) ?_
 ·have hc:c∈[0+o.length<=o.length]:=hc;rw[List.mem_singleton] at hc;subst hc;omega
 ·have e:GD 104 Tryz.f104 (OQ o) (hd Tryz.f104 0) ⟨[(0,.sl syS l),(4,.sl opS (winL opS 0 o.length o)),(5,.i (l.length:Nat))],[]⟩:=by
   refine qat cxCh (q7x l [] (winL opS 0 o.length o) l.length _ _) ?_;rw[decide_eq_false (by omega),bc_f,winA]
  exact e.only ⟨rfl,rfl,rfl,trivial⟩ trivial
theorem q6m:∀ (f a:Nat) (o:List OpT),l.length-a<=f->a<=l.length->o.length<=a ->
  GD 104 Tryz.f104 (OQ (o++chF f (l.drop a))) (hd Tryz.f104 0) ⟨[(0,.sl syS l),(3,.win true liS 1032768 0 (qch l).length),(4,.win true opS 14 0 o.length),(5,.i (a:Nat))],[(14,.row 74 opS o),(1032768,.row 189 liS (qch l))]⟩:=by
 intro f
 induction f with
 | zero=>
  intro a o hf ha ho;rw[chF,List.append_nil];exact q22 l hl o a (by omega)
 | succ f ih=>
  intro a o hf ha ho;by_cases he:a=l.length
  ·rw[chF,if_pos (List.drop_eq_nil_of_le (by omega)),List.append_nil];exact q22 l hl o a he
  ·have dl:(l.drop a).length=l.length-a:=List.length_drop ..;have hne:l.drop a≠[]:=λ h=>by rw[h] at dl;simp at dl;omega
   obtain ⟨hb,n,n1,n2,n3,_⟩:=q24 (l:=l.drop a) (by omega) hne;have hfit:=qfo (bst (l.drop a)).1 (l.drop a);have bl:(qch l).length=l.length+1:=qml l 0;have nx:=ih (a+n) (o++[mdK (bst (l.drop a)).1 ((l.drop a).take n)]) (by omega) (by omega) (by rw[List.length_append,List.length_singleton];omega);have ec:chF (f+1) (l.drop a)=mdK (bst (l.drop a)).1 ((l.drop a).take n)::chF f (l.drop (a+n)):=by rw[chF,if_neg hne,n1,Int.toNat_natCast,List.drop_drop]
   rw[ec];rw[List.append_assoc,List.singleton_append] at nx;refine qat cxCh (q7w l (qch l) o a _ _) ?_;have g1:gtL (qch l) (0+a)=bst (l.drop a):=by rw[Nat.zero_add];exact qxz l 0 a ha (Nat.zero_le _)
   have w:IntKind.i64.wrap ((a:Int)+(n:Int))=((a+n:Nat):Int):=by rw[IntWalk.i64_in _ (by omega)];omega
   rw[decide_eq_true (show (a:Int)<(l.length:Int) by omega),bc_t,Int.toNat_natCast,g1,n1,w,q4z l a n];have tl:((l.drop a).take n).length=n:=by rw[List.length_take];omega
   refine ⟨by omega,by omega,by omega,by omega,by omega,by omega,by omega,by omega,by omega,by omega,by omega,(show qpz (bst (l.drop a)).1 ((l.drop a).take n) from ⟨hb,by omega,by omega⟩),Nat.le_refl 1,rfl,rfl,?_,by decide,by omega,by omega,by omega,?_⟩
   ·show o.length+1<2 ^ 30
    omega
   ·exact nx.onlyR [(14,46)] rfl ⟨rfl,rfl,by rw[List.length_append];rfl,rfl,trivial⟩ ⟨rfl,rfl,trivial⟩
theorem q9h:GD 104 Tryz.f104 (QC ctCh (l,())) [.code (qae Tryz.f104)] (entry [.sl syS] (l,())):=by
 refine qat cxCh (vc_ch l _ _) ?_;have bl:(qch l).length=l.length+1:=qml l 0;have g0:gtL (qch l) (0+0)=bst l:=by
  have:=qxz l 0 0 (Nat.zero_le _) (Nat.le_refl _);rw[List.drop_zero] at this;exact this
 have hb:=qsg l hl;unfold boL at hb;rw[g0];refine ⟨hl,by omega,by omega,by omega,by omega,hb.2.2.1,?_,?_,?_⟩
 ·show (bst l).2.2.2<16777216
  omega
 ·show (56:Int)*(bst l).2.2.2<=281474976710656
  omega
 ·have h:=q6m l hl l.length 0 [] (by omega) (Nat.zero_le _) (Nat.zero_le _);rw[List.drop_zero,List.nil_append] at h;exact (h.post λ rs blk hq=>QC.flat (by rw[hq];rfl) rfl (by rw[hq];rfl)).only ⟨rfl,rfl,rfl,rfl,trivial⟩ ⟨rfl,rfl,trivial⟩
end
theorem q6n:Held Tryz.prog G0 104 ctCh:=Held.of cxCh (fn:=Tryz.f104) rfl rfl ⟨by decide,by decide⟩ λ ⟨l,_⟩ hp=>q9h l hp
def poV (l:List SyT) (m:Int):PaT × Int:=if 4096<(chL l).length then ((false,0,0,[]),2) else ((false,m,l.length,chL l),0)
def ctPo:Ctr:=⟨[.sl syS,iI],λ x=>q4v x.1,λ x=>[paV (poV x.1 x.2.1).1,.i (poV x.1 x.2.1).2],λ _=>[]⟩
def cpV (l:List SyT) (m:Int):PaT × Int:=if (ofV l m).2=60 then ((false,0,0,[]),60) else poV l m
def ctCp:Ctr:=⟨[.sl syS,iI],λ x=>List.length x.1<16777216,λ x=>[paV (cpV x.1 x.2.1).1,.i (cpV x.1 x.2.1).2],λ _=>[]⟩
def foV (p:PaT):PaT × Int:=if (symV p).2=0 then (if (poV (symV p).1 p.2.1).2=0 then ((p.1,(poV (symV p).1 p.2.1).1.2),0) else ((false,0,0,[]),(poV (symV p).1 p.2.1).2)) else ((false,0,0,[]),(symV p).2)
def ctFo:Ctr:=⟨[paS],λ _=>True,λ x=>[paV (foV x.1).1,.i (foV x.1).2],λ _=>[]⟩
def CPo:CV:=[(104,.inl ctCh)]
theorem cxPo:CxOK Tryz.prog tt G0 CPo:=cx0.k q6n (fn:=Tryz.f104)
set_option maxRecDepth 100000
theorem vc_po (l:List SyT) (m:Int) (Q:QT) (R:RT):sA CPo Tryz.f71 Q R [.code (qae Tryz.f71)] (entry [.sl syS,iI] (l,m,())) =
  (ctCh.pre (l,())/\bc (decide ((4096:Int)<(↑(chL l).length:Int))) (Q [.agg [.bool false,.i 0,.i 0,.nils],.i 2] [(4,.var [.bool false,.i 0,.i 0,.nils])]) (Q [.agg [.bool false,.i m,.i (l.length:Int),.sl opS (chL l)],.i 0] [(4,.var [.bool false,.i m,.i (l.length:Int),.sl opS (chL l)])])):=by kernel_rfl
theorem vc_cp (l:List SyT) (m:Int) (Q:QT) (R:RT):sA [(89,.inl ctOfA),(71,.inl ctPo)] Tryz.f55 Q R [.code (qae Tryz.f55)] (entry [.sl syS,iI] (l,m,())) =
  (ctOfA.pre (l,m,())/\bc (decide ((ofV l m).2=(60:Int))) (Q [.agg [.bool false,.i 0,.i 0,.nils],.i (ofV l m).2] [(4,.var [.bool false,.i 0,.i 0,.nils]),(6,.var [.bool (ofV l m).1.1,.i (ofV l m).1.2.1,.i (ofV l m).1.2.2.1,.sl opS (ofV l m).1.2.2.2])]) (ctPo.pre (l,m,())/\Q [.agg [.bool (poV l m).1.1,.i (poV l m).1.2.1,.i (poV l m).1.2.2.1,.sl opS (poV l m).1.2.2.2],.i (poV l m).2] [(4,.var [.bool (poV l m).1.1,.i (poV l m).1.2.1,.i (poV l m).1.2.2.1,.sl opS (poV l m).1.2.2.2]),(6,.var [.bool (ofV l m).1.1,.i (ofV l m).1.2.1,.i (ofV l m).1.2.2.1,.sl opS (ofV l m).1.2.2.2])])):=by kernel_rfl
theorem vc_fo (li:Bool) (m o:Int) (l:List OpT) (Q:QT) (R:RT):sA [(63,.inl ctSym),(71,.inl ctPo)] Tryz.f29 Q R [.code (qae Tryz.f29)] (entry [paS] ((li,m,o,l),())) =
  (ctSym.pre ((li,m,o,l),())/\bc (decide ((symV (li,m,o,l)).2≠0)) (Q [.agg [.bool false,.i 0,.i 0,.nils],.i (symV (li,m,o,l)).2] [(1,.var [.bool li,.i m,.i o,.sl opS l]),(2,.var [.bool false,.i 0,.i 0,.nils]),(1036864,.row 83 syS (symV (li,m,o,l)).1)]) (0+(symV (li,m,o,l)).1.length<=(symV (li,m,o,l)).1.length/\0+(symV (li,m,o,l)).1.length<=(symV (li,m,o,l)).1.length/\0+(symV (li,m,o,l)).1.length<=(symV (li,m,o,l)).1.length/\0+(symV (li,m,o,l)).1.length<=(symV (li,m,o,l)).1.length/\0+(symV (li,m,o,l)).1.length<=(symV (li,m,o,l)).1.length/\ctPo.pre (winL syS 0 (symV (li,m,o,l)).1.length (symV (li,m,o,l)).1,m,())/\bc (decide ((poV (winL syS 0 (symV (li,m,o,l)).1.length (symV (li,m,o,l)).1) m).2≠0)) (Q [.agg [.bool false,.i 0,.i 0,.nils],.i (poV (winL syS 0 (symV (li,m,o,l)).1.length (symV (li,m,o,l)).1) m).2] [(1,.var [.bool li,.i m,.i o,.sl opS l]),(2,.var [.bool false,.i 0,.i 0,.nils]),(6,.var [.bool (poV (winL syS 0 (symV (li,m,o,l)).1.length (symV (li,m,o,l)).1) m).1.1,.i (poV (winL syS 0 (symV (li,m,o,l)).1.length (symV (li,m,o,l)).1) m).1.2.1,.i (poV (winL syS 0 (symV (li,m,o,l)).1.length (symV (li,m,o,l)).1) m).1.2.2.1,.sl opS (poV (winL syS 0 (symV (li,m,o,l)).1.length (symV (li,m,o,l)).1) m).1.2.2.2])]) (Q [.agg [.bool li,.i (poV (winL syS 0 (symV (li,m,o,l)).1.length (symV (li,m,o,l)).1) m).1.2.1,.i (poV (winL syS 0 (symV (li,m,o,l)).1.length (symV (li,m,o,l)).1) m).1.2.2.1,.sl opS (poV (winL syS 0 (symV (li,m,o,l)).1.length (symV (li,m,o,l)).1) m).1.2.2.2],.i 0] [(1,.var [.bool li,.i m,.i o,.sl opS l]),(2,.var [.bool li,.i (poV (winL syS 0 (symV (li,m,o,l)).1.length (symV (li,m,o,l)).1) m).1.2.1,.i (poV (winL syS 0 (symV (li,m,o,l)).1.length (symV (li,m,o,l)).1) m).1.2.2.1,.sl opS (poV (winL syS 0 (symV (li,m,o,l)).1.length (symV (li,m,o,l)).1) m).1.2.2.2]),(6,.var [.bool li,.i (poV (winL syS 0 (symV (li,m,o,l)).1.length (symV (li,m,o,l)).1) m).1.2.1,.i (poV (winL syS 0 (symV (li,m,o,l)).1.length (symV (li,m,o,l)).1) m).1.2.2.1,.sl opS (poV (winL syS 0 (symV (li,m,o,l)).1.length (symV (li,m,o,l)).1) m).1.2.2.2])]))):=by kernel_rfl
theorem qh8 (z:Int):MtL (λ _=>none) [paV (false,0,0,[]),.i z] [.agg [.bool false,.i 0,.i 0,.nils],.i z]:=
 ⟨_,_,rfl,⟨_,rfl,_,_,rfl,rfl,_,_,rfl,rfl,_,_,rfl,rfl,_,_,rfl,.inr ⟨rfl,rfl⟩,rfl⟩,_,_,rfl,rfl,rfl⟩
theorem q8i (l:List SyT) (m:Int) (hp:l.length<=65536) (R:List Item->PS->Prop):sA CPo Tryz.f71 (QC ctPo (l,m,())) R [.code (qae Tryz.f71)] (entry [.sl syS,iI] (l,m,())):=by
 refine (vc_po l m _ _).mpr ⟨hp,qag (λ h=>?_) (λ h=>?_)⟩
 ·have h:(4096:Int)<((chL l).length:Int):=of_decide_eq_true h;have hv:poV l m=((false,0,0,[]),2):=by unfold poV;rw[if_pos (by omega)]
  exact QC.mt (by show MtL _ [paV (poV l m).1,.i (poV l m).2] _;rw[hv];exact qh8 _) rfl
 ·have h:¬ (4096:Int)<((chL l).length:Int):=of_decide_eq_false h;have hv:poV l m=(((false,m,(l.length:Int),chL l):PaT),(0:Int)):=by unfold poV;rw[if_neg (by omega)]
  exact QC.flat (by show [paV (poV l m).1,.i (poV l m).2]=_;rw[hv];rfl) rfl rfl
theorem qvy:Held Tryz.prog G0 71 ctPo:=Held.run cxPo (fn:=Tryz.f71) rfl rfl ⟨by decide,by decide⟩ λ ⟨l,m,_⟩ hp=>q8i l m hp _
theorem q8q {l:List SyT} {m:Int} (h:(ofV l m).2≠60):szB m=true/\szB l.length=true/\l.all (sOK m)=true:=by
 unfold ofV at h;split at h
 ·assumption
 ·exact absurd rfl h
theorem q5a {l:List SyT} {m:Int} (h:szB m=true/\szB l.length=true/\l.all (sOK m)=true):(ofV l m).2≠60:=by
 unfold ofV;rw[if_pos h];split
 ·exact (show (2:Int)≠60 by decide)
 ·exact (show (0:Int)≠60 by decide)
theorem q18 {n:Int} (h:szB n=true):0<=n/\n<=65536:=by simpa [szB] using h
theorem cxCp:CxOK Tryz.prog tt G0 [(89,.inl ctOfA),(71,.inl ctPo)]:=(cx0.k qvy (fn:=Tryz.f71)).k qzv (fn:=Tryz.f89)
theorem q9c (l:List SyT) (m:Int) (hp:l.length<16777216) (R:List Item->PS->Prop):sA [(89,.inl ctOfA),(71,.inl ctPo)] Tryz.f55 (QC ctCp (l,m,())) R [.code (qae Tryz.f55)] (entry [.sl syS,iI] (l,m,())):=by
 refine (vc_cp l m _ _).mpr ⟨hp,qag (λ h=>?_) (λ h=>?_)⟩
 ·have h:(ofV l m).2=60:=of_decide_eq_true h;have hv:cpV l m=((false,0,0,[]),60):=by unfold cpV;rw[if_pos h]
  rw[h];exact QC.mt (by show MtL _ [paV (cpV l m).1,.i (cpV l m).2] _;rw[hv];exact qh8 _) rfl
 ·have h:¬ (ofV l m).2=60:=of_decide_eq_false h;have hz:=q18 (q8q h).2.1;have hv:cpV l m=poV l m:=by unfold cpV;rw[if_neg h]
  exact ⟨(show l.length<=65536 by omega),QC.flat (by show [paV (cpV l m).1,.i (cpV l m).2]=_;rw[hv];rfl) rfl rfl⟩
theorem qxq:Held Tryz.prog G0 55 ctCp:=Held.run cxCp (fn:=Tryz.f55) rfl rfl ⟨by decide,by decide⟩ λ ⟨l,m,_⟩ hp=>q9c l m hp _
theorem q37 (p:PaT):(symV p).1.length<=65536:=by
 unfold symV;split
 next h=>
  obtain ⟨h1,h2,h3,_⟩:=qex h;have:=qfx h1
  show (symF p.2.2.2).length<=65536
  omega
 ·exact Nat.zero_le _
theorem cxFo:CxOK Tryz.prog tt G0 [(63,.inl ctSym),(71,.inl ctPo)]:=(cx0.k qvy (fn:=Tryz.f71)).k sym_held (fn:=Tryz.f63)
theorem q8z (li:Bool) (m o:Int) (l:List OpT) (R:List Item->PS->Prop):sA [(63,.inl ctSym),(71,.inl ctPo)] Tryz.f29 (QC ctFo ((li,m,o,l),())) R [.code (qae Tryz.f29)] (entry [paS] ((li,m,o,l),())):=by
 refine (vc_fo li m o l _ _).mpr ⟨trivial,qag (λ h=>?_) (λ h=>?_)⟩
 ·have h:(symV (li,m,o,l)).2≠0:=of_decide_eq_true h;have hv:foV (li,m,o,l)=((false,0,0,[]),(symV (li,m,o,l)).2):=by unfold foV;rw[if_neg h]
  exact QC.mt (by show MtL _ [paV (foV (li,m,o,l)).1,.i (foV (li,m,o,l)).2] _;rw[hv];exact qh8 _) rfl
 ·have h:¬ (symV (li,m,o,l)).2≠0:=of_decide_eq_false h;have h:(symV (li,m,o,l)).2=0:=by omega
  rw[winA];refine ⟨by omega,by omega,by omega,by omega,by omega,q37 _,qag (λ h2=>?_) (λ h2=>?_)⟩
  ·have h2:(poV (symV (li,m,o,l)).1 m).2≠0:=of_decide_eq_true h2;have hv:foV (li,m,o,l)=((false,0,0,[]),(poV (symV (li,m,o,l)).1 m).2):=by unfold foV;rw[if_pos h,if_neg h2]
   exact QC.mt (by show MtL _ [paV (foV (li,m,o,l)).1,.i (foV (li,m,o,l)).2] _;rw[hv];exact qh8 _) rfl
  ·have h2:¬ (poV (symV (li,m,o,l)).1 m).2≠0:=of_decide_eq_false h2;have h2:(poV (symV (li,m,o,l)).1 m).2=0:=by omega
   have hv:foV (li,m,o,l)=((li,(poV (symV (li,m,o,l)).1 m).1.2),0):=by unfold foV;rw[if_pos h,if_pos h2]
   exact QC.flat (by show [paV (foV (li,m,o,l)).1,.i (foV (li,m,o,l)).2]=_;rw[hv];rfl) rfl rfl
theorem q55:Held Tryz.prog G0 29 ctFo:=Held.run cxFo (fn:=Tryz.f29) rfl rfl ⟨by decide,by decide⟩ λ ⟨⟨li,m,o,l⟩,_⟩ _=>q8z li m o l _
end Go.Proofs.YtdeacfammdjajaaGreatDoor
