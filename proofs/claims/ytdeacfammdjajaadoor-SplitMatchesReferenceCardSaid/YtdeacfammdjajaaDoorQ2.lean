/-
  A part of the proof: what pieces of the program give; conditions: those of each theorem.
-/
import Derived.Test.YtdeacfammdjajaaDoorQ1
import Derived.Test.YtdeacfammdjajaaDoorQ0
set_option linter.unusedVariables false
set_option linter.unusedSimpArgs false
namespace Go.Proofs.YtdeacfammdjajaaDoor
open Go.Px Go.Ax
open Go.IntKind(i64 u32 u8)
set_option maxRecDepth 100000
attribute [local irreducible] Go.Px.sy Go.Px.syE
def elA (x:List Int) (i:Nat):Int:=u8.wrap (gtB x 3*u8.wrap (i64.wrap ((i:Int)+i64.wrap ((i64.wrap (gtB x 0)).tdiv 4))))
def datA (x:List Int) (n:Nat):List Int:=(List.range n).map (elA x)
theorem qn2 (x:List Int) (n:Nat):(datA x n).length=n:=by simp[datA]
theorem qy3 (x:List Int) (i:Nat):datA x (i+1)=datA x i++[elA x i]:=by simp[datA,List.range_succ]
def datO (x:List Int) (k n:Int):List Int:=if k=2\/k=4 then datA x n.toNat else []
def opV (x:List Int) (n:Int):OpT:=
 if 1+(gtB x 0).tmod 4<=2 then
  if n=0 then (4,0,1+(gtB x 2).tmod 5,0,datO x 4 (1+(gtB x 2).tmod 5))
  else (1+(gtB x 0).tmod 4,(gtB x 1).tmod n,1+((gtB x 2).tmod (n-(gtB x 1).tmod n)).tmod 5,0,datO x (1+(gtB x 0).tmod 4) (1+((gtB x 2).tmod (n-(gtB x 1).tmod n)).tmod 5))
 else (1+(gtB x 0).tmod 4,0,1+(gtB x 2).tmod 5,if 1+(gtB x 0).tmod 4=3 then gtB x 3 else 0,datO x (1+(gtB x 0).tmod 4) (1+(gtB x 2).tmod 5))
def qt5 (x:List Int):Prop:=∀ j,0<=gtB x j/\gtB x j<256
def preN (n:Int):Prop:=0<=n/\n<16777216
def ctOp:Ctr:=⟨[.arr 4 uB,iI],λ x=>qt5 x.1/\preN x.2.1,λ x=>mdV (opV x.1 x.2.1),λ _=>[]⟩
abbrev OpQ (o:OpT):List SV->List (Nat × LB)->Prop:=λ rs _=>MtL (λ _=>none) (mdV o) rs
theorem q1k (x:List Int) (k a b:Int) (n:Nat) (hn:n<16777216) (hk:k=2\/k=4):∀ (m i:Nat),n-i=m->i<=n ->
  GD 36 Tryd.f36 (OpQ (k,a,n,b,datA x n)) (hd Tryd.f36 0) ⟨[(2,.ptr 2 0),(4,.ptr 4 0),(5,.ptr 5 0),(6,.i (i:Nat))],[(2,.var [.arr 4 uB x]),(4,.var [.i 0,.i 0,.i 0,.u 0,.nils]),(5,.var [.i k,.i a,.i (n:Nat),.u b,.win true uB 76 0 (datA x i).length]),(76,.row 5 uB (datA x i))]⟩:=by
 intro m
 induction m with
 | zero=>
  intro i hm hi;have hi:i=n:=by omega
  subst hi;refine Good.frz (i:=76) (e:=uB) (et:=5) (xs:=datA x i) rfl (λ c hc=>?_) ?_
  ·have hc:c∈[0+(datA x i).length<=(datA x i).length]:=hc;rw[List.mem_singleton] at hc;subst hc;omega
  ·have e:GD 36 Tryd.f36 (OpQ (k,a,i,b,datA x i)) (hd Tryd.f36 0) ⟨[(2,.ptr 2 0),(4,.ptr 4 0),(5,.ptr 5 0),(6,.i (i:Nat))],[(2,.var [.arr 4 uB x]),(4,.var [.i 0,.i 0,.i 0,.u 0,.nils]),(5,.var [.i k,.i a,.i (i:Nat),.u b,.sl uB (winL uB 0 (datA x i).length (datA x i))])]⟩:=by
    refine qah cx0 (q9z x (winL uB 0 (datA x i).length (datA x i)) k a i b i _ _) ?_;rw[decide_eq_false (by omega),bc_f,winA];exact ⟨rfl,_,_,rfl,⟨_,rfl,_,_,rfl,rfl,_,_,rfl,rfl,_,_,rfl,rfl,_,_,rfl,rfl,_,_,rfl,.inl rfl,rfl⟩,rfl⟩
   exact e.only ⟨rfl,rfl,rfl,rfl,trivial⟩ ⟨rfl,rfl,rfl,trivial⟩
 | succ m ih=>
  intro i hm hi;have nx:=ih (i+1) (by omega) (by omega);have hl:=qn2 x i;have hl2:=qn2 x (i+1);rw[qy3] at nx hl2;refine qah cx0 (q90 x (datA x i) k a n b i _ _) ?_;rw[decide_eq_true (show (i:Int)<(n:Int) by omega),bc_t,IntWalk.i64_in ((i:Int)+1) (by omega)];have tl:GD 36 Tryd.f36 (OpQ (k,a,n,b,datA x n)) (hd Tryd.f36 0) ⟨[(2,.ptr 2 0),(4,.ptr 4 0),(5,.ptr 5 0),(6,.i ((i:Int)+1))],[(2,.var [.arr 4 uB x]),(4,.var [.i 0,.i 0,.i 0,.u 0,.nils]),(5,.var [.i k,.i a,.i (n:Nat),.u b,.win true uB 76 0 ((datA x i).length+1)]),(76,.row 5 uB (datA x i++[elA x i]))]⟩:=
   nx.only ⟨rfl,rfl,rfl,rfl,trivial⟩ ⟨rfl,rfl,by rw[List.length_append];rfl,rfl,trivial⟩
  have h30:(datA x i).length+1<2 ^ 30:=by omega
  rcases hk with rfl | rfl
  ·rw[decide_eq_true rfl,bc_t];exact ⟨rfl,by decide,by decide,by decide,by decide,by decide,by decide,by decide,Nat.le_refl 1,rfl,rfl,h30,by decide,tl⟩
  ·rw[decide_eq_false (by decide),bc_f,decide_eq_true rfl,bc_t];exact ⟨by decide,by decide,by decide,by decide,by decide,by decide,by decide,Nat.le_refl 1,rfl,rfl,h30,by decide,tl⟩
theorem q1l (x:List Int) (k a b:Int) (n:Nat) (hn:n<16777216) (h0:0<n) :
  GD 36 Tryd.f36 (OpQ (k,a,n,b,datO x k n)) (hd Tryd.f36 0) ⟨[(2,.ptr 2 0),(4,.ptr 4 0),(5,.ptr 5 0),(6,.i 0)],[(2,.var [.arr 4 uB x]),(4,.var [.i 0,.i 0,.i 0,.u 0,.nils]),(5,.var [.i k,.i a,.i (n:Nat),.u b,.nils])]⟩:=by
 refine qah cx0 (q91 x k a n b 0 _ _) ?_;rw[decide_eq_true (show ((0:Nat):Int)<(n:Int) by omega),bc_t,IntWalk.i64_in (((0:Nat):Int)+1) (by omega)];have tl:(k=2\/k=4)->GD 36 Tryd.f36 (OpQ (k,a,n,b,datO x k n)) (hd Tryd.f36 0) ⟨[(2,.ptr 2 0),(4,.ptr 4 0),(5,.ptr 5 0),(6,.i (((0:Nat):Int)+1))],[(2,.var [.arr 4 uB x]),(4,.var [.i 0,.i 0,.i 0,.u 0,.nils]),(5,.var [.i k,.i a,.i (n:Nat),.u b,.win true uB 76 0 1]),(76,.row 5 uB [elA x 0])]⟩:=λ hk=>by
  have:=q1k x k a b n hn hk _ 1 rfl (by omega);have e:datO x k n=datA x n:=by unfold datO;rw[if_pos hk,Int.toNat_natCast]
  rw[e];exact this
 refine qaf (λ h=>?_) (λ h=>qaf (λ h2=>?_) (λ h2=>?_))
 ·have h:k=2:=of_decide_eq_true h;exact ⟨rfl,by decide,by decide,by decide,by decide,by decide,by decide,by decide,Nat.le_refl 1,(show 1<2 ^ 30 by decide),by decide,tl (.inl h)⟩
 ·have h2:k=4:=of_decide_eq_true h2;exact ⟨by decide,by decide,by decide,by decide,by decide,by decide,by decide,Nat.le_refl 1,(show 1<2 ^ 30 by decide),by decide,tl (.inr h2)⟩
 ·have h:¬ k=2:=of_decide_eq_false h;have h2:¬ k=4:=of_decide_eq_false h2;have e:datO x k n=[]:=if_neg (by omega);rw[e];exact ⟨_,_,rfl,⟨_,rfl,_,_,rfl,rfl,_,_,rfl,rfl,_,_,rfl,rfl,_,_,rfl,rfl,_,_,rfl,.inr ⟨rfl,rfl⟩,rfl⟩,rfl⟩
theorem qd5 {a b:Int} (h:0<=a) (hb:0<b):0<=a.tmod b/\a.tmod b<b:=⟨Int.tmod_nonneg _ h,Int.tmod_lt_of_pos _ hb⟩
theorem zbs (x:List Int) (n:Int) (hx:qt5 x) (hn0:0<=n) (hn1:n<16777216):GD 36 Tryd.f36 (QC ctOp (x,n,())) [.code (qad Tryd.f36)] (entry [.arr 4 uB,iI] (x,n,())):=by
 have wx:∀ j,i64.wrap (gtB x j)=gtB x j:=λ j=>IntWalk.i64_in _ (by have:=hx j;omega)
 have m0:=qd5 (hx 0).1 (b:=4) (by decide);have m2:=qd5 (hx 2).1 (b:=5) (by decide);have w0:i64.wrap (1+(gtB x 0).tmod 4)=1+(gtB x 0).tmod 4:=IntWalk.i64_in _ (by omega);have w2:i64.wrap (1+(gtB x 2).tmod 5)=1+(gtB x 2).tmod 5:=IntWalk.i64_in _ (by omega);have go:∀ (k a len b:Int),0<len->len<16777216->opV x n=(k,a,len,b,datO x k len)->GD 36 Tryd.f36 (QC ctOp (x,n,())) (hd Tryd.f36 0) ⟨[(2,.ptr 2 0),(4,.ptr 4 0),(5,.ptr 5 0),(6,.i 0)],[(2,.var [.arr 4 uB x]),(4,.var [.i 0,.i 0,.i 0,.u 0,.nils]),(5,.var [.i k,.i a,.i len,.u b,.nils])]⟩:=λ k a len b h1 h2 h3=>by
  obtain ⟨N,rfl⟩:=Int.eq_ofNat_of_zero_le (Int.le_of_lt h1);refine (q1l x k a b N (by omega) (by omega)).post λ rs blk hq=>QC.mt ?_ rfl
  show MtL _ (mdV (opV x n)) _
  rw[h3];exact hq
 refine qah cx0 (vc_op x n _ _) ?_;simp only[wx,w0,w2];refine ⟨by decide,by decide,by decide,by decide,by decide,by decide,by decide,by decide,qaf (λ h=>?_) (λ h=>?_)⟩
 ·have h:1+(gtB x 0).tmod 4<=2:=of_decide_eq_true h;refine qaf (λ h2=>?_) (λ h2=>?_)
  ·have h2:n=0:=of_decide_eq_true h2;exact go _ _ _ _ (by omega) (by omega) (by unfold opV;rw[if_pos h,if_pos h2])
  ·have h2:¬ n=0:=of_decide_eq_false h2;have m1:=qd5 (hx 1).1 (b:=n) (by omega);have w1:i64.wrap (n-(gtB x 1).tmod n)=n-(gtB x 1).tmod n:=IntWalk.i64_in _ (by omega);have m3:=qd5 (hx 2).1 (b:=n-(gtB x 1).tmod n) (by omega);have m4:=qd5 m3.1 (b:=5) (by decide);have w3:i64.wrap (1+((gtB x 2).tmod (n-(gtB x 1).tmod n)).tmod 5)=1+((gtB x 2).tmod (n-(gtB x 1).tmod n)).tmod 5:=IntWalk.i64_in _ (by omega);rw[w1,w3];refine ⟨by decide,by decide,by decide,h2,by decide,by decide,by decide,by omega,by decide,qaf (λ h3=>?_) (λ h3=>?_)⟩
   ·have h3:1+(gtB x 0).tmod 4=3:=of_decide_eq_true h3;omega
   ·exact go _ _ _ _ (by omega) (by omega) (by unfold opV;rw[if_pos h,if_neg h2])
 ·have h:¬ 1+(gtB x 0).tmod 4<=2:=of_decide_eq_false h;refine qaf (λ h3=>?_) (λ h3=>?_)
  ·have h3:1+(gtB x 0).tmod 4=3:=of_decide_eq_true h3;exact ⟨by decide,by decide,by decide,go _ _ _ _ (by omega) (by omega) (by unfold opV;rw[if_neg h,if_pos h3])⟩
  ·have h3:¬ 1+(gtB x 0).tmod 4=3:=of_decide_eq_false h3;exact go _ _ _ _ (by omega) (by omega) (by unfold opV;rw[if_neg h,if_neg h3])
theorem q7f:Held Tryd.prog G0 36 ctOp:=
 Held.of cx0 (fn:=Tryd.f36) rfl rfl ⟨by decide,by decide⟩ λ ⟨x,n,_⟩ hp=>zbs x n hp.1 hp.2.1 hp.2.2
abbrev a4S:Sh:=.arr 4 uB
abbrev raS:Sh:=.pair uB (.sl a4S)
def C54:CV:=[(36,.inl ctOp)]
theorem cx54:CxOK Tryd.prog tt G0 C54:=cx0.k q7f (fn:=Tryd.f36)
set_option maxRecDepth 100000
theorem qzo (z m:Int) (l:List (List Int)) (Q:QT) (R:RT):sA C54 Tryd.f18 Q (λ it S=>R it (qaj [1,2,4,5,6] [2,4,5,32] S)) [.code (qad Tryd.f18)] (entry [raS,iI] ((z,l),m,())) =
  (R (hd Tryd.f18 0) { env:=[(1,.i m),(2,.ptr 2 0),(4,.ptr 4 0),(5,.ptr 5 0),(6,.i 0)],blk:=[(2,.var [.u z,.sl a4S l]),(4,.var [.bool false,.i 0,.i 0,.nils]),(5,.var [.bool false,.i m,.i 0,.nils])] }):=by kernel_rfl
def ql9 (z m o:Int) (l:List (List Int)):List (Nat × LB):=[(2,.var [.u z,.sl a4S l]),(4,.var [.bool false,.i m,.i o,.nils]),(5,.var [.bool false,.i m,.i o,.nils])]
theorem q9i (z m o:Int) (l:List (List Int)) (i:Nat) (Q:QT) (R:RT):sA C54 Tryd.f18 Q (λ it S=>R it (qaj [1,2,4,5,6] [2,4,5,32] S)) (hd Tryd.f18 0) ⟨[(1,.i m),(2,.ptr 2 0),(4,.ptr 4 0),(5,.ptr 5 0),(6,.i (i:Nat))],[(2,.var [.u z,.sl a4S l]),(4,.var [.bool false,.i 0,.i 0,.nils]),(5,.var [.bool false,.i m,.i o,.nils])]⟩ =
  (bc (decide ((i:Int)<(l.length:Int))) (bc (decide ((i:Int)<6)) ((0:Int)<=(i:Int)/\(i:Int)<(l.length:Int)/\ctOp.pre (gt a4S l (i:Int).toNat,m,())/\(0:Nat)+1<=([(opV (gt a4S l (i:Int).toNat) m)]:List opS.D).length/\(([(opV (gt a4S l (i:Int).toNat) m)]:List opS.D)).length<2 ^ 30/\(56:Nat)<=2 ^ 10/\R (hd Tryd.f18 0) { env:=[(1,.i m),(2,.ptr 2 0),(4,.ptr 4 0),(5,.ptr 5 0),(6,.i (IntKind.i64.wrap ((i:Int)+1)))],blk:=[(2,.var [.u z,.sl a4S l]),(4,.var [.bool false,.i 0,.i 0,.nils]),(5,.var [.bool false,.i m,.i (IntKind.i64.wrap (o+(opV (gt a4S l (i:Int).toNat) m).2.2.1)),.win true opS 32 0 (1:Nat)]),(32,.row 55 opS (([(opV (gt a4S l (i:Int).toNat) m)]:List opS.D)))] }) (Q [.agg [.bool false,.i m,.i o,.nils]] (ql9 z m o l))) (false=false/\Q [.agg [.bool false,.i m,.i o,.nils]] (ql9 z m o l))):=by kernel_rfl
def ql8 (z m o:Int) (l:List (List Int)) (d:List OpT):List (Nat × LB):=[(2,.var [.u z,.sl a4S l]),(4,.var [.bool false,.i m,.i o,.win true opS 32 0 d.length]),(5,.var [.bool false,.i m,.i o,.win true opS 32 0 d.length]),(32,.row 55 opS d)]
theorem q9h (z m o:Int) (l:List (List Int)) (d:List OpT) (i:Nat) (Q:QT) (R:RT):sA C54 Tryd.f18 Q (λ it S=>R it (qaj [1,2,4,5,6] [2,4,5,32] S)) (hd Tryd.f18 0) ⟨[(1,.i m),(2,.ptr 2 0),(4,.ptr 4 0),(5,.ptr 5 0),(6,.i (i:Nat))],[(2,.var [.u z,.sl a4S l]),(4,.var [.bool false,.i 0,.i 0,.nils]),(5,.var [.bool false,.i m,.i o,.win true opS 32 0 d.length]),(32,.row 55 opS d)]⟩ =
  (bc (decide ((i:Int)<(l.length:Int))) (bc (decide ((i:Int)<6)) ((0:Int)<=(i:Int)/\(i:Int)<(l.length:Int)/\ctOp.pre (gt a4S l (i:Int).toNat,m,())/\(0:Nat)+1<=([(opV (gt a4S l (i:Int).toNat) m)]:List opS.D).length/\d.length=d.length/\(0:Nat)=(0:Nat)/\d.length+(([(opV (gt a4S l (i:Int).toNat) m)]:List opS.D)).length<2 ^ 30/\(56:Nat)<=2 ^ 10/\R (hd Tryd.f18 0) { env:=[(1,.i m),(2,.ptr 2 0),(4,.ptr 4 0),(5,.ptr 5 0),(6,.i (IntKind.i64.wrap ((i:Int)+1)))],blk:=[(2,.var [.u z,.sl a4S l]),(4,.var [.bool false,.i 0,.i 0,.nils]),(5,.var [.bool false,.i m,.i (IntKind.i64.wrap (o+(opV (gt a4S l (i:Int).toNat) m).2.2.1)),.win true opS 32 0 (d.length+(([(opV (gt a4S l (i:Int).toNat) m)]:List opS.D)).length)]),(32,.row 55 opS (d++([(opV (gt a4S l (i:Int).toNat) m)]:List opS.D)))] }) (Q [.agg [.bool false,.i m,.i o,.win true opS 32 0 d.length]] (ql8 z m o l d))) (false=false/\Q [.agg [.bool false,.i m,.i o,.win true opS 32 0 d.length]] (ql8 z m o l d))):=by kernel_rfl
def ql7 (z m o:Int) (l:List (List Int)) (d:List OpT):List (Nat × LB):=[(2,.var [.u z,.sl a4S l]),(4,.var [.bool false,.i m,.i o,.sl opS d]),(5,.var [.bool false,.i m,.i o,.sl opS d])]
theorem q9g (z m o:Int) (l:List (List Int)) (d:List OpT) (i:Nat) (Q:QT) (R:RT):sA C54 Tryd.f18 Q (λ it S=>R it (qaj [1,2,4,5,6] [2,4,5,32] S)) (hd Tryd.f18 0) ⟨[(1,.i m),(2,.ptr 2 0),(4,.ptr 4 0),(5,.ptr 5 0),(6,.i (i:Nat))],[(2,.var [.u z,.sl a4S l]),(4,.var [.bool false,.i 0,.i 0,.nils]),(5,.var [.bool false,.i m,.i o,.sl opS d])]⟩ =
  (bc (decide ((i:Int)<(l.length:Int))) (bc (decide ((i:Int)<6)) ((0:Int)<=(i:Int)/\(i:Int)<(l.length:Int)/\ctOp.pre (gt a4S l (i:Int).toNat,m,())/\False) (Q [.agg [.bool false,.i m,.i o,.sl opS d]] (ql7 z m o l d))) (false=false/\Q [.agg [.bool false,.i m,.i o,.sl opS d]] (ql7 z m o l d))):=by kernel_rfl
def szL (l:List (List Int)) (m:Int) (i:Nat):List OpT:=(List.range i).map λ j=>opV (gt a4S l j) m
def szK (l:List (List Int)):Nat:=min l.length 6
def szO (l:List (List Int)) (m:Int):List OpT:=szL l m (szK l)
def szV (l:List (List Int)) (m:Int):PaT:=(false,m,lenS (szO l m),szO l m)
theorem qv6 (l:List (List Int)) (m:Int) (i:Nat):(szL l m i).length=i:=by simp[szL]
theorem qrp (l:List (List Int)) (m:Int) (i:Nat):szL l m (i+1)=szL l m i++[opV (gt a4S l i) m]:=by simp[szL,List.range_succ]
theorem qnq (a b:List OpT):lenS (a++b)=lenS a+lenS b:=by simp[lenS]
theorem qqh {x:List Int} {m:Int} (hx:qt5 x) (h0:0<=m):1<=(opV x m).2.2.1/\(opV x m).2.2.1<=5:=by
 have m2:=qd5 (hx 2).1 (b:=5) (by decide);unfold opV;split
 ·split
  ·show 1<=1+_/\1+_<=5
   omega
  ·have m1:=qd5 (hx 1).1 (b:=m) (by omega);have m3:=qd5 (hx 2).1 (b:=m-(gtB x 1).tmod m) (by omega);have m4:=qd5 m3.1 (b:=5) (by decide)
   show 1<=1+_/\1+_<=5
   omega
 ·show 1<=1+_/\1+_<=5
  omega
theorem qmy {l:List (List Int)} {m:Int} (hl:∀ j,qt5 (gt a4S l j)) (h0:0<=m):∀ i,0<=lenS (szL l m i)/\lenS (szL l m i)<=5*i
 | 0=>by simp[szL,lenS]
 | i+1=>by
  have:=qmy hl h0 i;have h:=qqh (hl i) h0;rw[qrp,qnq];have e:lenS [opV (gt a4S l i) m]=(opV (gt a4S l i) m).2.2.1:=by simp[lenS]
  rw[e];omega
def qls (l:List (List Int)):Prop:=∀ j,qt5 (gt a4S l j)
def zbi (l:List (List Int)) (m:Int):Prop:=qls l/\preN m/\l.length<9223372036854775808
def ctSz:Ctr:=⟨[raS,iI],λ x=>zbi x.1.2 x.2.1,λ x=>[paV (szV x.1.2 x.2.1)],λ _=>[]⟩
abbrev PaQ (p:PaT):List SV->List (Nat × LB)->Prop:=λ rs _=>MtL (λ _=>none) [paV p] rs
section
variable (z m:Int) (l:List (List Int)) (hl:qls l) (hm0:0<=m) (hm1:m<16777216) (hn:l.length<9223372036854775808)
abbrev szBs (i:Nat) (d:List OpT) (o:Int):PS:=⟨[(1,.i m),(2,.ptr 2 0),(4,.ptr 4 0),(5,.ptr 5 0),(6,.i (i:Nat))],[(2,.var [.u z,.sl a4S l]),(4,.var [.bool false,.i 0,.i 0,.nils]),(5,.var [.bool false,.i m,.i o,.win true opS 32 0 d.length]),(32,.row 55 opS d)]⟩
include hl hm0 hm1 hn
theorem q57 (i:Nat) (hi:i=szK l):GD 18 Tryd.f18 (PaQ (szV l m)) (hd Tryd.f18 0) (szBs z m l i (szL l m i) (lenS (szL l m i))):=by
 have _:=And.intro hl (And.intro hm0 (And.intro hm1 hn));have hd:szL l m i=szO l m:=by rw[hi];rfl
 rw[hd];refine Good.frz (i:=32) (e:=opS) (et:=55) (xs:=szO l m) rfl (λ c hc=>?_) ?_
 ·have hc:c∈[0+(szO l m).length<=(szO l m).length]:=hc;rw[List.mem_singleton] at hc;subst hc;omega
 ·have e:GD 18 Tryd.f18 (PaQ (szV l m)) (Px.hd Tryd.f18 0) ⟨[(1,.i m),(2,.ptr 2 0),(4,.ptr 4 0),(5,.ptr 5 0),(6,.i (i:Nat))],[(2,.var [.u z,.sl a4S l]),(4,.var [.bool false,.i 0,.i 0,.nils]),(5,.var [.bool false,.i m,.i (lenS (szO l m)),.sl opS (winL opS 0 (szO l m).length (szO l m))])]⟩:=by
   refine qah cx54 (q9g z m (lenS (szO l m)) l (winL opS 0 (szO l m).length (szO l m)) i _ _) ?_;rw[winA];have fin:PaQ (szV l m) [SV.agg [SV.bool false,SV.int IntKind.i64 m,SV.int IntKind.i64 (lenS (szO l m)),SV.sl opS (szO l m)]] []:=⟨_,_,rfl,⟨_,rfl,_,_,rfl,rfl,_,_,rfl,rfl,_,_,rfl,rfl,_,_,rfl,.inl rfl,rfl⟩,rfl⟩;refine qaf (λ h=>qaf (λ h2=>?_) (λ h2=>fin)) (λ h=>⟨rfl,fin⟩);have h:=of_decide_eq_true h;have h2:=of_decide_eq_true h2;unfold szK at hi;omega
  exact e.only ⟨rfl,rfl,rfl,rfl,rfl,trivial⟩ ⟨rfl,rfl,rfl,trivial⟩
theorem qz5:∀ (k i:Nat),szK l-i=k->i<=szK l->GD 18 Tryd.f18 (PaQ (szV l m)) (hd Tryd.f18 0) (szBs z m l i (szL l m i) (lenS (szL l m i))):=by
 intro k
 induction k with
 | zero=>intro i hk hi;exact q57 z m l hl hm0 hm1 hn i (by omega)
 | succ k ih=>
  intro i hk hi;have nx:=ih (i+1) (by omega) (by omega);have hs:=qmy hl hm0 i;have hs2:=qmy hl hm0 (i+1);have h6:i<l.length/\i<6:=by unfold szK at hk hi;omega
  rw[qrp,qnq] at nx hs2;have e1:lenS [opV (gt a4S l i) m]=(opV (gt a4S l i) m).2.2.1:=by simp[lenS]
  rw[e1] at nx hs2;refine qah cx54 (q9h z m (lenS (szL l m i)) l (szL l m i) i _ _) ?_;rw[decide_eq_true (show (i:Int)<(l.length:Int) by omega),bc_t,decide_eq_true (show (i:Int)<(6:Int) by omega),bc_t,Int.toNat_natCast,IntWalk.i64_in ((i:Int)+1) (by omega),IntWalk.i64_in (lenS (szL l m i)+(opV (gt a4S l i) m).2.2.1) (by omega)];refine ⟨by omega,by omega,⟨hl i,hm0,hm1⟩,Nat.le_refl 1,rfl,rfl,?_,by decide,nx.only ⟨rfl,rfl,rfl,rfl,rfl,trivial⟩ ⟨rfl,rfl,by rw[List.length_append];rfl,rfl,trivial⟩⟩
  show (szL l m i).length+1<2 ^ 30
  rw[qv6];omega
theorem qz6:GD 18 Tryd.f18 (PaQ (szV l m)) (hd Tryd.f18 0) ⟨[(1,.i m),(2,.ptr 2 0),(4,.ptr 4 0),(5,.ptr 5 0),(6,.i 0)],[(2,.var [.u z,.sl a4S l]),(4,.var [.bool false,.i 0,.i 0,.nils]),(5,.var [.bool false,.i m,.i 0,.nils])]⟩:=by
 refine qah cx54 (q9i z m 0 l 0 _ _) ?_;refine qaf (λ h=>qaf (λ h2=>?_) (λ h2=>?_)) (λ h=>⟨rfl,?_⟩)
 ·have h:=of_decide_eq_true h;have nx:=qz5 z m l hl hm0 hm1 hn _ 1 rfl (by unfold szK;omega);have hs:=qqh (hl 0) hm0;have e0:szL l m 1=[opV (gt a4S l 0) m]:=rfl;have e1:lenS [opV (gt a4S l 0) m]=(opV (gt a4S l 0) m).2.2.1:=by simp[lenS]
  rw[e0,e1] at nx;rw[Int.toNat_natCast,IntWalk.i64_in (((0:Nat):Int)+1) (by omega),IntWalk.i64_in (0+(opV (gt a4S l 0) m).2.2.1) (by omega),Int.zero_add];exact ⟨by omega,by omega,⟨hl 0,hm0,hm1⟩,Nat.le_refl 1,(show 1<2 ^ 30 by decide),by decide,nx.only ⟨rfl,rfl,rfl,rfl,rfl,trivial⟩ ⟨rfl,rfl,rfl,rfl,trivial⟩⟩
 ·exact absurd (of_decide_eq_false h2) (by decide)
 ·have h:=of_decide_eq_false h;have e:szO l m=[]:=by
   have:l.length=0:=by omega
   unfold szO szK;rw[this];rfl
  show MtL _ [paV (szV l m)] _
  unfold szV;rw[e];exact ⟨_,_,rfl,⟨_,rfl,_,_,rfl,rfl,_,_,rfl,rfl,_,_,rfl,rfl,_,_,rfl,.inr ⟨rfl,rfl⟩,rfl⟩,rfl⟩
end
theorem qv3:Held Tryd.prog G0 18 ctSz:=
 Held.of cx54 (fn:=Tryd.f18) rfl rfl ⟨by decide,by decide⟩ λ ⟨⟨z,l⟩,m,_⟩ hp=>
  qah cx54 (qzo z m l _ _) ((qz6 z m l hp.1 hp.2.1.1 hp.2.1.2 hp.2.2).post λ rs blk hq=>QC.mt hq rfl)
def C30:CV:=[(18,.inl ctSz)]
theorem cx30:CxOK Tryd.prog tt G0 C30:=cx0.k qv3 (fn:=Tryd.f18)
set_option maxRecDepth 100000
theorem qzv (z:Int) (l:List (List Int)) (Q:QT) (R:RT):sA C30 Tryd.f17 Q R [.code (qad Tryd.f17)] (entry [raS] ((z,l),())) =
  ((13:Int)≠0/\ctSz.pre ((z,l),(i64.wrap z).tmod (13:Int),())/\Q [.agg [.bool (szV l ((i64.wrap z).tmod (13:Int))).1,.i (szV l ((i64.wrap z).tmod (13:Int))).2.1,.i (szV l ((i64.wrap z).tmod (13:Int))).2.2.1,.sl opS (szV l ((i64.wrap z).tmod (13:Int))).2.2.2]] [(1,.var [.u z,.sl (Sh.arr (4:Nat) uB) l]),(2,.var [.bool (szV l ((i64.wrap z).tmod (13:Int))).1,.i (szV l ((i64.wrap z).tmod (13:Int))).2.1,.i (szV l ((i64.wrap z).tmod (13:Int))).2.2.1,.sl opS (szV l ((i64.wrap z).tmod (13:Int))).2.2.2])]):=by kernel_rfl
def qqf (z:Int) (l:List (List Int)):Prop:=(0<=z/\z<256)/\qls l/\l.length<9223372036854775808
def ctM6:Ctr:=⟨[raS],λ x=>qqf x.1.1 x.1.2,λ x=>[paV (szV x.1.2 (x.1.1 % 13))],λ _=>[]⟩
theorem qx3 (z:Int) (l:List (List Int)) (hz:0<=z/\z<256) (hl:qls l) (hn:l.length<9223372036854775808):GD 17 Tryd.f17 (QC ctM6 ((z,l),())) [.code (qad Tryd.f17)] (entry [raS] ((z,l),())):=by
 refine qak cx30 _ _ _ ((qzv z l _ _).mpr ?_);have w:(IntKind.i64.wrap z).tmod 13=z % 13:=by rw[IntWalk.i64_in z (by omega),Int.tmod_eq_emod_of_nonneg hz.1]
 rw[w];exact ⟨by decide,⟨hl,(show preN (z % 13) from ⟨by omega,by omega⟩),hn⟩,QC.flat rfl rfl rfl⟩
theorem quf:Held Tryd.prog G0 17 ctM6:=
 Held.of cx30 (fn:=Tryd.f17) rfl rfl ⟨by decide,by decide⟩ λ ⟨⟨z,l⟩,_⟩ hp=>qx3 z l hp.1 hp.2.1 hp.2.2
theorem qyp (el:Nat->SyT):∀ n i k,k<n->(gen el n i)[k]?=some (el (i+k))
 | 0,_,_,h=>by omega
 | n+1,i,0,_=>by rw[gen];rfl
 | n+1,i,k+1,h=>by
  rw[gen,List.getElem?_cons_succ,qyp el n (i+1) k (by omega)]
  congr 2;omega
theorem qyo (el:Nat->SyT):∀ n i s,s∈gen el n i->∃ k,k<n/\s=el (i+k)
 | 0,_,_,h=>by cases h
 | n+1,i,s,h=>by
  rw[gen] at h;rcases List.mem_cons.1 h with h | h
  ·exact ⟨0,by omega,h⟩
  ·obtain ⟨k,h1,h2⟩:=qyo el n (i+1) s h;exact ⟨k+1,by omega,by rw[h2];congr 1;omega⟩
theorem qn1 (x:List Int) {k n:Int} (hk:k=2\/k=4) (hn:0<=n):((datO x k n).length:Int)=n:=by
 unfold datO;rw[if_pos hk,qn2];omega
theorem qs6 (x:List Int) {k n:Int} (hk:¬ (k=2\/k=4)):datO x k n=[]:=if_neg hk
theorem qxl {x:List Int} {m:Int} (hx:qt5 x) (h0:0<=m) (h1:m<16777216):isRB (opV x m) m=true:=by
 have hl:=qqh hx h0;have m0:=qd5 (hx 0).1 (b:=4) (by decide);have m2:=qd5 (hx 2).1 (b:=5) (by decide);have kR:kR (opV x m) m=true:=by
  unfold opV kR;split
  next hk=>
   split
   ·rw[if_neg (show ¬ ((4:Int)=1) by decide),if_neg (show ¬ ((4:Int)=2) by decide),if_neg (show ¬ ((4:Int)=3) by decide),if_pos (show (4:Int)=4 by decide)];simp only[rB,Bool.and_eq_true,decide_eq_true_eq];exact ⟨trivial,trivial,qn1 x (.inr rfl) (by omega)⟩
   next hm=>
    have m1:=qd5 (hx 1).1 (b:=m) (by omega);have m3:=qd5 (hx 2).1 (b:=m-(gtB x 1).tmod m) (by omega);have e5:=Int.tmod_eq_emod_of_nonneg (b:=5) m3.1;generalize (gtB x 1).tmod m=f at *;generalize (gtB x 2).tmod (m-f)=g at *;rw[e5];have wp:IntKind.i64.wrap (m-(1+g % 5))=m-(1+g % 5):=IntWalk.i64_in _ (by omega);rcases (show 1+(gtB x 0).tmod 4=1\/1+(gtB x 0).tmod 4=2 by omega) with e | e
    ·rw[e];simp only[rB,qbd,wp,Bool.and_eq_true,decide_eq_true_eq,if_true];rw[qs6 x (by decide)];exact ⟨⟨by omega,by omega⟩,trivial,rfl⟩
    ·rw[e];simp only[rB,qbd,wp,Bool.and_eq_true,decide_eq_true_eq,if_true];rw[if_neg (by decide)];simp only[Bool.and_eq_true,decide_eq_true_eq];exact ⟨⟨by omega,by omega⟩,trivial,qn1 x (.inl rfl) (by omega)⟩
  next hk=>
   rcases (show 1+(gtB x 0).tmod 4=3\/1+(gtB x 0).tmod 4=4 by omega) with e | e
   ·rw[e,qs6 x (by decide)];rfl
   ·rw[e];rw[if_neg (show ¬ ((4:Int)=1) by decide),if_neg (show ¬ ((4:Int)=2) by decide),if_neg (show ¬ ((4:Int)=3) by decide),if_pos (show (4:Int)=4 by decide)];simp only[rB,Bool.and_eq_true,decide_eq_true_eq];exact ⟨trivial,if_neg (by decide),qn1 x (.inr rfl) (by omega)⟩
 unfold isRB;rw[decide_eq_true (show 1<=(opV x m).2.2.1 by omega),decide_eq_true (show (opV x m).2.2.1<=65536 by omega),kR];rfl
theorem q4y {m N:Int}:∀ {l:List OpT} {left i:Int},(∀ x∈l,isRB x m=true)->lenS l=left->chkF m N l left i=(N,0)
 | [],left,i,_,h=>by
  have h:(0:Int)=left:=h;rw[chkF,if_neg (by omega)]
 | x::l,left,i,hr,h=>by
  have h1:=hr x (by simp);have h2:=qdy h1;have h3:=qh0 (l:=l) λ y hy=>hr y (by simp[hy])
  rw[qkz] at h;rw[chkF,if_neg (by rw[h1];decide),if_neg (by omega)];exact q4y (λ y hy=>hr y (by simp[hy])) (by omega)
theorem q82 {li:Bool} {m o:Int} {l:List OpT} (h0:0<=m) (h1:m<=65536) (ho:o<=65536) (hl:l.length<=4096) (hr:∀ x∈l,isRB x m=true) (hs:lenS l=o):chkV (li,m,o,l)=((l.length:Int),(0:Int)):=by
 have:=qh0 hr;unfold chkV;rw[if_pos ⟨by simp[szB];omega,by simp[szB];omega,hl⟩];exact q4y hr hs
theorem qv7 {m:Int}:∀ {l:List OpT},(∀ x∈l,isRB x m=true)->∀ s∈symF l,∃ x∈l,∃ k:Nat,(k:Int)<x.2.2.1/\s=elO x.1.toNat x k
 | [],_,s,h=>by cases h
 | x::l,hr,s,h=>by
  rw[symF] at h;rcases List.mem_append.1 h with h | h
  ·obtain ⟨k,h1,h2⟩:=qyo _ _ _ _ h;have:=(qfq (hr x (by simp))).2;exact ⟨x,by simp,k,by omega,by rw[h2,Nat.zero_add]⟩
  ·obtain ⟨y,hy,k,h1,h2⟩:=qv7 (λ y hy=>hr y (by simp[hy])) s h;exact ⟨y,by simp[hy],k,h1,h2⟩
theorem qye {x:OpT} {m:Int} (h:isRB x m=true) (hm:0<=m/\m<16777216) (hk:x.1=1\/x.1=2):0<=x.2.1/\x.2.1+x.2.2.1<=m:=by
 unfold isRB kR at h;simp only[Bool.and_eq_true,decide_eq_true_eq] at h;obtain ⟨h1,h2,h3⟩:=h;have w:IntKind.i64.wrap (m-x.2.2.1)=m-x.2.2.1:=IntWalk.i64_in _ (by omega);rcases hk with e | e
 ·rw[if_pos e] at h3;simp only[rB,qbd,w,Bool.and_eq_true,decide_eq_true_eq] at h3;omega
 ·rw[if_neg (by omega),if_pos e] at h3;simp only[rB,qbd,w,Bool.and_eq_true,decide_eq_true_eq] at h3;omega
theorem qv5 {l:List (List Int)} {m:Int} (hl:qls l) (h0:0<=m) (h1:m<=65536):∀ x∈szO l m,isRB x m=true:=λ x hx=>by
 unfold szO szL at hx;obtain ⟨j,_,rfl⟩:=List.mem_map.1 hx;exact qxl (hl j) h0 (by omega)
theorem q56 (l:List (List Int)) (m:Int):(szO l m).length<=6:=by
 unfold szO szK;rw[qv6];omega
theorem qv4 {l:List (List Int)} {m:Int} (hl:qls l) (h0:0<=m):0<=lenS (szO l m)/\lenS (szO l m)<=30:=by
 have:=qmy hl h0 (szK l);have h6:szK l<=6:=by unfold szK;omega
 unfold szO;omega
theorem q55 {l:List (List Int)} {m:Int} (hl:qls l) (h0:0<=m) (h1:m<=65536):chkV (szV l m)=(((szO l m).length:Int),(0:Int)):=by
 have h30:=qv4 hl h0;have h6:=q56 l m;exact q82 h0 h1 (by omega) (by omega) (qv5 hl h0 h1) rfl
theorem qrr:∀ (a b:List OpT),symF (a++b)=symF a++symF b
 | [],b=>rfl
 | x::a,b=>by rw[List.cons_append,symF,symF,qrr a b,List.append_assoc]
theorem q6u {m:Int} {s:SyT} (h:sOK m s=true) (ho:s.1=true):0<=s.2.1/\s.2.1<m:=by
 unfold sOK at h;rw[if_pos ho] at h;simpa using h
theorem sOK_f {m:Int} {s:SyT} (h:sOK m s=true) (ho:s.1=false):s.2.1=0:=by
 unfold sOK at h;rw[if_neg (by rw[ho];decide)] at h;simpa using h
section
variable {l:List SyT} {m:Int} (hr:∀ s∈l,sOK m s=true) (hm:m<16777216)
include hr hm
end
def zch:Ctr:=⟨[.sl syS],λ x=>List.length x.1=0,λ x=>[.sl opS (opsL x.1)],λ _=>[]⟩
def ctOpsA:Ctr:=⟨[.sl syS],λ x=>List.length x.1<16777216,λ x=>[.sl opS (opsL x.1)],λ _=>[]⟩
set_option maxRecDepth 100000
theorem qzr (k f n b m:Int) (d:List Int) (Q:QT) (R:RT):sA [(58,.inl ctIn)] Tryd.f59 Q R [.code (qad Tryd.f59)] (entry [opS,iI] ((k,f,n,b,d),m,())) =
  (ctIn.pre (n,(1:Int),(65536:Int),())/\bc (!(decide ((1:Int)<=n)&&decide (n<=65536))) (Q [.bool false] [(2,.var [.i k,.i f,.i n,.u b,.sl uB d])]) (ctIn.pre (f,(0:Int),IntKind.i64.wrap (m-n),())/\bc (decide (k=(1:Int))) (bc (decide ((0:Int)<=f)&&decide (f<=IntKind.i64.wrap (m-n))) (bc (decide (b=(0:Int))) (Q [.bool (decide ((d.length:Int)=(0:Int)))] [(2,.var [.i k,.i f,.i n,.u b,.sl uB d])]) (false=false/\Q [.bool false] [(2,.var [.i k,.i f,.i n,.u b,.sl uB d])])) (false=false/\false=false/\Q [.bool false] [(2,.var [.i k,.i f,.i n,.u b,.sl uB d])])) (bc (decide (k=(2:Int))) (bc (decide ((0:Int)<=f)&&decide (f<=IntKind.i64.wrap (m-n))) (bc (decide (b=(0:Int))) (Q [.bool (decide ((d.length:Int)=n))] [(2,.var [.i k,.i f,.i n,.u b,.sl uB d])]) (false=false/\Q [.bool false] [(2,.var [.i k,.i f,.i n,.u b,.sl uB d])])) (false=false/\false=false/\Q [.bool false] [(2,.var [.i k,.i f,.i n,.u b,.sl uB d])])) (bc (decide (k=(3:Int))) (bc (decide (f=(0:Int))) (Q [.bool (decide ((d.length:Int)=(0:Int)))] [(2,.var [.i k,.i f,.i n,.u b,.sl uB d])]) (false=false/\Q [.bool false] [(2,.var [.i k,.i f,.i n,.u b,.sl uB d])])) (bc (decide (k=(4:Int))) (bc (decide (f=(0:Int))) (bc (decide (b=(0:Int))) (Q [.bool (decide ((d.length:Int)=n))] [(2,.var [.i k,.i f,.i n,.u b,.sl uB d])]) (false=false/\Q [.bool false] [(2,.var [.i k,.i f,.i n,.u b,.sl uB d])])) (false=false/\false=false/\Q [.bool false] [(2,.var [.i k,.i f,.i n,.u b,.sl uB d])])) (Q [.bool false] [(2,.var [.i k,.i f,.i n,.u b,.sl uB d])])))))):=by kernel_rfl
theorem q92 (l:List SyT) (m:Int) (Q:QT) (R:RT):sA ((65,.inl ctOpsA)::(64,.inl ctAre)::C1) Tryd.f49 Q R [.code (qad Tryd.f49)] (entry [.sl syS,iI] (l,m,())) =
  (ctSize.pre (m,())/\bc (!(decide ((0:iI.D)<=m)&&decide (m<=(65536:iI.D)))) (true=true/\true=true/\Q [.agg [.bool false,.i 0,.i 0,.nils],.i 60] [(4,.var [.bool false,.i 0,.i 0,.nils])]) (ctSize.pre ((l.length:Int),())/\bc (bif false then true else !(decide ((0:iI.D)<=(l.length:Int))&&decide ((l.length:Int)<=(65536:iI.D)))) (true=true/\Q [.agg [.bool false,.i 0,.i 0,.nils],.i 60] [(4,.var [.bool false,.i 0,.i 0,.nils])]) (ctAre.pre (l,m,())/\bc (bif false then true else !l.all (sOK m)) (Q [.agg [.bool false,.i 0,.i 0,.nils],.i 60] [(4,.var [.bool false,.i 0,.i 0,.nils])]) (ctOpsA.pre (l,())/\bc (decide ((4096:Int)<(↑(opsL l).length:Int))) (Q [.agg [.bool false,.i 0,.i 0,.nils],.i 2] [(4,.var [.bool false,.i 0,.i 0,.nils])]) (Q [.agg [.bool false,.i m,.i (l.length:Int),.sl opS (opsL l)],.i 0] [(4,.var [.bool false,.i m,.i (l.length:Int),.sl opS (opsL l)])]))))):=by kernel_rfl
def ctRop:Ctr:=⟨[opS,iI],λ _=>True,λ x=>[.bool (isRB x.1 x.2.1)],λ _=>[]⟩
theorem q6w (k f n b m:Int) (d:List Int):sA [(58,.inl ctIn)] Tryd.f59 (QC ctRop ((k,f,n,b,d),m,())) (Px.Good Tryd.prog tt G0 59 Tryd.f59.ntmps Tryd.f59.results.toList (QC ctRop ((k,f,n,b,d),m,()))) [.code (qad Tryd.f59)] (entry [opS,iI] ((k,f,n,b,d),m,())):=by
 have fin:∀ (v:Bool) (blk:List (Nat × LB)),isRB (k,f,n,b,d) m=v->QC ctRop ((k,f,n,b,d),m,()) [SV.bool v] blk:=λ v blk h=>QC.flat (by show [SV.bool (isRB _ _)]=_;rw[h]) rfl rfl
 refine (qzr k f n b m d _ _).mpr ⟨trivial,qaf (λ h=>?_) (λ h=>?_)⟩
 ·have h:(!(decide (1<=n)&&decide (n<=65536)))=true:=h;refine fin _ _ ?_
  show (decide (1<=n)&&(decide (n<=65536)&&kR _ m))=false
  rw[Bool.not_eq_true'] at h;rw[<- Bool.and_assoc,h];rfl
 ·have h:(!(decide (1<=n)&&decide (n<=65536)))=false:=h;rw[Bool.not_eq_false'] at h;have hk:isRB (k,f,n,b,d) m=kR (k,f,n,b,d) m:=by
   show (decide (1<=n)&&(decide (n<=65536)&&kR _ m))=_
   rw[<- Bool.and_assoc,h,Bool.true_and]
  refine ⟨trivial,qaf (λ h1=>?_) (λ h1=>qaf (λ h2=>?_) (λ h2=>qaf (λ h3=>?_) (λ h3=>qaf (λ h4=>?_) (λ h4=>?_))))⟩
  ·have h1:k=1:=of_decide_eq_true h1;have e:kR (k,f,n,b,d) m=(qbd f n m&&(decide (b=0)&&decide ((d.length:Int)=0))):=by subst h1;rfl
   rw[e] at hk;refine qaf (λ a=>qaf (λ c=>?_) (λ c=>⟨rfl,?_⟩)) (λ a=>⟨rfl,rfl,?_⟩)
   ·exact fin _ _ (by rw[hk,show qbd f n m=true from a,c];rfl)
   ·exact fin _ _ (by rw[hk,show qbd f n m=true from a,c];rfl)
   ·exact fin _ _ (by rw[hk,show qbd f n m=false from a];rfl)
  ·have h2:k=2:=of_decide_eq_true h2;have e:kR (k,f,n,b,d) m=(qbd f n m&&(decide (b=0)&&decide ((d.length:Int)=n))):=by subst h2;rfl
   rw[e] at hk;refine qaf (λ a=>qaf (λ c=>?_) (λ c=>⟨rfl,?_⟩)) (λ a=>⟨rfl,rfl,?_⟩)
   ·exact fin _ _ (by rw[hk,show qbd f n m=true from a,c];rfl)
   ·exact fin _ _ (by rw[hk,show qbd f n m=true from a,c];rfl)
   ·exact fin _ _ (by rw[hk,show qbd f n m=false from a];rfl)
  ·have h3:k=3:=of_decide_eq_true h3;have e:kR (k,f,n,b,d) m=(decide (f=0)&&decide ((d.length:Int)=0)):=by subst h3;rfl
   rw[e] at hk;refine qaf (λ a=>?_) (λ a=>⟨rfl,?_⟩)
   ·exact fin _ _ (by rw[hk,a];rfl)
   ·exact fin _ _ (by rw[hk,a];rfl)
  ·have h4:k=4:=of_decide_eq_true h4;have e:kR (k,f,n,b,d) m=(decide (f=0)&&(decide (b=0)&&decide ((d.length:Int)=n))):=by subst h4;rfl
   rw[e] at hk;refine qaf (λ a=>qaf (λ c=>?_) (λ c=>⟨rfl,?_⟩)) (λ a=>⟨rfl,rfl,?_⟩)
   ·exact fin _ _ (by rw[hk,a,c];rfl)
   ·exact fin _ _ (by rw[hk,a,c];rfl)
   ·exact fin _ _ (by rw[hk,a];rfl)
  ·have h1:¬ k=1:=of_decide_eq_false h1;have h2:¬ k=2:=of_decide_eq_false h2;have h3:¬ k=3:=of_decide_eq_false h3;have h4:¬ k=4:=of_decide_eq_false h4;refine fin _ _ ?_;rw[hk]
   show (if k=1 then _ else if k=2 then _ else if k=3 then _ else if k=4 then _ else false)=false
   rw[if_neg h1,if_neg h2,if_neg h3,if_neg h4]
theorem q0u:Held Tryd.prog G0 59 ctRop:=
 Held.run (cx0.k qqs (fn:=Tryd.f58)) (fn:=Tryd.f59) rfl rfl ⟨by decide,by decide⟩ λ ⟨⟨k,f,n,b,d⟩,m,_⟩ _=>q6w k f n b m d
theorem qxj:Held Tryd.prog G0 65 zch:=by
 refine Held.run dxO (fn:=Tryd.f65) rfl rfl ⟨by decide,by decide⟩ ?_;rintro ⟨l,⟨⟩⟩ hp;replace hp:l.length=0:=hp;have e:l=[]:=List.eq_nil_of_length_eq_zero hp;subst e;refine (q3w [] _ _).mpr ?_;refine Good.only (S':=⟨[(0,.sl syS []),(3,.nils),(4,.i ((0:Nat):Int)),(5,.i ((1:Nat):Int))],[]⟩) (qah dxO (qvj [] 0 1 _ _) ?_) ⟨rfl,rfl,rfl,rfl,trivial⟩ trivial;rw[decide_eq_false (by decide),bc_f];exact QC.mt ⟨_,_,rfl,.inr ⟨rfl,rfl⟩,rfl⟩ rfl
theorem qxi:Held Tryd.prog G0 65 ctOpsA:=λ x hp=>by
 by_cases h:List.length x.1=0
 ·exact qxj x h
 ·exact q1f x ⟨Nat.pos_of_ne_zero h,hp⟩
def ctOfA:Ctr:=⟨[.sl syS,iI],λ x=>List.length x.1<16777216,λ x=>[paV (ofV x.1 x.2.1).1,.i (ofV x.1 x.2.1).2],λ _=>[]⟩
theorem q1n:Held Tryd.prog G0 49 ctOfA:=by
 refine Held.run ((cx1.k q27 (fn:=Tryd.f64)).k qxi (fn:=Tryd.f65)) (fn:=Tryd.f49) rfl rfl ⟨by decide,by decide⟩ ?_;rintro ⟨l,m,⟨⟩⟩ hp;replace hp:l.length<16777216:=hp;have bad:¬ (szB m=true/\szB l.length=true/\l.all (sOK m)=true)->ofV l m=((false,0,0,[]),60):=λ q=>if_neg q
 refine (q92 l m _ _).mpr ⟨trivial,qaf (λ h=>⟨rfl,rfl,?_⟩) (λ h=>⟨trivial,qaf (λ h2=>⟨rfl,?_⟩) (λ h2=>⟨(show l.length<1099511627776 by omega),qaf (λ h3=>?_) (λ h3=>⟨hp,qaf (λ h4=>?_) (λ h4=>?_)⟩)⟩)⟩)⟩
 ·have h:(!szB m)=true:=h;have hv:=bad λ q=>by rw[q.1] at h;cases h
  exact QC.mt (by show MtL _ [paV (ofV l m).1,.i (ofV l m).2] _;rw[hv];exact ⟨_,_,rfl,⟨_,rfl,_,_,rfl,rfl,_,_,rfl,rfl,_,_,rfl,rfl,_,_,rfl,.inr ⟨rfl,rfl⟩,rfl⟩,_,_,rfl,rfl,rfl⟩) rfl
 ·have h2:(!szB l.length)=true:=h2;have hv:=bad λ q=>by rw[q.2.1] at h2;cases h2
  exact QC.mt (by show MtL _ [paV (ofV l m).1,.i (ofV l m).2] _;rw[hv];exact ⟨_,_,rfl,⟨_,rfl,_,_,rfl,rfl,_,_,rfl,rfl,_,_,rfl,rfl,_,_,rfl,.inr ⟨rfl,rfl⟩,rfl⟩,_,_,rfl,rfl,rfl⟩) rfl
 ·have h3:(!l.all (sOK m))=true:=h3;have hv:=bad λ q=>by rw[q.2.2] at h3;cases h3
  exact QC.mt (by show MtL _ [paV (ofV l m).1,.i (ofV l m).2] _;rw[hv];exact ⟨_,_,rfl,⟨_,rfl,_,_,rfl,rfl,_,_,rfl,rfl,_,_,rfl,rfl,_,_,rfl,.inr ⟨rfl,rfl⟩,rfl⟩,_,_,rfl,rfl,rfl⟩) rfl
 all_goals
  have h:(!szB m)=false:=h;have h2:(!szB l.length)=false:=h2;have h3:(!l.all (sOK m))=false:=h3;have hg:szB m=true/\szB l.length=true/\l.all (sOK m)=true:=⟨by simpa using h,by simpa using h2,by simpa using h3⟩
 ·have h4:(4096:Int)<((opsL l).length:Int):=of_decide_eq_true h4;have hv:ofV l m=((false,0,0,[]),2):=by unfold ofV;rw[if_pos hg,if_pos (by omega)]
  exact QC.mt (by show MtL _ [paV (ofV l m).1,.i (ofV l m).2] _;rw[hv];exact ⟨_,_,rfl,⟨_,rfl,_,_,rfl,rfl,_,_,rfl,rfl,_,_,rfl,rfl,_,_,rfl,.inr ⟨rfl,rfl⟩,rfl⟩,_,_,rfl,rfl,rfl⟩) rfl
 ·have h4:¬ (4096:Int)<((opsL l).length:Int):=of_decide_eq_false h4;have hv:ofV l m=(((false,m,(l.length:Int),opsL l):PaT),(0:Int)):=by unfold ofV;rw[if_pos hg,if_neg (by omega)]
  exact QC.flat (by show [paV (ofV l m).1,.i (ofV l m).2]=_;rw[hv];rfl) rfl rfl
def CRc:CV:=[(59,.inl ctRop),(58,.inl ctIn)]
theorem cxRc:CxOK Tryd.prog tt G0 CRc:=(cx0.k qqs (fn:=Tryd.f58)).k q0u (fn:=Tryd.f59)
set_option maxRecDepth 100000
theorem q5h (li:Bool) (m o:Int) (l:List OpT) (Q:QT) (R:RT):sA CRc Tryd.f43 Q (λ it S=>R it (qaj [1,4,5] [1] S)) [.code (qad Tryd.f43)] (entry [paS] ((li,m,o,l),())) =
  (ctIn.pre (m,(0:Int),(65536:Int),())/\bc (!(decide ((0:Int)<=m)&&decide (m<=65536))) (true=true/\true=true/\Q [.i (-1:Int),.i 60] [(1,.var [.bool li,.i m,.i o,.sl opS l])]) (ctIn.pre (o,(0:Int),(65536:Int),())/\bc (bif false then true else !(decide ((0:Int)<=o)&&decide (o<=65536))) (true=true/\Q [.i (-1:Int),.i 60] [(1,.var [.bool li,.i m,.i o,.sl opS l])]) (bc (bif false then true else decide ((4096:Int)<(l.length:Int))) (Q [.i (-1:Int),.i 60] [(1,.var [.bool li,.i m,.i o,.sl opS l])]) (R (hd Tryd.f43 0) { env:=[(1,.ptr 1 0),(4,.i 0),(5,.i 0)],blk:=[(1,.var [.bool li,.i m,.i o,.sl opS l])] })))):=by kernel_rfl
theorem qrk (li:Bool) (m o s:Int) (l:List OpT) (i:Nat) (Q:QT) (R:RT):sA CRc Tryd.f43 Q (λ it S=>R it (qaj [1,4,5] [1] S)) (hd Tryd.f43 0) ⟨[(1,.ptr 1 0),(4,.i s),(5,.i (i:Nat))],[(1,.var [.bool li,.i m,.i o,.sl opS l])]⟩ =
  (bc (decide ((i:Int)<(l.length:Int))) ((0:Int)<=(i:Int)/\(i:Int)<(l.length:Int)/\ctRop.pre ((gtO l (i:Int).toNat),m,())/\bc (!isRB (gtO l (i:Int).toNat) m) (true=true/\Q [.i (i:Int),.i 60] [(1,.var [.bool li,.i m,.i o,.sl opS l])]) ((0:Int)<=(i:Int)/\(i:Int)<(l.length:Int)/\bc (bif false then true else decide (o<IntKind.i64.wrap (s+(gtO l (i:Int).toNat).2.2.1))) (Q [.i (i:Int),.i 60] [(1,.var [.bool li,.i m,.i o,.sl opS l])]) ((0:Int)<=(i:Int)/\(i:Int)<(l.length:Int)/\R (hd Tryd.f43 0) { env:=[(1,.ptr 1 0),(4,.i (IntKind.i64.wrap (s+(gtO l (i:Int).toNat).2.2.1))),(5,.i (IntKind.i64.wrap ((i:Int)+1)))],blk:=[(1,.var [.bool li,.i m,.i o,.sl opS l])] }))) (bc (decide (s≠o)) (Q [.i (l.length:Int),.i 60] [(1,.var [.bool li,.i m,.i o,.sl opS l])]) (Q [.i (l.length:Int),.i 0] [(1,.var [.bool li,.i m,.i o,.sl opS l])]))):=by kernel_rfl
theorem qzq (f:Bool) (a b n:Int) (Q:QT) (R:RT):sA [(58,.inl ctIn)] Tryd.f53 Q R [.code (qad Tryd.f53)] (entry [syS,iI] ((f,a,b),n,())) =
  (bc f (ctIn.pre (a,(0:Int),IntKind.i64.wrap (n-1),())/\Q [.bool (decide ((0:Int)<=a)&&decide (a<=IntKind.i64.wrap (n-1)))] [(2,.var [.bool f,.i a,.u b])]) (Q [.bool (decide (a=(0:Int)))] [(2,.var [.bool f,.i a,.u b])])):=by kernel_rfl
theorem qzs (li:Bool) (m o:Int) (l:List OpT) (Q:QT) (R:RT):sA [(43,.inl ctChk)] Tryd.f26 Q R [.code (qad Tryd.f26)] (entry [paS] ((li,m,o,l),())) =
  (ctChk.pre ((li,m,o,l),())/\Q [.bool (decide ((chkV (li,m,o,l)).2=(0:Int)))] [(1,.var [.bool li,.i m,.i o,.sl opS l])]):=by kernel_rfl
abbrev ChQ (a b:Int):List SV->List (Nat × LB)->Prop:=λ rs _=>rs=[.i a,.i b]
theorem qw4 (li:Bool) (m o:Int) (l:List OpT) (ho:0<=o/\o<=65536) (hl:l.length<=4096):∀ (k i:Nat) (s:Int),l.length-i=k->i<=l.length->0<=s->s<=o ->
  GD 43 Tryd.f43 (ChQ (chkF m l.length (l.drop i) (o-s) i).1 (chkF m l.length (l.drop i) (o-s) i).2) (hd Tryd.f43 0) ⟨[(1,.ptr 1 0),(4,.i s),(5,.i (i:Nat))],[(1,.var [.bool li,.i m,.i o,.sl opS l])]⟩:=by
 intro k
 induction k with
 | zero=>
  intro i s hk hi h0 hs;have hi:i=l.length:=by omega
  subst hi;refine qah cxRc (qrk li m o s l _ _ _) ?_;rw[decide_eq_false (by omega),bc_f,List.drop_length];simp only[chkF];refine qaf (λ h=>?_) (λ h=>?_)
  ·have h:s≠o:=of_decide_eq_true h;rw[if_pos (by omega)]
  ·have h:¬ s≠o:=of_decide_eq_false h;rw[if_neg (by omega)]
 | succ k ih=>
  intro i s hk hi h0 hs;have hil:i<l.length:=by omega
  refine qah cxRc (qrk li m o s l i _ _) ?_;rw[decide_eq_true (show (i:Int)<(l.length:Int) by omega),bc_t,Int.toNat_natCast,qgs hil,IntWalk.i64_in ((i:Int)+1) (by omega),qlf hil];simp only[chkF];refine ⟨by omega,by omega,trivial,qaf (λ h=>⟨trivial,?_⟩) (λ h=>⟨by omega,by omega,?_⟩)⟩
  ·have h:isRB l[i] m=false:=by simpa using h
   rw[if_pos h]
  ·have h:isRB l[i] m=true:=by simpa using h
   have hx:=qdy h;have w:IntKind.i64.wrap (s+l[i].2.2.1)=s+l[i].2.2.1:=IntWalk.i64_in _ (by omega);have h2:¬ isRB l[i] m=false:=by rw[h];decide
   rw[w,if_neg h2];refine qaf (λ h3=>?_) (λ h3=>?_)
   ·have h3:o<s+l[i].2.2.1:=of_decide_eq_true h3;rw[if_pos (by omega)]
   ·have h3:¬ o<s+l[i].2.2.1:=of_decide_eq_false h3;have nx:=ih (i+1) (s+l[i].2.2.1) (by omega) (by omega) (by omega) (by omega);have e:o-(s+l[i].2.2.1)=o-s-l[i].2.2.1:=by omega
    rw[e] at nx;rw[if_neg (by omega)];exact ⟨by omega,by omega,nx.only ⟨rfl,rfl,rfl,trivial⟩ ⟨rfl,trivial⟩⟩
theorem q02 (li:Bool) (m o:Int) (l:List OpT):GD 43 Tryd.f43 (ChQ (chkV (li,m,o,l)).1 (chkV (li,m,o,l)).2) [.code (qad Tryd.f43)] (entry [paS] ((li,m,o,l),())):=by
 have bad:¬ (szB m=true/\szB o=true/\l.length<=4096)->chkV (li,m,o,l)=(-1,60):=λ q=>if_neg q
 refine qah cxRc (q5h li m o l _ _) ⟨trivial,qaf (λ h=>⟨rfl,rfl,?_⟩) (λ h=>⟨trivial,qaf (λ h2=>⟨rfl,?_⟩) (λ h2=>qaf (λ h3=>?_) (λ h3=>?_))⟩)⟩
 ·have h:(!szB m)=true:=h;rw[bad λ q=>by rw[q.1] at h;cases h]
 ·have h2:(!szB o)=true:=h2;rw[bad λ q=>by rw[q.2.1] at h2;cases h2]
 ·have h3:(4096:Int)<(l.length:Int):=of_decide_eq_true h3;rw[bad λ q=>by omega]
 ·have h:(!szB m)=false:=h;have h2:(!szB o)=false:=h2;have h3:¬ (4096:Int)<(l.length:Int):=of_decide_eq_false h3;have hg:szB m=true/\szB o=true/\l.length<=4096:=⟨by simpa using h,by simpa using h2,by omega⟩;have ho:0<=o/\o<=65536:=by
   have:=hg.2.1;simpa [szB] using this
  have hv:chkV (li,m,o,l)=chkF m l.length (l.drop 0) (o-0) ((0:Nat):Int):=by
   unfold chkV;rw[if_pos hg,Int.sub_zero];rfl
  rw[hv];exact (qw4 li m o l ho hg.2.2 _ 0 0 rfl (by omega) (by omega) ho.1).only ⟨rfl,rfl,rfl,trivial⟩ ⟨rfl,trivial⟩
theorem qw5:Held Tryd.prog G0 43 ctChk:=
 Held.of cxRc (fn:=Tryd.f43) rfl rfl ⟨by decide,by decide⟩ λ ⟨⟨li,m,o,l⟩,_⟩ _=>
  (q02 li m o l).post λ rs blk hq=>QC.flat (by rw[hq];rfl) rfl (by rw[hq];rfl)
def ctRi:Ctr:=⟨[paS],λ _=>True,λ x=>[.bool (decide ((chkV x.1).2=0))],λ _=>[]⟩
theorem qin:Held Tryd.prog G0 26 ctRi:=
 Held.run (cx0.k qw5 (fn:=Tryd.f43)) (fn:=Tryd.f26) rfl rfl ⟨by decide,by decide⟩ λ ⟨⟨li,m,o,l⟩,_⟩ _=>
  (qzs li m o l _ _).mpr ⟨trivial,QC.flat rfl rfl rfl⟩
def ctRsy:Ctr:=⟨[syS,iI],λ x=>preN x.2.1,λ x=>[.bool (sOK x.2.1 x.1)],λ _=>[]⟩
theorem q0m (f:Bool) (a b n:Int) (h0:0<=n) (h1:n<16777216):sA [(58,.inl ctIn)] Tryd.f53 (QC ctRsy ((f,a,b),n,())) (Px.Good Tryd.prog tt G0 53 Tryd.f53.ntmps Tryd.f53.results.toList (QC ctRsy ((f,a,b),n,()))) [.code (qad Tryd.f53)] (entry [syS,iI] ((f,a,b),n,())):=by
 have w:IntKind.i64.wrap (n-1)=n-1:=IntWalk.i64_in _ (by omega);refine (qzq f a b n _ _).mpr ?_;rw[w];refine qaf (λ h=>⟨trivial,?_⟩) (λ h=>?_)
 ·have h:f=true:=h;subst h;refine QC.flat ?_ rfl rfl
  show [SV.bool (decide (0<=a)&&decide (a<n))]=_
  rw[decide_eq_decide.2 (show a<n↔a<=n-1 by omega)]
 ·have h:f=false:=h;subst h;exact QC.flat rfl rfl rfl
theorem qwt:Held Tryd.prog G0 53 ctRsy:=
 Held.run (cx0.k qqs (fn:=Tryd.f58)) (fn:=Tryd.f53) rfl rfl ⟨by decide,by decide⟩ λ ⟨⟨f,a,b⟩,n,_⟩ hp=>q0m f a b n hp.1 hp.2
abbrev LiT:Type:=Int × Int × Int × Int
def zLi:LiT:=(0,0,0,0)
def canB (k:Int) (s:SyT):Bool:=if k=1 then s.1&&decide (s.2.2=0) else if k=2 then s.1 else !s.1
def goK (k:Int) (s t:SyT):Bool:=if k=1\/k=2 then decide (t.2.1=IntKind.i64.wrap (s.2.1+1)) else if k=3 then decide (t.2.2=s.2.2) else true
def hdC (k:Int):Int:=if k=4 then 2 else 4
def eaC (k:Int):Int:=if k=2\/k=4 then 1 else 0
def betB (a b:LiT):Bool:=
 if a.2.1=0\/b.2.1=0 then decide (0<a.2.1)&&decide (b.2.1=0)
 else if a.2.2.1≠b.2.2.1 then decide (a.2.2.1<b.2.2.1)
 else if a.2.2.2≠b.2.2.2 then decide (a.2.2.2<b.2.2.2)
 else if a.1≠b.1 then decide (a.1<b.1)
 else decide (b.2.1<a.2.1)
def oneF (k:Int) (w:Int × Int):LiT:=(k,1,w.1+hdC k+eaC k,w.2+1)
def qku (k:Int) (g:LiT):LiT:=(k,g.2.1+1,g.2.2.1+eaC k,g.2.2.2)
def begF (k:Int) (s t:SyT) (w:Int × Int) (g:LiT):LiT:=
 if canB k s=false then zLi
 else if g.2.1=0\/goK k s t=false then oneF k w
 else if betB (oneF k w) (qku k g)=true then oneF k w else qku k g
def upd (b g:LiT):LiT:=if betB g b=true then g else b
def zbq (g:Int->LiT):LiT:=upd (upd (upd (upd zLi (g 1)) (g 2)) (g 3)) (g 4)
def tb:List SyT->(Int->LiT) × LiT
 | []=>(λ _=>zLi,zLi)
 | s::r=>(λ k=>begF k s (gtY r 0) (tb r).2.2.2 ((tb r).1 k),zbq λ k=>begF k s (gtY r 0) (tb r).2.2.2 ((tb r).1 k))
def bst (l:List SyT):LiT:=(tb l).2
def beg (l:List SyT) (k:Int):LiT:=(tb l).1 k
theorem qte (s:SyT) (r:List SyT) (k:Int):beg (s::r) k=begF k s (gtY r 0) (bst r).2.2 (beg r k):=rfl
theorem q21 (s:SyT) (r:List SyT):bst (s::r)=zbq λ k=>beg (s::r) k:=rfl
def fitN (k:Int):List SyT->Nat
 | []=>0
 | s::r=>if canB k s=true then (if goK k s (gtY r 0)=true then 1+fitN k r else 1) else 0
theorem qcy (k:Int):∀ l,fitN k l<=l.length
 | []=>Nat.le_refl _
 | s::r=>by
  have:=qcy k r;rw[fitN,List.length_cons];split
  ·split <;> omega
  ·omega
def keyT (b:LiT):Int:=((b.2.2.1*4294967296+b.2.2.2)*8+b.1)*1048576-b.2.1
def wB (b:LiT):Int:=b.2.2.1*4294967296+b.2.2.2
def keyL (k:Int) (n:Nat) (l:List SyT):Int:=(((hdC k+eaC k*(n:Int))*4294967296+1+wB (bst (l.drop n)))*8+k)*1048576-(n:Int)
def boL (m:Nat) (b:LiT):Prop:=0<=b.2.2.1/\b.2.2.1<=5*(m:Int)/\0<=b.2.2.2/\b.2.2.2<=(m:Int)
def okB (k:Int) (l:List SyT) (g:LiT):Prop:=
 (fitN k l=0/\g=zLi)\/(g.1=k/\∃ n:Nat,g.2.1=(n:Int)/\1<=n/\n<=fitN k l/\keyT g=keyL k n l/\(∀ m:Nat,1<=m->m<=fitN k l->keyL k n l<=keyL k m l)/\boL l.length g)
abbrev kOK (k:Int):Prop:=1<=k/\k<=4
def okL (l:List SyT) (b:LiT):Prop:=
 (l=[]/\b=zLi)\/(l≠[]/\kOK b.1/\∃ n:Nat,b.2.1=(n:Int)/\1<=n/\n<=fitN b.1 l/\keyT b=keyL b.1 n l/\(∀ k,kOK k->∀ m:Nat,1<=m->m<=fitN k l->keyL b.1 n l<=keyL k m l)/\boL l.length b)
theorem qtd {a b:LiT} (ha:kOK a.1) (hb:kOK b.1) (a1:1<=a.2.1/\a.2.1<1048576) (b1:1<=b.2.1/\b.2.1<1048576) (a2:0<=a.2.2.2/\a.2.2.2<4294967296) (b2:0<=b.2.2.2/\b.2.2.2<4294967296) :
  (betB a b=true↔keyT a<keyT b):=by
 obtain ⟨k,n,c,o⟩:=a;obtain ⟨k',n',c',o'⟩:=b;simp only[kOK] at *;unfold betB keyT;simp only;rw[if_neg (by omega)];by_cases h1:c=c'
 ·rw[if_neg (by simpa using h1)];by_cases h2:o=o'
  ·rw[if_neg (by simpa using h2)];by_cases h3:k=k'
   ·rw[if_neg (by simpa using h3)];simp only[decide_eq_true_eq];omega
   ·rw[if_pos h3];simp only[decide_eq_true_eq];omega
  ·rw[if_pos h2];simp only[decide_eq_true_eq];omega
 ·rw[if_pos h1];simp only[decide_eq_true_eq];omega
theorem q8d (k:Int):2<=hdC k/\hdC k<=4:=by unfold hdC;split <;> omega
theorem zcd (k:Int):0<=eaC k/\eaC k<=1:=by unfold eaC;split <;> omega
theorem qss (k:Int) (s:SyT) (r:List SyT):keyL k 1 (s::r)=keyT (oneF k (bst r).2.2):=by
 have e:(s::r).drop 1=r:=rfl;unfold keyL keyT oneF wB;rw[e];simp only[Int.mul_one,Int.natCast_one];omega
theorem qk2 (k:Int) (s:SyT) (r:List SyT) (n:Nat):keyL k (n+1) (s::r)=keyL k n r+eaC k*36028797018963968-1:=by
 have e:(s::r).drop (n+1)=r.drop n:=rfl;unfold keyL;rw[e,Int.natCast_add,Int.natCast_one,Int.mul_add,Int.mul_one];omega
theorem qya (k:Int) (g:LiT) (hk:g.1=k):keyT (qku k g)=keyT g+eaC k*36028797018963968-1:=by
 unfold keyT qku;simp only[hk];omega
theorem zcs (m:Nat):boL m zLi:=by
 unfold boL zLi;simp only;omega
theorem q1m {k:Int} (hk:kOK k) {s:SyT} {r:List SyT} (hr:okB k r (beg r k)) (hb:boL r.length (bst r)) (hl:(s::r).length<=65536):okB k (s::r) (beg (s::r) k):=by
 rw[qte];unfold begF;have hh:=q8d k;have he:=zcd k;have hn:=qcy k r;rw[List.length_cons] at hl;by_cases hc:canB k s=false
 ·rw[if_pos hc];exact .inl ⟨by rw[fitN,if_neg (by rw[hc];decide)],rfl⟩
 ·rw[if_neg hc];have hc:canB k s=true:=by simpa using hc
  have hone:boL (s::r).length (oneF k (bst r).2.2):=by
   unfold boL oneF at *;simp only[List.length_cons];omega
  by_cases hg:(beg r k).2.1=0\/goK k s (gtY r 0)=false
  ·rw[if_pos hg];have hf:fitN k (s::r)=1:=by
    rw[fitN,if_pos hc];split
    next h=>
     rcases hg with hg | hg
     ·rcases hr with hr | ⟨_,n,h1,h2,_⟩
      ·rw[hr.1]
      ·omega
     ·rw[hg] at h;cases h
    ·rfl
   refine .inr ⟨rfl,1,rfl,Nat.le_refl _,by omega,(qss k s r).symm,λ m h1 h2=>?_,hone⟩;have:m=1:=by omega
   rw[this];exact Int.le_refl _
  ·rw[if_neg hg];have hg1:¬ (beg r k).2.1=0:=λ h=>hg (.inl h)
   have hg2:goK k s (gtY r 0)=true:=by
    have:¬ goK k s (gtY r 0)=false:=λ h=>hg (.inr h)
    simpa using this
   rcases hr with hr | ⟨e1,n,h1,h2,h3,h4,h5,h6⟩
   ·rw[hr.2] at hg1;exact absurd rfl hg1
   have hf:fitN k (s::r)=1+fitN k r:=by rw[fitN,if_pos hc,if_pos hg2]
   have hm:keyT (qku k (beg r k))=keyL k (n+1) (s::r):=by rw[qya k _ e1,qk2,h4]
   have hmb:boL (s::r).length (qku k (beg r k)):=by
    unfold boL qku at *;simp only[List.length_cons];omega
   have ho:=qss k s r;have hmo:∀ m:Nat,1<=m->m<=fitN k (s::r)->m=1\/keyL k (n+1) (s::r)<=keyL k m (s::r):=λ m m1 m2=>by
    rcases Nat.lt_or_ge 1 m with h | h
    ·obtain ⟨q,hq⟩:∃ q,m=q+1:=⟨m-1,by omega⟩;subst hq;have:=h5 q (by omega) (by omega);rw[qk2,qk2];exact .inr (by omega)
    ·exact .inl (by omega)
   have hkey:=qtd (a:=oneF k (bst r).2.2) (b:=qku k (beg r k)) hk hk (show 1<=(1:Int)/\(1:Int)<1048576 by omega) (show 1<=(beg r k).2.1+1/\(beg r k).2.1+1<1048576 by omega) (show 0<=(bst r).2.2.2+1/\(bst r).2.2.2+1<4294967296 by unfold boL at hb;omega) (show 0<=(beg r k).2.2.2/\(beg r k).2.2.2<4294967296 by unfold boL at h6;omega);split
   next hbt=>
    have hlt:=hkey.1 hbt;rw[<- ho,hm] at hlt;refine .inr ⟨rfl,1,rfl,Nat.le_refl _,by omega,ho.symm,λ m m1 m2=>?_,hone⟩;rcases hmo m m1 m2 with h | h
    ·rw[h];exact Int.le_refl _
    ·omega
   next hbt=>
    have hlt:¬ keyT (oneF k (bst r).2.2)<keyT (qku k (beg r k)):=λ h=>hbt (hkey.2 h)
    rw[<- ho,hm] at hlt;refine .inr ⟨rfl,n+1,by rw[Int.natCast_add,<- h1];rfl,by omega,by omega,hm,λ m m1 m2=>?_,hmb⟩;rcases hmo m m1 m2 with h | h
    ·rw[h];omega
    ·omega
def okU (m:Int) (l:List SyT) (b:LiT):Prop:=
 (b=zLi/\∀ k,1<=k->k<=m->fitN k l=0)\/(kOK b.1/\b.1<=m/\∃ n:Nat,b.2.1=(n:Int)/\1<=n/\n<=fitN b.1 l/\keyT b=keyL b.1 n l/\(∀ k,1<=k->k<=m->∀ q:Nat,1<=q->q<=fitN k l->keyL b.1 n l<=keyL k q l)/\boL l.length b)
theorem qjy {m:Int} {l:List SyT} {b g:LiT} (hm:0<=m/\m<4) (hl:l.length<=65536) (hb:okU m l b) (hg:okB (m+1) l g):okU (m+1) l (upd b g):=by
 have fle:=λ k=>qcy k l
 unfold upd;rcases hg with ⟨h1,h2⟩ | ⟨e1,n,h1,h2,h3,h4,h5,h6⟩
 ·have hx:betB g b=false:=by
   subst h2;unfold betB zLi;simp
  rw[hx,if_neg (by decide)];rcases hb with ⟨q1,q2⟩ | ⟨q1,q2,q,q3,q4,q5,q6,q7,q8⟩
  ·refine .inl ⟨q1,λ k k1 k2=>?_⟩;rcases Int.lt_or_le k (m+1) with h | h
   ·exact q2 k k1 (by omega)
   ·have:k=m+1:=by omega
    rw[this];exact h1
  ·refine .inr ⟨q1,by omega,q,q3,q4,q5,q6,λ k k1 k2 p p1 p2=>?_,q8⟩;rcases Int.lt_or_le k (m+1) with h | h
   ·exact q7 k k1 (by omega) p p1 p2
   ·have:k=m+1:=by omega
    rw[this,h1] at p2;omega
 ·have gk:kOK g.1:=by rw[e1];unfold kOK;omega
  have f1:=fle (m+1);rcases hb with ⟨q1,q2⟩ | ⟨q1,q2,q,q3,q4,q5,q6,q7,q8⟩
  ·have hx:betB g b=true:=by
    subst q1;unfold betB zLi;rw[if_pos (.inr rfl)];simp;omega
   rw[hx,if_pos rfl];refine .inr ⟨gk,by omega,n,h1,h2,by rw[e1];exact h3,by rw[e1];exact h4,λ k k1 k2 p p1 p2=>?_,h6⟩;rcases Int.lt_or_le k (m+1) with h | h
   ·rw[q2 k k1 (by omega)] at p2;omega
   ·have hk:k=m+1:=by omega
    subst hk;rw[e1];exact h5 p p1 p2
  ·have f2:=fle b.1;have hkey:=qtd (a:=g) (b:=b) gk q1 (by omega) (by omega) (by unfold boL at h6;omega) (by unfold boL at q8;omega);have e2:keyL g.1 n l=keyL (m+1) n l:=by rw[e1]
   split
   next hx=>
    have hlt:=hkey.1 hx;refine .inr ⟨gk,by omega,n,h1,h2,by rw[e1];exact h3,by rw[e1];exact h4,λ k k1 k2 p p1 p2=>?_,h6⟩;rcases Int.lt_or_le k (m+1) with h | h
    ·have:=q7 k k1 (by omega) p p1 p2;omega
    ·have hk:k=m+1:=by omega
     subst hk;rw[e2];exact h5 p p1 p2
   next hx=>
    have hlt:¬ keyT g<keyT b:=λ h=>hx (hkey.2 h)
    refine .inr ⟨q1,by omega,q,q3,q4,q5,q6,λ k k1 k2 p p1 p2=>?_,q8⟩;rcases Int.lt_or_le k (m+1) with h | h
    ·exact q7 k k1 (by omega) p p1 p2
    ·have hk:k=m+1:=by omega
     subst hk;have:=h5 p p1 p2;omega
theorem qs1 (s:SyT) (r:List SyT):(1:Nat)<=fitN 2 (s::r)\/(1:Nat)<=fitN 4 (s::r):=by
 cases h:s.1
 ·right;rw[fitN,if_pos (by simp[canB,h])];split <;> omega
 ·left;rw[fitN,if_pos (by simp[canB,h])];split <;> omega
theorem qsk:∀ l:List SyT,l.length<=65536->(∀ k,kOK k->okB k l (beg l k))/\okL l (bst l)
 | [],_=>⟨λ k _=>.inl ⟨rfl,rfl⟩,.inl ⟨rfl,rfl⟩⟩
 | s::r,hl=>by
  have hr:=qsk r (by rw[List.length_cons] at hl;omega);have hb:boL r.length (bst r):=by
   rcases hr.2 with h | ⟨_,_,n,_,_,_,_,_,h⟩
   ·rw[h.2];exact zcs _
   ·exact h
  have hg:∀ k,kOK k->okB k (s::r) (beg (s::r) k):=λ k hk=>q1m hk (hr.1 k hk) hb hl
  refine ⟨hg,?_⟩;have h0:okU 0 (s::r) zLi:=.inl ⟨rfl,λ k k1 k2=>by omega⟩;have h1:=qjy (m:=0) (by omega) hl h0 (hg 1 (by unfold kOK;omega));have h2:=qjy (m:=1) (by omega) hl h1 (hg 2 (by unfold kOK;omega));have h3:=qjy (m:=2) (by omega) hl h2 (hg 3 (by unfold kOK;omega));have h4:=qjy (m:=3) (by omega) hl h3 (hg 4 (by unfold kOK;omega));rw[q21];rcases h4 with ⟨q1,q2⟩ | ⟨q1,q2,q,q3,q4,q5,q6,q7,q8⟩
  ·exfalso;have a:=q2 2 (by omega) (by omega);have b:=q2 4 (by omega) (by omega);rcases qs1 s r with h | h <;> omega
  ·exact .inr ⟨by simp,q1,q,q3,q4,q5,q6,λ k hk p p1 p2=>q7 k hk.1 hk.2 p p1 p2,q8⟩
theorem qpq (l:List SyT) (hl:l.length<=65536):boL l.length (bst l):=by
 rcases (qsk l hl).2 with h | ⟨_,_,n,_,_,_,_,_,h⟩
 ·rw[h.2];exact zcs _
 ·exact h
abbrev suS:Sh:=.pair iI iI
abbrev liS:Sh:=.pair iI (.pair iI suS)
set_option maxRecDepth 100000
theorem qzx (a:Int) (Q:QT) (R:RT):sA [] Tryd.f82 Q R [.code (qad Tryd.f82)] (entry [iI] (a,())) =
  (Q [.bool (decide (a≠a))] []):=by kernel_rfl
theorem q50 (k:Int) (s:SyT) (Q:QT) (R:RT):sA [] Tryd.f78 Q R [.code (qad Tryd.f78)] (entry [iI,syS] (k,s,())) =
  (bc (decide (k=(1:Int))) (bc s.1 (Q [.bool (decide (s.2.2=(0:Int)))] [(3,.var [.bool s.1,.i s.2.1,.u s.2.2])]) (false=false/\Q [.bool false] [(3,.var [.bool s.1,.i s.2.1,.u s.2.2])])) (bc (decide (k=(2:Int))) (Q [.bool s.1] [(3,.var [.bool s.1,.i s.2.1,.u s.2.2])]) (Q [.bool !s.1] [(3,.var [.bool s.1,.i s.2.1,.u s.2.2])]))):=by kernel_rfl
def qcv (s t:SyT):List (Nat × LB):=[(4,.var [.bool s.1,.i s.2.1,.u s.2.2]),(5,.var [.bool t.1,.i t.2.1,.u t.2.2])]
theorem q5y (k:Int) (s t:SyT) (Q:QT) (R:RT):sA [] Tryd.f79 Q R [.code (qad Tryd.f79)] (entry [iI,syS,syS] (k,s,t,())) =
  (bc (decide (k=(1:Int))) (bc (decide (k=(1:Int))) (Q [.bool (decide (t.2.1=IntKind.i64.wrap (s.2.1+1)))] (qcv s t)) (bc (decide (k=(3:Int))) (Q [.bool (decide (t.2.2=s.2.2))] (qcv s t)) (Q [.bool true] (qcv s t)))) (bc (decide (k=(2:Int))) (Q [.bool (decide (t.2.1=IntKind.i64.wrap (s.2.1+1)))] (qcv s t)) (bc (decide (k=(3:Int))) (Q [.bool (decide (t.2.2=s.2.2))] (qcv s t)) (Q [.bool true] (qcv s t))))):=by kernel_rfl
theorem vc_or (x:List Int) (Q:QT) (R:RT):sA [] Tryd.f80 Q R [.code (qad Tryd.f80)] (entry [.sl iI] (x,())) =
  (R (hd Tryd.f80 0) { env:=[(0,.sl iI x),(2,.i 0),(3,.i 0),(6,.sl iI x),(7,.i (x.length:Int)),(8,.i 0)],blk:=[] }):=by kernel_rfl
theorem q3v (x:List Int) (i:Nat) (Q:QT) (R:RT):sA [] Tryd.f80 Q R (hd Tryd.f80 0) ⟨[(3,.i 0),(6,.sl iI x),(7,.i x.length),(8,.i (i:Nat))],[]⟩ =
  (bc (decide ((i:Int)<(x.length:Int))) ((0:Int)<=(i:Int)/\(i:Int)<(x.length:Int)/\bc (decide (gt iI x (i:Int).toNat≠0)) (Q [.i (gt iI x (i:Int).toNat)] []) (R (hd Tryd.f80 0) { env:=[(3,.i 0),(5,.i (gt iI x (i:Int).toNat)),(6,.sl iI x),(7,.i (x.length:Int)),(8,.i (IntKind.i64.wrap ((i:Int)+1))),(9,.bool (decide ((i:Int)<(x.length:Int)))),(10,.elv iI (gt iI x (i:Int).toNat)),(11,.i (gt iI x (i:Int).toNat)),(12,.i (gt iI x (i:Int).toNat)),(13,.i 0),(14,.bool (decide (gt iI x (i:Int).toNat≠0))),(16,.i (IntKind.i64.wrap ((i:Int)+1)))],blk:=[] })) (Q [.i 0] [])):=by kernel_rfl
def ctNan:Ctr:=⟨[iI],λ _=>True,λ _=>[.bool false],λ _=>[]⟩
theorem q1q:Held Tryd.prog G0 82 ctNan:=Held.run cx0 (fn:=Tryd.f82) rfl rfl ⟨by decide,by decide⟩ λ x _=>by
 refine (qzx x.1 _ _).mpr ?_;rw[decide_eq_false (by simp)];exact QC.flat rfl rfl rfl
def CNan:CV:=[(82,.inl ctNan)]
theorem cxNan:CxOK Tryd.prog tt G0 CNan:=cx0.k q1q (fn:=Tryd.f82)
def ctCan:Ctr:=⟨[iI,syS],λ _=>True,λ x=>[.bool (canB x.1 x.2.1)],λ _=>[]⟩
theorem q88 (k:Int) (o:Bool) (a b:Int) (R:List Item->PS->Prop):sA [] Tryd.f78 (QC ctCan (k,(o,a,b),())) R [.code (qad Tryd.f78)] (entry [iI,syS] (k,(o,a,b),())):=by
 refine (q50 k (o,a,b) _ _).mpr ?_;refine qaf (λ h=>?_) (λ h=>qaf (λ h2=>?_) (λ h2=>?_))
 ·have h:=of_decide_eq_true h;subst h;refine qaf (λ h=>?_) (λ h=>⟨rfl,?_⟩)
  ·have h:o=true:=h;subst h;exact QC.flat rfl rfl rfl
  ·have h:o=false:=h;subst h;exact QC.flat rfl rfl rfl
 ·have h2:=of_decide_eq_true h2;subst h2;exact QC.flat rfl rfl rfl
 ·have h:=of_decide_eq_false h;have h2:=of_decide_eq_false h2;refine QC.flat ?_ rfl rfl
  show [SV.bool (canB k (o,a,b))]=_
  unfold canB;rw[if_neg h,if_neg h2]
theorem q20:Held Tryd.prog G0 78 ctCan:=Held.run cx0 (fn:=Tryd.f78) rfl rfl ⟨by decide,by decide⟩ λ ⟨k,⟨o,a,b⟩,_⟩ _=>q88 k o a b _
def ctGoe:Ctr:=⟨[iI,syS,syS],λ _=>True,λ x=>[.bool (goK x.1 x.2.1 x.2.2.1)],λ _=>[]⟩
theorem q8h (k:Int) (s t:SyT) (R:List Item->PS->Prop):sA [] Tryd.f79 (QC ctGoe (k,s,t,())) R [.code (qad Tryd.f79)] (entry [iI,syS,syS] (k,s,t,())):=by
 refine (q5y k s t _ _).mpr ?_;have out:∀ b,goK k s t=b->ctGoe.out (k,s,t,())=[SV.bool b]:=λ b e=>congrArg (λ b=>[SV.bool b]) e
 refine qaf (λ h=>?_) (λ h=>qaf (λ h2=>?_) (λ h2=>qaf (λ h3=>?_) (λ h3=>?_)))
 ·have h:=of_decide_eq_true h;subst h;exact QC.flat (out _ rfl) rfl rfl
 ·have h2:=of_decide_eq_true h2;subst h2;exact QC.flat (out _ rfl) rfl rfl
 ·have h3:=of_decide_eq_true h3;subst h3;exact QC.flat (out _ rfl) rfl rfl
 ·have h:=of_decide_eq_false h;have h2:=of_decide_eq_false h2;have h3:=of_decide_eq_false h3;exact QC.flat (out _ (by unfold goK;rw[if_neg (by omega),if_neg h3])) rfl rfl
theorem q2i:Held Tryd.prog G0 79 ctGoe:=Held.run cx0 (fn:=Tryd.f79) rfl rfl ⟨by decide,by decide⟩ λ ⟨k,s,t,_⟩ _=>q8h k s t _
def orF:List Int->Int
 | []=>0
 | a::l=>if a≠0 then a else orF l
def ctOr:Ctr:=⟨[.sl iI],λ x=>List.length x.1<1000000,λ x=>[.i (orF x.1)],λ _=>[]⟩
theorem q7c (x:List Int) (hl:x.length<1000000):∀ (c i:Nat),x.length-i=c->i<=x.length ->
  GD 80 Tryd.f80 (λ rs _=>rs=[.i (orF (x.drop i))]) (hd Tryd.f80 0) ⟨[(3,.i 0),(6,.sl iI x),(7,.i x.length),(8,.i (i:Nat))],[]⟩:=by
 intro c
 induction c with
 | zero=>
  intro i hc hi;refine qe6 cx0 (q3v x i _ _) ?_;rw[decide_eq_false (by omega),bc_f,List.drop_eq_nil_of_le (by omega)];rfl
 | succ c ih=>
  intro i hc hi;have hil:i<x.length:=by omega
  have nx:=ih (i+1) (by omega) (by omega);have e:gt iI x i=x[i]:=gtE (e:=iI) hil;refine qe6 cx0 (q3v x i _ _) ?_;rw[decide_eq_true (show (i:Int)<(x.length:Int) by omega),bc_t,Int.toNat_natCast,IntWalk.i64_in ((i:Int)+1) (by omega),e];rw[List.drop_eq_getElem_cons hil];refine ⟨by omega,by omega,qaf (λ h=>?_) (λ h=>?_)⟩
  ·have h:x[i]≠0:=of_decide_eq_true h
   show _=_
   rw[orF,if_pos h]
  ·have h:¬ x[i]≠0:=of_decide_eq_false h;rw[orF,if_neg h];exact nx.only ⟨rfl,rfl,rfl,rfl,trivial⟩ trivial
theorem q7d:Held Tryd.prog G0 80 ctOr:=
 Held.of cx0 (fn:=Tryd.f80) rfl rfl ⟨by decide,by decide⟩ λ ⟨x,_⟩ hp=>
  qe6 cx0 (vc_or x _ _) (((q7c x hp _ 0 rfl (by omega)).post λ rs blk hq=>QC.flat (by rw[hq];rfl) rfl (by rw[hq];rfl)).only ⟨rfl,rfl,rfl,rfl,trivial⟩ trivial)
def cmF (a b:Int):Int:=if a<b then -1 else if b<a then 1 else 0
def ctCmp:Ctr:=⟨[iI,iI],λ _=>True,λ x=>[.i (cmF x.1 x.2.1)],λ _=>[]⟩
set_option maxRecDepth 100000
theorem zav (a b:Int) (Q:QT) (R:RT):sA CNan Tryd.f81 Q R [.code (qad Tryd.f81)] (entry [iI,iI] (a,b,())) =
  (ctNan.pre (a,())/\ctNan.pre (b,())/\bc (decide (a<b)) (Q [.i (-1:Int)] []) (bc (decide (b<a)) (Q [.i 1] []) (Q [.i 0] []))):=by kernel_rfl
def qdd (a b:LiT):List (Nat × LB):=[(2,.var [.i a.1,.i a.2.1,.i a.2.2.1,.i a.2.2.2]),(3,.var [.i b.1,.i b.2.1,.i b.2.2.1,.i b.2.2.2])]
theorem zal (a b:LiT) (Q:QT) (R:RT):sA [(81,.inl ctCmp),(80,.inl ctOr)] Tryd.f77 Q R [.code (qad Tryd.f77)] (entry [liS,liS] (a,b,())) =
  (bc (decide (a.2.1=(0:Int))) (true=true/\bc (decide ((0:Int)<a.2.1)) (Q [.bool (decide (b.2.1=(0:Int)))] (qdd a b)) (false=false/\Q [.bool false] (qdd a b))) (bc (bif false then true else decide (b.2.1=(0:Int))) (bc (decide ((0:Int)<a.2.1)) (Q [.bool (decide (b.2.1=(0:Int)))] (qdd a b)) (false=false/\Q [.bool false] (qdd a b))) (bc (!decide ([a.2.2.1,a.2.2.2]=[b.2.2.1,b.2.2.2])) (ctCmp.pre (a.2.2.1,b.2.2.1,())/\ctCmp.pre (a.2.2.2,b.2.2.2,())/\0+2<=(((List.replicate (2:Nat) iI.dflt).set (0:Nat) (cmF a.2.2.1 b.2.2.1)).set (1:Nat) (cmF a.2.2.2 b.2.2.2)).length/\ctOr.pre (winL iI 0 2 (((List.replicate (2:Nat) iI.dflt).set (0:Nat) (cmF a.2.2.1 b.2.2.1)).set (1:Nat) (cmF a.2.2.2 b.2.2.2)),())/\Q [.bool (decide (orF (winL iI 0 2 (((List.replicate (2:Nat) iI.dflt).set (0:Nat) (cmF a.2.2.1 b.2.2.1)).set (1:Nat) (cmF a.2.2.2 b.2.2.2)))<0))] [(2,.var [.i a.1,.i a.2.1,.i a.2.2.1,.i a.2.2.2]),(3,.var [.i b.1,.i b.2.1,.i b.2.2.1,.i b.2.2.2]),(42,.row 3 iI (((List.replicate (2:Nat) iI.dflt).set (0:Nat) (cmF a.2.2.1 b.2.2.1)).set (1:Nat) (cmF a.2.2.2 b.2.2.2)))]) (bc (decide (a.1≠b.1)) (Q [.bool (decide (a.1<b.1))] (qdd a b)) (Q [.bool (decide (b.2.1<a.2.1))] (qdd a b)))))):=by kernel_rfl
theorem q8v (a b:Int) (R:List Item->PS->Prop):sA CNan Tryd.f81 (QC ctCmp (a,b,())) R [.code (qad Tryd.f81)] (entry [iI,iI] (a,b,())):=by
 refine (zav a b _ _).mpr ⟨trivial,trivial,?_⟩;have out:∀ n,cmF a b=n->ctCmp.out (a,b,())=[SV.i n]:=λ b e=>congrArg (λ b=>[SV.i b]) e
 refine qaf (λ h=>?_) (λ h=>qaf (λ h2=>?_) (λ h2=>?_))
 ·exact QC.flat (out _ (by unfold cmF;rw[if_pos (of_decide_eq_true h)])) rfl rfl
 ·exact QC.flat (out _ (by unfold cmF;rw[if_neg (of_decide_eq_false h),if_pos (of_decide_eq_true h2)])) rfl rfl
 ·exact QC.flat (out _ (by unfold cmF;rw[if_neg (of_decide_eq_false h),if_neg (of_decide_eq_false h2)])) rfl rfl
theorem q2u:Held Tryd.prog G0 81 ctCmp:=Held.run cxNan (fn:=Tryd.f81) rfl rfl ⟨by decide,by decide⟩ λ ⟨a,b,_⟩ _=>q8v a b _
def ctBet:Ctr:=⟨[liS,liS],λ _=>True,λ x=>[.bool (betB x.1 x.2.1)],λ _=>[]⟩
theorem zce:CxOK Tryd.prog tt G0 [(81,.inl ctCmp),(80,.inl ctOr)]:=(cx0.k q7d (fn:=Tryd.f80)).k q2u (fn:=Tryd.f81)
theorem q8b (k n c o k' n' c' o':Int) (R:List Item->PS->Prop):sA [(81,.inl ctCmp),(80,.inl ctOr)] Tryd.f77 (QC ctBet ((k,n,c,o),(k',n',c',o'),())) R [.code (qad Tryd.f77)] (entry [liS,liS] ((k,n,c,o),(k',n',c',o'),())):=by
 refine (zal (k,n,c,o) (k',n',c',o') _ _).mpr ?_;have out:∀ b,betB (k,n,c,o) (k',n',c',o')=b->ctBet.out ((k,n,c,o),(k',n',c',o'),())=[SV.bool b]:=λ b e=>congrArg (λ b=>[SV.bool b]) e
 refine qaf (λ h=>⟨rfl,?_⟩) (λ h=>qaf (λ h2=>?_) (λ h2=>?_))
 ·have h:n=0:=of_decide_eq_true h;refine qaf (λ h2=>?_) (λ h2=>⟨rfl,?_⟩)
  ·have h2:0<n:=of_decide_eq_true h2;exact QC.flat (out _ (by unfold betB;rw[if_pos (.inl h)];simp[h2])) rfl rfl
  ·have h2:¬ 0<n:=of_decide_eq_false h2;exact QC.flat (out _ (by unfold betB;rw[if_pos (.inl h)];simp[h2])) rfl rfl
 ·have h2:decide (n'=0)=true:=h2;have h2:n'=0:=of_decide_eq_true h2;refine qaf (λ h3=>?_) (λ h3=>⟨rfl,?_⟩)
  ·have h3:0<n:=of_decide_eq_true h3;exact QC.flat (out _ (by unfold betB;rw[if_pos (.inr h2)];simp[h3])) rfl rfl
  ·have h3:¬ 0<n:=of_decide_eq_false h3;exact QC.flat (out _ (by unfold betB;rw[if_pos (.inr h2)];simp[h3])) rfl rfl
 ·have h:¬ n=0:=of_decide_eq_false h;have h2:decide (n'=0)=false:=h2;have h2:¬ n'=0:=of_decide_eq_false h2;have hz:¬ (n=0\/n'=0):=by omega
  refine qaf (λ h3=>⟨trivial,trivial,Nat.le_refl 2,(show (2:Nat)<1000000 by decide),?_⟩) (λ h3=>qaf (λ h4=>?_) (λ h4=>?_))
  ·have h3:¬ (c=c'/\o=o'):=by
    intro e;rw[e.1,e.2] at h3;simp at h3
   have ev:orF (winL iI 0 2 (((List.replicate 2 iI.dflt).set 0 (cmF c c')).set 1 (cmF o o')))=orF [cmF c c',cmF o o']:=rfl;refine QC.flat (out _ ?_) rfl rfl
   show betB (k,n,c,o) (k',n',c',o')=decide (orF (winL iI 0 2 (((List.replicate 2 iI.dflt).set 0 (cmF c c')).set 1 (cmF o o')))<0)
   rw[ev];unfold betB;simp only[if_neg hz];by_cases hc:c=c'
   ·have ho:o≠o':=λ e=>h3 ⟨hc,e⟩
    rw[if_neg (by simpa using hc),if_pos ho];refine decide_eq_decide.2 ?_;have e1:cmF c c'=0:=by unfold cmF;rw[if_neg (by omega),if_neg (by omega)]
    rw[orF,if_neg (by simpa using e1)];unfold cmF;simp only[orF];split
    ·simp;omega
    ·split
     ·simp;omega
     ·omega
   ·rw[if_pos hc];refine decide_eq_decide.2 ?_;unfold cmF;simp only[orF];split
    ·simp;omega
    ·split
     ·simp;omega
     ·omega
  ·have h3:c=c'/\o=o':=by simpa using h3
   have h4:k≠k':=of_decide_eq_true h4;exact QC.flat (out _ (by unfold betB;simp only[if_neg hz];rw[if_neg (by simpa using h3.1),if_neg (by simpa using h3.2),if_pos h4])) rfl rfl
  ·have h3:c=c'/\o=o':=by simpa using h3
   have h4:¬ k≠k':=of_decide_eq_false h4;exact QC.flat (out _ (by unfold betB;simp only[if_neg hz];rw[if_neg (by simpa using h3.1),if_neg (by simpa using h3.2),if_neg h4])) rfl rfl
theorem qsv:Held Tryd.prog G0 77 ctBet:=Held.run zce (fn:=Tryd.f77) rfl rfl ⟨by decide,by decide⟩ λ ⟨⟨k,n,c,o⟩,⟨k',n',c',o'⟩,_⟩ _=>q8b k n c o k' n' c' o' _
def mdK (k:Int) (l:List SyT):OpT:=(k,(gtY l 0).2.1,(l.length:Int),if k=3 then (gtY l 0).2.2 else 0,if k=2\/k=4 then l.map λ s=>s.2.2 else [])
def isK (k:Int) (l:List SyT) (n:Nat):Prop:=∀ j,j<n->canB k (gtY l j)=true/\(k=1\/k=2->(gtY l j).2.1=(gtY l 0).2.1+j)/\(k=3->(gtY l j).2.2=(gtY l 0).2.2)
theorem qj4 {k:Int} {s:SyT} (hk:k=1\/k=2) (h:canB k s=true):s.1=true:=by
 unfold canB at h;rcases hk with e | e
 ·subst e;rw[if_pos rfl] at h;simp at h;exact h.1
 ·subst e;rw[if_neg (by decide),if_pos rfl] at h;exact h
theorem q2h (s:SyT) (r:List SyT) (j:Nat):gtY (s::r) (j+1)=gtY r j:=by
 simp[gt]
theorem quk (s:SyT) (r:List SyT):gtY (s::r) 0=s:=by
 simp[gt]
section
variable {m:Int} (hm:m<16777216)
include hm
theorem qyt {k:Int}:∀ {l:List SyT},(∀ s∈l,sOK m s=true)->isK k l (fitN k l)
 | [],_=>λ j h=>by rw[fitN] at h;omega
 | s::r,hr=>by
  have ih:=qyt (k:=k) (l:=r) λ x hx=>hr x (by simp[hx])
  have hs:=hr s (by simp);intro j hj;rw[fitN] at hj;by_cases hc:canB k s=true
  ·rw[if_pos hc] at hj;rcases j with _ | j
   ·rw[quk];exact ⟨hc,λ _=>by simp,λ _=>rfl⟩
   ·rw[q2h,quk];by_cases hg:goK k s (gtY r 0)=true
    ·rw[if_pos hg] at hj;obtain ⟨h1,h2,h3⟩:=ih j (by omega);refine ⟨h1,λ hk=>?_,λ hk=>?_⟩
     ·have b:=q6u hs (qj4 hk hc);unfold goK at hg;rw[if_pos hk,decide_eq_true_eq,IntWalk.i64_in _ (by omega)] at hg;rw[h2 hk,hg];omega
     ·unfold goK at hg;rw[if_neg (by omega),if_pos hk,decide_eq_true_eq] at hg;rw[h3 hk,hg]
    ·rw[if_neg hg] at hj;omega
  ·rw[if_neg hc] at hj;omega
theorem q4o {k:Int}:∀ {l:List SyT} {n:Nat},(∀ s∈l,sOK m s=true)->n<=l.length->isK k l n->n<=fitN k l
 | [],n,_,h,_=>by rw[List.length_nil] at h;omega
 | s::r,0,_,_,_=>Nat.zero_le _
 | s::r,n+1,hr,hn,hi=>by
  have hs:=hr s (by simp);have h0:=hi 0 (by omega);rw[quk] at h0;rw[List.length_cons] at hn;rw[fitN,if_pos h0.1];rcases n with _ | n
  ·split <;> omega
  ·have h1:=hi 1 (by omega);rw[q2h s r 0,quk] at h1;have hg:goK k s (gtY r 0)=true:=by
    unfold goK;split
    next hk=>have b:=q6u hs (qj4 hk h0.1);rw[decide_eq_true_eq,IntWalk.i64_in _ (by omega)];have:=h1.2.1 hk;omega
    ·split
     next hk=>rw[decide_eq_true_eq];exact h1.2.2 hk
     ·rfl
   rw[if_pos hg];have:=q4o (k:=k) (l:=r) (n:=n+1) (λ x hx=>hr x (by simp[hx])) (by omega) λ j hj=>by
    have hq:=hi (j+1) (by omega);rw[q2h,quk] at hq;refine ⟨hq.1,λ hk=>?_,λ hk=>?_⟩
    ·have:=hq.2.1 hk;have:=h1.2.1 hk;omega
    ·have:=hq.2.2 hk;have:=h1.2.2 hk;omega
   omega
end
def cst (l:List SyT):Int:=(bst l).2.2.1
def oct (l:List SyT):Int:=(bst l).2.2.2
theorem eaN (k:Int) (n:Nat):0<=eaC k*(n:Int)/\eaC k*(n:Int)<=n:=by
 unfold eaC;split
 ·omega
 ·omega
theorem qtc {l:List SyT} (hl:l.length<=65536) (h0:l≠[]):kOK (bst l).1/\∃ n:Nat,(bst l).2.1=(n:Int)/\1<=n/\n<=fitN (bst l).1 l/\(∀ k,kOK k->∀ m:Nat,1<=m->m<=fitN k l->keyL (bst l).1 n l<=keyL k m l)/\ cst l=hdC (bst l).1+eaC (bst l).1*(n:Int)+cst (l.drop n)/\oct l=1+oct (l.drop n):=by
 rcases (qsk l hl).2 with ⟨h,_⟩ | ⟨_,hk,n,h1,h2,h3,h4,h5,h6⟩
 ·exact absurd h h0
 refine ⟨hk,n,h1,h2,h3,h5,?_⟩;have hd:(l.drop n).length<=65536:=by rw[List.length_drop];omega
 have hb:=qpq (l.drop n) hd;have hf:=qcy (bst l).1 l;unfold keyT keyL wB at h4;unfold boL at hb h6;unfold cst oct;have e1:=eaN (bst l).1 n;generalize eaC (bst l).1*(n:Int)=e at *;generalize (bst (l.drop n))=b at *;rw[List.length_drop] at hb;omega
theorem zcq {l:List SyT} (hl:l.length<=65536) {k:Int} (hk:kOK k) {n:Nat} (h1:1<=n) (h2:n<=fitN k l) (h3:∀ k',kOK k'->∀ m:Nat,1<=m->m<=fitN k' l->keyL k n l<=keyL k' m l):(bst l).1=k/\(bst l).2.1=(n:Int):=by
 have hf:=qcy k l;have h0:l≠[]:=λ h=>by subst h;rw[fitN] at h2;omega
 obtain ⟨hb,q,q1,q2,q3,q4,q5,q6⟩:=qtc hl h0;have hq:=qcy (bst l).1 l;have key:=q4 k hk n h1 h2;have key2:=h3 _ hb q q2 q3;rw[q1];unfold keyL at key key2;generalize ((hdC (bst l).1+eaC (bst l).1*(q:Int))*4294967296+1+wB (bst (l.drop q)))=w at *;generalize ((hdC k+eaC k*(n:Int))*4294967296+1+wB (bst (l.drop n)))=w' at *;unfold kOK at hk hb;omega
def chF:Nat->List SyT->List OpT
 | 0,_=>[]
 | f+1,l=>if l=[] then [] else mdK (bst l).1 (l.take (bst l).2.1.toNat)::chF f (l.drop (bst l).2.1.toNat)
def chL (l:List SyT):List OpT:=chF l.length l
theorem q17 {k:Int} {l:List SyT} {n q:Nat} (hq:n<=q) (h:isK k l q):isK k (l.take n) n:=λ j hj=>by
 have e:∀ j,j<n->gtY (l.take n) j=gtY l j:=λ j hj=>by simp[gt,hj]
 rw[e j hj,e 0 (by omega)];exact h j (by omega)
def CBe:CV:=[(78,.inl ctCan),(79,.inl ctGoe),(77,.inl ctBet)]
theorem cxBe:CxOK Tryd.prog tt G0 CBe:=((cx0.k qsv (fn:=Tryd.f77)).k q2i (fn:=Tryd.f79)).k q20 (fn:=Tryd.f78)
def q66 (k:Int) (l:List SyT) (g:LiT):Prop:=kOK k/\1<=l.length/\(g.2.1=0\/2<=l.length)
def begL (k:Int) (l:List SyT) (w:Int × Int) (g:LiT):LiT:=begF k (gtY l 0) (gtY l 1) w g
def boB (w:Int × Int) (g:LiT):Prop:=(0<=w.1/\w.1<16777216/\0<=w.2/\w.2<16777216)/\0<=g.2.1/\g.2.1<16777216/\0<=g.2.2.1/\g.2.2.1<16777216
def ctBg:Ctr:=⟨[iI,.sl syS,suS,liS],λ x=>q66 x.1 x.2.1 x.2.2.2.1/\boB x.2.2.1 x.2.2.2.1,λ x=>[.agg [.i (begL x.1 x.2.1 x.2.2.1 x.2.2.2.1).1,.i (begL x.1 x.2.1 x.2.2.1 x.2.2.2.1).2.1,.i (begL x.1 x.2.1 x.2.2.1 x.2.2.2.1).2.2.1,.i (begL x.1 x.2.1 x.2.2.1 x.2.2.2.1).2.2.2]],λ _=>[]⟩
def preMk (k:Int) (l:List SyT):Prop:=kOK k/\1<=l.length/\l.length<16777216
def ctMk:Ctr:=⟨[iI,.sl syS],λ x=>preMk x.1 x.2.1,λ x=>mdV (mdK x.1 x.2.1),λ _=>[]⟩
set_option maxRecDepth 100000
def qmg (k:Int) (w:Int × Int) (g:LiT):List (Nat × LB):=[(6,.var [.i w.1,.i w.2]),(7,.var [.i g.1,.i g.2.1,.i g.2.2.1,.i g.2.2.2]),(8,.var [.i k,.i 1,.i (i64.wrap (i64.wrap (w.1+(gt (iI.pair iI) costsL k.toNat).1)+(gt (iI.pair iI) costsL k.toNat).2)),.i (i64.wrap (w.2+(1:Int)))]),(9,.var [.i (gt (iI.pair iI) costsL k.toNat).1,.i (gt (iI.pair iI) costsL k.toNat).2]),(10,.var [.i k,.i 1,.i (i64.wrap (i64.wrap (w.1+(gt (iI.pair iI) costsL k.toNat).1)+(gt (iI.pair iI) costsL k.toNat).2)),.i (i64.wrap (w.2+(1:Int)))])]
theorem za1 (k:Int) (l:List SyT) (w:Int × Int) (g:LiT) (Q:QT) (R:RT):sA CBe Tryd.f76 Q R [.code (qad Tryd.f76)] (entry [iI,.sl syS,suS,liS] (k,l,w,g,())) =
  ((0:Int)<=0/\(0:Int)<(l.length:Int)/\ctCan.pre (k,(gtY l (0)),())/\bc (!canB k (gtY l (0))) (Q [.agg [.i 0,.i 0,.i 0,.i 0]] [(6,.var [.i w.1,.i w.2]),(7,.var [.i g.1,.i g.2.1,.i g.2.2.1,.i g.2.2.2]),(8,.var [.i 0,.i 0,.i 0,.i 0])]) ((0:Int)<=k/\k<(↑(5:Nat):Int)/\bc (decide (g.2.1=(0:Int))) (true=true/\Q [.agg [.i k,.i 1,.i (i64.wrap (i64.wrap (w.1+(gt (iI.pair iI) costsL k.toNat).1)+(gt (iI.pair iI) costsL k.toNat).2)),.i (i64.wrap (w.2+1))]] (qmg k w g)) ((0:Int)<=0/\(0:Int)<(l.length:Int)/\(0:Int)<=1/\(1:Int)<(l.length:Int)/\ctGoe.pre (k,(gtY l (0)),(gtY l (1)),())/\bc (bif false then true else !goK k (gtY l (0)) (gtY l (1))) (Q [.agg [.i k,.i 1,.i (i64.wrap (i64.wrap (w.1+(gt (iI.pair iI) costsL k.toNat).1)+(gt (iI.pair iI) costsL k.toNat).2)),.i (i64.wrap (w.2+1))]] (qmg k w g)) (ctBet.pre ((k,(1:Int),i64.wrap (i64.wrap (w.1+(gt (iI.pair iI) costsL k.toNat).1)+(gt (iI.pair iI) costsL k.toNat).2),i64.wrap (w.2+1)),(k,i64.wrap (g.2.1+1),i64.wrap (g.2.2.1+(gt (iI.pair iI) costsL k.toNat).2),g.2.2.2),())/\bc (betB (k,(1:Int),i64.wrap (i64.wrap (w.1+(gt (iI.pair iI) costsL k.toNat).1)+(gt (iI.pair iI) costsL k.toNat).2),i64.wrap (w.2+1)) (k,i64.wrap (g.2.1+1),i64.wrap (g.2.2.1+(gt (iI.pair iI) costsL k.toNat).2),g.2.2.2)) (Q [.agg [.i k,.i 1,.i (i64.wrap (i64.wrap (w.1+(gt (iI.pair iI) costsL k.toNat).1)+(gt (iI.pair iI) costsL k.toNat).2)),.i (i64.wrap (w.2+1))]] [(6,.var [.i w.1,.i w.2]),(7,.var [.i g.1,.i g.2.1,.i g.2.2.1,.i g.2.2.2]),(8,.var [.i k,.i 1,.i (i64.wrap (i64.wrap (w.1+(gt (iI.pair iI) costsL k.toNat).1)+(gt (iI.pair iI) costsL k.toNat).2)),.i (i64.wrap (w.2+1))]),(9,.var [.i (gt (iI.pair iI) costsL k.toNat).1,.i (gt (iI.pair iI) costsL k.toNat).2]),(10,.var [.i k,.i 1,.i (i64.wrap (i64.wrap (w.1+(gt (iI.pair iI) costsL k.toNat).1)+(gt (iI.pair iI) costsL k.toNat).2)),.i (i64.wrap (w.2+1))]),(11,.var [.i k,.i (i64.wrap (g.2.1+1)),.i (i64.wrap (g.2.2.1+(gt (iI.pair iI) costsL k.toNat).2)),.i g.2.2.2])]) (Q [.agg [.i k,.i (i64.wrap (g.2.1+1)),.i (i64.wrap (g.2.2.1+(gt (iI.pair iI) costsL k.toNat).2)),.i g.2.2.2]] [(6,.var [.i w.1,.i w.2]),(7,.var [.i g.1,.i g.2.1,.i g.2.2.1,.i g.2.2.2]),(8,.var [.i k,.i (i64.wrap (g.2.1+1)),.i (i64.wrap (g.2.2.1+(gt (iI.pair iI) costsL k.toNat).2)),.i g.2.2.2]),(9,.var [.i (gt (iI.pair iI) costsL k.toNat).1,.i (gt (iI.pair iI) costsL k.toNat).2]),(10,.var [.i k,.i 1,.i (i64.wrap (i64.wrap (w.1+(gt (iI.pair iI) costsL k.toNat).1)+(gt (iI.pair iI) costsL k.toNat).2)),.i (i64.wrap (w.2+1))]),(11,.var [.i k,.i (i64.wrap (g.2.1+1)),.i (i64.wrap (g.2.2.1+(gt (iI.pair iI) costsL k.toNat).2)),.i g.2.2.2])]))))):=by kernel_rfl
def qo0 (k:Int) (l:List SyT):List (Nat × LB):=[(4,.var [.i k,.i (gtY l (0)).2.1,.i (l.length:Int),.u 0,.nils]),(5,.var [.i k,.i (gtY l (0)).2.1,.i (l.length:Int),.u 0,.nils])]
theorem q5m (k:Int) (l:List SyT) (Q:QT) (R:RT):sA [] Tryd.f73 Q (λ it S=>R it (qaj [4,5,31,32,33] [4,5,29] S)) [.code (qad Tryd.f73)] (entry [iI,.sl syS] (k,l,())) =
  ((0:Int)<=0/\(0:Int)<(l.length:Int)/\bc (decide (k=(3:Int))) ((0:Int)<=0/\(0:Int)<(l.length:Int)/\Q [.agg [.i k,.i (gtY l (0)).2.1,.i (l.length:Int),.u (gtY l (0)).2.2,.nils]] [(4,.var [.i k,.i (gtY l (0)).2.1,.i (l.length:Int),.u (gtY l (0)).2.2,.nils]),(5,.var [.i k,.i (gtY l (0)).2.1,.i (l.length:Int),.u (gtY l (0)).2.2,.nils])]) (bc (decide (k=(2:Int))) (bc (decide (k=(2:Int))) ((0:Int)<=(l.length:Int)/\(l.length:Int)<=(l.length:Int)/\(l.length:Int)<2 ^ 24/\(↑(1:Nat):Int)*(l.length:Int)<=2 ^ 48/\R (hd Tryd.f73 0) { env:=[(4,.ptr 4 0),(5,.ptr 5 0),(31,.sl syS l),(32,.i (l.length:Int)),(33,.i 0)],blk:=[(4,.var [.i 0,.i 0,.i 0,.u 0,.nils]),(5,.var [.i k,.i (gtY l (0)).2.1,.i (l.length:Int),.u 0,.win true uB 29 0 (l.length:Int).toNat]),(29,.row 5 uB (List.replicate (l.length:Int).toNat uB.dflt))] }) (Q [.agg [.i k,.i (gtY l (0)).2.1,.i (l.length:Int),.u 0,.nils]] (qo0 k l))) (bc (decide (k=(4:Int))) ((0:Int)<=(l.length:Int)/\(l.length:Int)<=(l.length:Int)/\(l.length:Int)<2 ^ 24/\(↑(1:Nat):Int)*(l.length:Int)<=2 ^ 48/\R (hd Tryd.f73 0) { env:=[(4,.ptr 4 0),(5,.ptr 5 0),(31,.sl syS l),(32,.i (l.length:Int)),(33,.i 0)],blk:=[(4,.var [.i 0,.i 0,.i 0,.u 0,.nils]),(5,.var [.i k,.i (gtY l (0)).2.1,.i (l.length:Int),.u 0,.win true uB 29 0 (l.length:Int).toNat]),(29,.row 5 uB (List.replicate (l.length:Int).toNat uB.dflt))] }) (Q [.agg [.i k,.i (gtY l (0)).2.1,.i (l.length:Int),.u 0,.nils]] (qo0 k l))))):=by kernel_rfl
theorem qrl (k a:Int) (b:List Int) (l:List SyT) (i:Nat) (Q:QT) (R:RT):sA [] Tryd.f73 Q (λ it S=>R it (qaj [4,5,31,32,33] [4,5,29] S)) (hd Tryd.f73 0) ⟨[(4,.ptr 4 0),(5,.ptr 5 0),(31,.sl syS l),(32,.i l.length),(33,.i (i:Nat))],[(4,.var [.i 0,.i 0,.i 0,.u 0,.nils]),(5,.var [.i k,.i a,.i l.length,.u 0,.win true uB 29 0 b.length]),(29,.row 5 uB b)]⟩ =
  (bc (decide ((i:Int)<(l.length:Int))) ((0:Int)<=(i:Int)/\(i:Int)<(l.length:Int)/\(0:Int)<=(i:Int)/\(i:Int)<(b.length:Int)/\0+(i:Int).toNat<b.length/\R (hd Tryd.f73 0) { env:=[(4,.ptr 4 0),(5,.ptr 5 0),(31,.sl syS l),(32,.i (l.length:Int)),(33,.i (IntKind.i64.wrap ((i:Int)+1)))],blk:=[(4,.var [.i 0,.i 0,.i 0,.u 0,.nils]),(5,.var [.i k,.i a,.i (l.length:Int),.u 0,.win true uB 29 0 b.length]),(29,.row 5 uB (b.set (0+(i:Int).toNat) (gtY l (i:Int).toNat).2.2))] }) (Q [.agg [.i k,.i a,.i (l.length:Int),.u 0,.win true uB 29 0 b.length]] [(4,.var [.i k,.i a,.i (l.length:Int),.u 0,.win true uB 29 0 b.length]),(5,.var [.i k,.i a,.i (l.length:Int),.u 0,.win true uB 29 0 b.length]),(29,.row 5 uB b)])):=by kernel_rfl
theorem zah (k a:Int) (d:List Int) (l:List SyT) (i:Nat) (Q:QT) (R:RT):sA [] Tryd.f73 Q (λ it S=>R it (qaj [4,5,31,32,33] [4,5,29] S)) (hd Tryd.f73 0) ⟨[(4,.ptr 4 0),(5,.ptr 5 0),(31,.sl syS l),(32,.i l.length),(33,.i (i:Nat))],[(4,.var [.i 0,.i 0,.i 0,.u 0,.nils]),(5,.var [.i k,.i a,.i l.length,.u 0,.sl uB d])]⟩ =
  (bc (decide ((i:Int)<(l.length:Int))) ((0:Int)<=(i:Int)/\(i:Int)<(l.length:Int)/\(0:Int)<=(i:Int)/\(i:Int)<(d.length:Int)/\False) (Q [.agg [.i k,.i a,.i (l.length:Int),.u 0,.sl uB d]] [(4,.var [.i k,.i a,.i (l.length:Int),.u 0,.sl uB d]),(5,.var [.i k,.i a,.i (l.length:Int),.u 0,.sl uB d])])):=by kernel_rfl
theorem q8u {k:Int} (hk:kOK k):gt (iI.pair iI) costsL k.toNat=(hdC k,eaC k):=by
 rcases (show k=1\/k=2\/k=3\/k=4 by unfold kOK at hk;omega) with e | e | e | e <;> subst e <;> rfl
theorem q9c (k:Int) (l:List SyT) (c o gk gn gc go:Int) (hp:q66 k l (gk,gn,gc,go)) (hb:boB (c,o) (gk,gn,gc,go)) (R:List Item->PS->Prop):sA CBe Tryd.f76 (QC ctBg (k,l,(c,o),(gk,gn,gc,go),())) R [.code (qad Tryd.f76)] (entry [iI,.sl syS,suS,liS] (k,l,(c,o),(gk,gn,gc,go),())):=by
 refine (za1 k l (c,o) (gk,gn,gc,go) _ _).mpr ?_;have out:∀ a b d e,begL k l (c,o) (gk,gn,gc,go)=(a,b,d,e)->ctBg.out (k,l,(c,o),(gk,gn,gc,go),())=[SV.agg [.i a,.i b,.i d,.i e]]:=λ a b d e q=>congrArg (λ x:LiT=>[SV.agg [.i x.1,.i x.2.1,.i x.2.2.1,.i x.2.2.2]]) q
 obtain ⟨hk,h1,h2⟩:=hp;obtain ⟨⟨b1,b2,b3,b4⟩,b5,b6,b7,b8⟩:=hb;simp only at b1 b2 b3 b4 b5 b6 b7 b8 h2;have hh:=q8d k;have he:=zcd k;have hk':0<=k/\k<5:=by unfold kOK at hk;omega
 rw[q8u hk];simp only;have w1:IntKind.i64.wrap (c+hdC k)=c+hdC k:=IntWalk.i64_in _ (by omega);have w2:IntKind.i64.wrap (c+hdC k+eaC k)=c+hdC k+eaC k:=IntWalk.i64_in _ (by omega);have w3:IntKind.i64.wrap (o+1)=o+1:=IntWalk.i64_in _ (by omega);have w4:IntKind.i64.wrap (gn+1)=gn+1:=IntWalk.i64_in _ (by omega);have w5:IntKind.i64.wrap (gc+eaC k)=gc+eaC k:=IntWalk.i64_in _ (by omega);rw[w1,w2,w3,w4,w5];refine ⟨by omega,by omega,trivial,qaf (λ h=>?_) (λ h=>⟨hk'.1,hk'.2,qaf (λ h3=>⟨by trivial,?_⟩) (λ h3=>⟨by omega,by omega,by omega,?_,trivial,qaf (λ h4=>?_) (λ h4=>⟨trivial,qaf (λ h5=>?_) (λ h5=>?_)⟩)⟩)⟩)⟩
 ·have h:canB k (gtY l 0)=false:=by simpa using h
  exact QC.flat (out _ _ _ _ (by unfold begL begF;rw[if_pos h];rfl)) rfl rfl
 ·have h:¬ canB k (gtY l 0)=false:=by
   have:(!canB k (gtY l 0))=false:=h;simpa using this
  have h3:gn=0:=of_decide_eq_true h3;exact QC.flat (out _ _ _ _ (by unfold begL begF;rw[if_neg h,if_pos (.inl h3)];rfl)) rfl rfl
 ·have h3:¬ gn=0:=of_decide_eq_false h3;omega
 ·have h:¬ canB k (gtY l 0)=false:=by
   have:(!canB k (gtY l 0))=false:=h;simpa using this
  have h4:(!goK k (gtY l 0) (gtY l 1))=true:=h4;have h4:goK k (gtY l 0) (gtY l 1)=false:=by simpa using h4
  exact QC.flat (out _ _ _ _ (by unfold begL begF;rw[if_neg h,if_pos (.inr h4)];rfl)) rfl rfl
 ·have h:¬ canB k (gtY l 0)=false:=by
   have:(!canB k (gtY l 0))=false:=h;simpa using this
  have h3:¬ gn=0:=of_decide_eq_false h3;have h4:(!goK k (gtY l 0) (gtY l 1))=false:=h4;have h4:goK k (gtY l 0) (gtY l 1)=true:=by simpa using h4
  have hz:¬ ((gk,gn,gc,go).2.1=0\/goK k (gtY l 0) (gtY l 1)=false):=by
   rw[h4];intro q;rcases q with q | q
   ·exact h3 q
   ·cases q
  have h5:betB (oneF k (c,o)) (qku k (gk,gn,gc,go))=true:=h5;exact QC.flat (out _ _ _ _ (by unfold begL begF;rw[if_neg h,if_neg hz,if_pos h5];rfl)) rfl rfl
 ·have h:¬ canB k (gtY l 0)=false:=by
   have:(!canB k (gtY l 0))=false:=h;simpa using this
  have h3:¬ gn=0:=of_decide_eq_false h3;have h4:(!goK k (gtY l 0) (gtY l 1))=false:=h4;have h4:goK k (gtY l 0) (gtY l 1)=true:=by simpa using h4
  have hz:¬ ((gk,gn,gc,go).2.1=0\/goK k (gtY l 0) (gtY l 1)=false):=by
   rw[h4];intro q;rcases q with q | q
   ·exact h3 q
   ·cases q
  have h5:betB (oneF k (c,o)) (qku k (gk,gn,gc,go))=false:=h5;exact QC.flat (out _ _ _ _ (by unfold begL begF;rw[if_neg h,if_neg hz,if_neg (by rw[h5];decide)];rfl)) rfl rfl
theorem q22:Held Tryd.prog G0 76 ctBg:=Held.run cxBe (fn:=Tryd.f76) rfl rfl ⟨by decide,by decide⟩ λ ⟨k,l,⟨c,o⟩,⟨gk,gn,gc,go⟩,_⟩ hp=>q9c k l c o gk gn gc go hp.1 hp.2 _
theorem qqm (k a:Int) (l:List SyT) (hl:l.length<16777216):∀ (n i:Nat) (b:List Int),l.length-i=n->i<=l.length->b.length=l.length->(∀ j,j<i->b[j]?=(l.map λ s=>s.2.2)[j]?) ->
  GD 73 Tryd.f73 (λ rs _=>rs=[.agg [.i k,.i a,.i l.length,.u 0,.sl uB (l.map λ s=>s.2.2)]]) (hd Tryd.f73 0) ⟨[(4,.ptr 4 0),(5,.ptr 5 0),(31,.sl syS l),(32,.i l.length),(33,.i (i:Nat))],[(4,.var [.i 0,.i 0,.i 0,.u 0,.nils]),(5,.var [.i k,.i a,.i l.length,.u 0,.win true uB 29 0 b.length]),(29,.row 5 uB b)]⟩:=by
 intro n
 induction n with
 | zero=>
  intro i b hk hi hb hj;have hi:i=l.length:=by omega
  subst hi;have hbl:b=l.map λ s=>s.2.2:=by
   refine List.ext_getElem? λ j=>?_
   by_cases h:j<l.length
   ·exact hj j h
   ·rw[List.getElem?_eq_none (by omega),List.getElem?_eq_none (by rw[List.length_map];omega)]
  refine Good.frz (i:=29) (e:=uB) (et:=5) (xs:=b) rfl (λ c hc=>?_) ?_
  ·have hc:c∈[0+b.length<=b.length]:=hc;rw[List.mem_singleton] at hc;subst hc;omega
  ·have e:GD 73 Tryd.f73 (λ rs _=>rs=[.agg [.i k,.i a,.i l.length,.u 0,.sl uB (l.map λ s=>s.2.2)]]) (hd Tryd.f73 0) ⟨[(4,.ptr 4 0),(5,.ptr 5 0),(31,.sl syS l),(32,.i l.length),(33,.i (l.length:Nat))],[(4,.var [.i 0,.i 0,.i 0,.u 0,.nils]),(5,.var [.i k,.i a,.i l.length,.u 0,.sl uB (winL uB 0 b.length b)])]⟩:=by
    refine qah cx0 (zah k a (winL uB 0 b.length b) l l.length _ _) ?_;rw[decide_eq_false (by omega),bc_f,winA,hbl]
   exact e.only ⟨rfl,rfl,rfl,rfl,rfl,trivial⟩ ⟨rfl,rfl,trivial⟩
 | succ n ih=>
  intro i b hk hi hb hj;have hil:i<l.length:=by omega
  refine qah cx0 (qrl k a b l i _ _) ?_;rw[decide_eq_true (show (i:Int)<(l.length:Int) by omega),bc_t,Int.toNat_natCast,qjd hil,IntWalk.i64_in ((i:Int)+1) (by omega),Nat.zero_add];refine ⟨by omega,by omega,by omega,by omega,by omega,?_⟩;refine (ih (i+1) (b.set i l[i].2.2) (by omega) (by omega) (by rw[List.length_set];exact hb) (λ j h=>?_)).only ⟨rfl,rfl,rfl,rfl,rfl,trivial⟩ ⟨rfl,?_,rfl,trivial⟩
  ·rw[List.getElem?_set];by_cases hji:i=j
   ·subst hji;rw[if_pos rfl,if_pos (by omega),List.getElem?_map,List.getElem?_eq_getElem hil];rfl
   ·rw[if_neg hji];exact hj j (by omega)
  ·rw[List.length_set];rfl
theorem qxz (k:Int) (l:List SyT) (hp:preMk k l):GD 73 Tryd.f73 (QC ctMk (k,l,())) [.code (qad Tryd.f73)] (entry [iI,.sl syS] (k,l,())):=by
 obtain ⟨hk,h0,h1⟩:=hp;have dat:k=2\/k=4->GD 73 Tryd.f73 (QC ctMk (k,l,())) (hd Tryd.f73 0) ⟨[(4,.ptr 4 0),(5,.ptr 5 0),(31,.sl syS l),(32,.i l.length),(33,.i ((0:Nat):Int))],[(4,.var [.i 0,.i 0,.i 0,.u 0,.nils]),(5,.var [.i k,.i (gtY l 0).2.1,.i l.length,.u 0,.win true uB 29 0 (List.replicate (l.length:Int).toNat (0:Int)).length]),(29,.row 5 uB (List.replicate (l.length:Int).toNat (0:Int)))]⟩:=λ hk2=>by
  refine (qqm k (gtY l 0).2.1 l h1 _ 0 (List.replicate (l.length:Int).toNat 0) rfl (by omega) (by rw[List.length_replicate,Int.toNat_natCast]) (λ j h=>by omega)).post λ rs blk hq=>QC.flat ?_ rfl (by rw[hq];rfl)
  rw[hq]
  show mdV (mdK k l)=_
  unfold mdK;rw[if_neg (show ¬ k=3 by omega),if_pos hk2];rfl
 have room:(0:Int)<=(l.length:Int)/\(l.length:Int)<=(l.length:Int)/\(l.length:Int)<(2:Int) ^ (24:Nat)/\((1:Nat):Int)*(l.length:Int)<=(2:Int) ^ (48:Nat):=by
  refine ⟨by omega,by omega,?_,?_⟩
  ·show (l.length:Int)<16777216
   omega
  ·show (1:Int)*(l.length:Int)<=281474976710656
   omega
 refine qah cx0 (q5m k l _ _) ⟨by omega,by omega,qaf (λ h=>⟨by omega,by omega,?_⟩) (λ h=>qaf (λ h2=>?_) (λ h2=>qaf (λ h3=>?_) (λ h3=>?_)))⟩
 ·have h:=of_decide_eq_true h;subst h;refine QC.mt ?_ rfl
  show MtL _ (mdV (mdK 3 l)) _
  exact ⟨_,_,rfl,⟨_,rfl,_,_,rfl,rfl,_,_,rfl,rfl,_,_,rfl,rfl,_,_,rfl,rfl,_,_,rfl,.inr ⟨rfl,rfl⟩,rfl⟩,rfl⟩
 ·have h2':=of_decide_eq_true h2;rw[h2,bc_t];refine ⟨room.1,room.2.1,room.2.2.1,room.2.2.2,(dat (.inl h2')).only ⟨rfl,rfl,rfl,rfl,rfl,trivial⟩ ⟨rfl,?_,rfl,trivial⟩⟩;rw[List.length_replicate];rfl
 ·have h3':=of_decide_eq_true h3;refine ⟨room.1,room.2.1,room.2.2.1,room.2.2.2,(dat (.inr h3')).only ⟨rfl,rfl,rfl,rfl,rfl,trivial⟩ ⟨rfl,?_,rfl,trivial⟩⟩;rw[List.length_replicate];rfl
 ·have h:=of_decide_eq_false h;have h2:=of_decide_eq_false h2;have h3:=of_decide_eq_false h3;unfold kOK at hk;have hk1:k=1:=by omega
  subst hk1;refine QC.mt ?_ rfl
  show MtL _ (mdV (mdK 1 l)) _
  exact ⟨_,_,rfl,⟨_,rfl,_,_,rfl,rfl,_,_,rfl,rfl,_,_,rfl,rfl,_,_,rfl,rfl,_,_,rfl,.inr ⟨rfl,rfl⟩,rfl⟩,rfl⟩
theorem mk_held:Held Tryd.prog G0 73 ctMk:=Held.of cx0 (fn:=Tryd.f73) rfl rfl ⟨by decide,by decide⟩ λ ⟨k,l,_⟩ hp=>qxz k l hp
def CBs:CV:=[(76,.inl ctBg),(77,.inl ctBet)]
theorem cxBs:CxOK Tryd.prog tt G0 CBs:=(cx0.k qsv (fn:=Tryd.f77)).k q22 (fn:=Tryd.f76)
abbrev gtL (l:List LiT) (i:Nat):LiT:=gt liS l i
set_option maxRecDepth 100000
theorem vc_bs (l:List SyT) (Q:QT) (R:RT):sA CBs Tryd.f72 Q (λ it S=>R it (qaj [0,3,4,5,6] [4,10] S)) [.code (qad Tryd.f72)] (entry [.sl syS] (l,())) =
  ((0:Int)<=i64.wrap ((l.length:Int)+1)/\i64.wrap ((l.length:Int)+1)<=i64.wrap ((l.length:Int)+1)/\i64.wrap ((l.length:Int)+1)<2 ^ 24/\(↑(32:Nat):Int)*i64.wrap ((l.length:Int)+1)<=2 ^ 48/\R (hd Tryd.f72 0) { env:=[(0,.sl syS l),(3,.win true liS 10 0 (i64.wrap ((l.length:Int)+1)).toNat),(4,.ptr 4 0),(5,.i (i64.wrap ((l.length:Int)-1)))],blk:=[(4,.var [.arr (5:Nat) liS (Sh.arr (5:Nat) liS).dflt]),(10,.row 130 liS (List.replicate (i64.wrap ((l.length:Int)+1)).toNat liS.dflt))] }):=by kernel_rfl
theorem q34 (l:List SyT) (b bg:List LiT) (i:Int) (Q:QT) (R:RT):sA CBs Tryd.f72 Q (λ it S=>R it (qaj [0,3,4,5,6] [4,10] S)) (hd Tryd.f72 0) ⟨[(0,.sl syS l),(3,.win true liS 10 0 b.length),(4,.ptr 4 0),(5,.i i)],[(4,.var [.arr 5 liS bg]),(10,.row 130 liS b)]⟩ =
  (bc (decide ((0:Int)<=i)) (R (hd Tryd.f72 1) { env:=[(0,.sl syS l),(3,.win true liS 10 0 b.length),(4,.ptr 4 0),(5,.i i),(6,.i 1)],blk:=[(4,.var [.arr (5:Nat) liS bg]),(10,.row 130 liS b)] }) (Q [.win true liS 10 0 b.length] [(4,.var [.arr (5:Nat) liS bg]),(10,.row 130 liS b)])):=by kernel_rfl
theorem q35 (l:List SyT) (b bg:List LiT) (i k:Int) (Q:QT) (R:RT):sA CBs Tryd.f72 Q (λ it S=>R it (qaj [0,3,4,5,6] [4,10] S)) (hd Tryd.f72 1) ⟨[(0,.sl syS l),(3,.win true liS 10 0 b.length),(4,.ptr 4 0),(5,.i i),(6,.i k)],[(4,.var [.arr 5 liS bg]),(10,.row 130 liS b)]⟩ =
  (bc (decide (k<=4)) ((0:Int)<=i/\i<=(l.length:Int)/\(0:Int)<=i64.wrap (i+1)/\i64.wrap (i+1)<(b.length:Int)/\0+(i64.wrap (i+1)).toNat<b.length/\(0:Int)<=k/\k<(↑(5:Nat):Int)/\k.toNat<5/\ctBg.pre (k,List.drop i.toNat l,((gtL b (0+(i64.wrap (i+1)).toNat)).2.2),(gtL bg k.toNat),())/\(0:Int)<=k/\k<(↑(5:Nat):Int)/\k.toNat<5/\(0:Int)<=k/\k<(↑(5:Nat):Int)/\k.toNat<5/\(0:Int)<=i/\i<(b.length:Int)/\0+i.toNat<b.length/\ctBet.pre ((gtL (bg.set k.toNat (begL k (List.drop i.toNat l) ((gtL b (0+(i64.wrap (i+1)).toNat)).2.2) (gtL bg k.toNat))) k.toNat),(gtL b (0+i.toNat)),())/\bc (betB (gtL (bg.set k.toNat (begL k (List.drop i.toNat l) ((gtL b (0+(i64.wrap (i+1)).toNat)).2.2) (gtL bg k.toNat))) k.toNat) (gtL b (0+i.toNat))) ((0:Int)<=k/\k<(↑(5:Nat):Int)/\k.toNat<5/\(0:Int)<=i/\i<(b.length:Int)/\0+i.toNat<b.length/\R (hd Tryd.f72 1) { env:=[(0,.sl syS l),(3,.win true liS 10 0 b.length),(4,.ptr 4 0),(5,.i i),(6,.i (i64.wrap (k+1)))],blk:=[(4,.var [.arr (5:Nat) liS (bg.set k.toNat (begL k (List.drop i.toNat l) ((gtL b (0+(i64.wrap (i+1)).toNat)).2.2) (gtL bg k.toNat)))]),(10,.row 130 liS (b.set (0+i.toNat) (gtL (bg.set k.toNat (begL k (List.drop i.toNat l) ((gtL b (0+(i64.wrap (i+1)).toNat)).2.2) (gtL bg k.toNat))) k.toNat)))] }) (R (hd Tryd.f72 1) { env:=[(0,.sl syS l),(3,.win true liS 10 0 b.length),(4,.ptr 4 0),(5,.i i),(6,.i (i64.wrap (k+1)))],blk:=[(4,.var [.arr (5:Nat) liS (bg.set k.toNat (begL k (List.drop i.toNat l) ((gtL b (0+(i64.wrap (i+1)).toNat)).2.2) (gtL bg k.toNat)))]),(10,.row 130 liS b)] })) (R (hd Tryd.f72 0) { env:=[(0,.sl syS l),(3,.win true liS 10 0 b.length),(4,.ptr 4 0),(5,.i (i64.wrap (i-1))),(6,.i k)],blk:=[(4,.var [.arr (5:Nat) liS bg]),(10,.row 130 liS b)] })):=by kernel_rfl
end Go.Proofs.YtdeacfammdjajaaDoor
