/-
  A part of the proof: what pieces of the program give; conditions: those of each theorem.
-/
import Derived.Test.YtgopblmdkjkbbaaGreatDoorQ1
import Derived.Test.YtgopblmdkjkbbaaGreatDoorQ0
import Derived.Test.YtgopblmdkjkbbaaGreatDoorHD
set_option linter.unusedVariables false
set_option linter.unusedSimpArgs false
namespace Go.Proofs.YtgopblmdkjkbbaaGreatDoor
open Go.Px Go.Ax
open Go.IntKind(i64 u32 u8)
set_option maxRecDepth 100000
set_option maxRecDepth 100000
theorem vc_op (x:List Int) (n:Int) (Q:QT) (R:RT):sA [] Tryz.f110 Q (λ it S=>R it (qcb [2,4,5,6] [2,4,5] S)) [.code (qah Tryz.f110)] (entry [.arr 4 uB,iI] (x,n,())) =
  ((0:Int)<=0/\(0:Int)<(↑(4:Nat):Int)/\0<4/\(4:Int)≠0/\(0:Int)<=2/\(2:Int)<(↑(4:Nat):Int)/\2<4/\(5:Int)≠0/\bc (decide (i64.wrap ((1:Int)+(i64.wrap (gtB x (0))).tmod (4:Int))<=2)) (bc (decide (n=(0:Int))) (R (hd Tryz.f110 0) { env:=[(2,.ptr 2 0),(4,.ptr 4 0),(5,.ptr 5 0),(6,.i 0)],blk:=[(2,.var [.arr (4:Nat) uB x]),(4,.var [.i 0,.i 0,.i 0,.u 0,.nils]),(5,.var [.i 4,.i 0,.i (i64.wrap ((1:Int)+(i64.wrap (gtB x (2))).tmod (5:Int))),.u 0,.nils])] }) ((0:Int)<=1/\(1:Int)<(↑(4:Nat):Int)/\1<4/\n≠0/\(0:Int)<=2/\(2:Int)<(↑(4:Nat):Int)/\2<4/\i64.wrap (n-(i64.wrap (gtB x (1))).tmod n)≠0/\(5:Int)≠0/\bc (decide (i64.wrap ((1:Int)+(i64.wrap (gtB x (0))).tmod (4:Int))=(3:Int))) ((0:Int)<=3/\(3:Int)<(↑(4:Nat):Int)/\3<4/\R (hd Tryz.f110 0) { env:=[(2,.ptr 2 0),(4,.ptr 4 0),(5,.ptr 5 0),(6,.i 0)],blk:=[(2,.var [.arr (4:Nat) uB x]),(4,.var [.i 0,.i 0,.i 0,.u 0,.nils]),(5,.var [.i (i64.wrap ((1:Int)+(i64.wrap (gtB x (0))).tmod (4:Int))),.i ((i64.wrap (gtB x (1))).tmod n),.i (i64.wrap ((1:Int)+((i64.wrap (gtB x (2))).tmod (i64.wrap (n-(i64.wrap (gtB x (1))).tmod n))).tmod (5:Int))),.u (gtB x (3)),.nils])] }) (R (hd Tryz.f110 0) { env:=[(2,.ptr 2 0),(4,.ptr 4 0),(5,.ptr 5 0),(6,.i 0)],blk:=[(2,.var [.arr (4:Nat) uB x]),(4,.var [.i 0,.i 0,.i 0,.u 0,.nils]),(5,.var [.i (i64.wrap ((1:Int)+(i64.wrap (gtB x (0))).tmod (4:Int))),.i ((i64.wrap (gtB x (1))).tmod n),.i (i64.wrap ((1:Int)+((i64.wrap (gtB x (2))).tmod (i64.wrap (n-(i64.wrap (gtB x (1))).tmod n))).tmod (5:Int))),.u 0,.nils])] }))) (bc (decide (i64.wrap ((1:Int)+(i64.wrap (gtB x (0))).tmod (4:Int))=(3:Int))) ((0:Int)<=3/\(3:Int)<(↑(4:Nat):Int)/\3<4/\R (hd Tryz.f110 0) { env:=[(2,.ptr 2 0),(4,.ptr 4 0),(5,.ptr 5 0),(6,.i 0)],blk:=[(2,.var [.arr (4:Nat) uB x]),(4,.var [.i 0,.i 0,.i 0,.u 0,.nils]),(5,.var [.i (i64.wrap ((1:Int)+(i64.wrap (gtB x (0))).tmod (4:Int))),.i 0,.i (i64.wrap ((1:Int)+(i64.wrap (gtB x (2))).tmod (5:Int))),.u (gtB x (3)),.nils])] }) (R (hd Tryz.f110 0) { env:=[(2,.ptr 2 0),(4,.ptr 4 0),(5,.ptr 5 0),(6,.i 0)],blk:=[(2,.var [.arr (4:Nat) uB x]),(4,.var [.i 0,.i 0,.i 0,.u 0,.nils]),(5,.var [.i (i64.wrap ((1:Int)+(i64.wrap (gtB x (0))).tmod (4:Int))),.i 0,.i (i64.wrap ((1:Int)+(i64.wrap (gtB x (2))).tmod (5:Int))),.u 0,.nils])] }))):=by kernel_rfl
def qkv (x:List Int) (k a n b:Int):List (Nat × LB):=[(2,.var [.arr (4:Nat) uB x]),(4,.var [.i k,.i a,.i n,.u b,.nils]),(5,.var [.i k,.i a,.i n,.u b,.nils])]
theorem q20 (x:List Int) (k a n b:Int) (i:Nat) (Q:QT) (R:RT):sA [] Tryz.f110 Q (λ it S=>R it (qcb [2,4,5,6] [2,4,5,76] S)) (hd Tryz.f110 0) ⟨[(2,.ptr 2 0),(4,.ptr 4 0),(5,.ptr 5 0),(6,.i (i:Nat))],[(2,.var [.arr 4 uB x]),(4,.var [.i 0,.i 0,.i 0,.u 0,.nils]),(5,.var [.i k,.i a,.i n,.u b,.nils])]⟩ =
  (bc (decide ((i:Int)<n)) (bc (decide (k=(2:Int))) (true=true/\(0:Int)<=3/\(3:Int)<(↑(4:Nat):Int)/\3<4/\(0:Int)<=0/\(0:Int)<(↑(4:Nat):Int)/\0<4/\(4:Int)≠0/\(0:Nat)+1<=([(u8.wrap (gtB x (3)*u8.wrap (i64.wrap ((i:Int)+i64.wrap ((i64.wrap (gtB x (0))).tdiv (4:Int))))))]:List uB.D).length/\(([(u8.wrap (gtB x (3)*u8.wrap (i64.wrap ((i:Int)+i64.wrap ((i64.wrap (gtB x (0))).tdiv (4:Int))))))]:List uB.D)).length<2 ^ 30/\(1:Nat)<=2 ^ 10/\R (hd Tryz.f110 0) { env:=[(2,.ptr 2 0),(4,.ptr 4 0),(5,.ptr 5 0),(6,.i (i64.wrap ((i:Int)+1)))],blk:=[(2,.var [.arr (4:Nat) uB x]),(4,.var [.i 0,.i 0,.i 0,.u 0,.nils]),(5,.var [.i k,.i a,.i n,.u b,.win true uB 76 0 (1:Nat)]),(76,.row 5 uB (([(u8.wrap (gtB x (3)*u8.wrap (i64.wrap ((i:Int)+i64.wrap ((i64.wrap (gtB x (0))).tdiv (4:Int))))))]:List uB.D)))] }) (bc (decide (k=(4:Int))) ((0:Int)<=3/\(3:Int)<(↑(4:Nat):Int)/\3<4/\(0:Int)<=0/\(0:Int)<(↑(4:Nat):Int)/\0<4/\(4:Int)≠0/\(0:Nat)+1<=([(u8.wrap (gtB x (3)*u8.wrap (i64.wrap ((i:Int)+i64.wrap ((i64.wrap (gtB x (0))).tdiv (4:Int))))))]:List uB.D).length/\(([(u8.wrap (gtB x (3)*u8.wrap (i64.wrap ((i:Int)+i64.wrap ((i64.wrap (gtB x (0))).tdiv (4:Int))))))]:List uB.D)).length<2 ^ 30/\(1:Nat)<=2 ^ 10/\R (hd Tryz.f110 0) { env:=[(2,.ptr 2 0),(4,.ptr 4 0),(5,.ptr 5 0),(6,.i (i64.wrap ((i:Int)+1)))],blk:=[(2,.var [.arr (4:Nat) uB x]),(4,.var [.i 0,.i 0,.i 0,.u 0,.nils]),(5,.var [.i k,.i a,.i n,.u b,.win true uB 76 0 (1:Nat)]),(76,.row 5 uB (([(u8.wrap (gtB x (3)*u8.wrap (i64.wrap ((i:Int)+i64.wrap ((i64.wrap (gtB x (0))).tdiv (4:Int))))))]:List uB.D)))] }) (Q [.agg [.i k,.i a,.i n,.u b,.nils]] (qkv x k a n b)))) (false=false/\Q [.agg [.i k,.i a,.i n,.u b,.nils]] (qkv x k a n b))):=by kernel_rfl
def qku (x d:List Int) (k a n b:Int):List (Nat × LB):=[(2,.var [.arr (4:Nat) uB x]),(4,.var [.i k,.i a,.i n,.u b,.win true uB 76 0 d.length]),(5,.var [.i k,.i a,.i n,.u b,.win true uB 76 0 d.length]),(76,.row 5 uB d)]
theorem q2z (x d:List Int) (k a n b:Int) (i:Nat) (Q:QT) (R:RT):sA [] Tryz.f110 Q (λ it S=>R it (qcb [2,4,5,6] [2,4,5,76] S)) (hd Tryz.f110 0) ⟨[(2,.ptr 2 0),(4,.ptr 4 0),(5,.ptr 5 0),(6,.i (i:Nat))],[(2,.var [.arr 4 uB x]),(4,.var [.i 0,.i 0,.i 0,.u 0,.nils]),(5,.var [.i k,.i a,.i n,.u b,.win true uB 76 0 d.length]),(76,.row 5 uB d)]⟩ =
  (bc (decide ((i:Int)<n)) (bc (decide (k=(2:Int))) (true=true/\(0:Int)<=3/\(3:Int)<(↑(4:Nat):Int)/\3<4/\(0:Int)<=0/\(0:Int)<(↑(4:Nat):Int)/\0<4/\(4:Int)≠0/\(0:Nat)+1<=([(u8.wrap (gtB x (3)*u8.wrap (i64.wrap ((i:Int)+i64.wrap ((i64.wrap (gtB x (0))).tdiv (4:Int))))))]:List uB.D).length/\d.length=d.length/\(0:Nat)=(0:Nat)/\d.length+(([(u8.wrap (gtB x (3)*u8.wrap (i64.wrap ((i:Int)+i64.wrap ((i64.wrap (gtB x (0))).tdiv (4:Int))))))]:List uB.D)).length<2 ^ 30/\(1:Nat)<=2 ^ 10/\R (hd Tryz.f110 0) { env:=[(2,.ptr 2 0),(4,.ptr 4 0),(5,.ptr 5 0),(6,.i (i64.wrap ((i:Int)+1)))],blk:=[(2,.var [.arr (4:Nat) uB x]),(4,.var [.i 0,.i 0,.i 0,.u 0,.nils]),(5,.var [.i k,.i a,.i n,.u b,.win true uB 76 0 (d.length+(([(u8.wrap (gtB x (3)*u8.wrap (i64.wrap ((i:Int)+i64.wrap ((i64.wrap (gtB x (0))).tdiv (4:Int))))))]:List uB.D)).length)]),(76,.row 5 uB (d++([(u8.wrap (gtB x (3)*u8.wrap (i64.wrap ((i:Int)+i64.wrap ((i64.wrap (gtB x (0))).tdiv (4:Int))))))]:List uB.D)))] }) (bc (decide (k=(4:Int))) ((0:Int)<=3/\(3:Int)<(↑(4:Nat):Int)/\3<4/\(0:Int)<=0/\(0:Int)<(↑(4:Nat):Int)/\0<4/\(4:Int)≠0/\(0:Nat)+1<=([(u8.wrap (gtB x (3)*u8.wrap (i64.wrap ((i:Int)+i64.wrap ((i64.wrap (gtB x (0))).tdiv (4:Int))))))]:List uB.D).length/\d.length=d.length/\(0:Nat)=(0:Nat)/\d.length+(([(u8.wrap (gtB x (3)*u8.wrap (i64.wrap ((i:Int)+i64.wrap ((i64.wrap (gtB x (0))).tdiv (4:Int))))))]:List uB.D)).length<2 ^ 30/\(1:Nat)<=2 ^ 10/\R (hd Tryz.f110 0) { env:=[(2,.ptr 2 0),(4,.ptr 4 0),(5,.ptr 5 0),(6,.i (i64.wrap ((i:Int)+1)))],blk:=[(2,.var [.arr (4:Nat) uB x]),(4,.var [.i 0,.i 0,.i 0,.u 0,.nils]),(5,.var [.i k,.i a,.i n,.u b,.win true uB 76 0 (d.length+(([(u8.wrap (gtB x (3)*u8.wrap (i64.wrap ((i:Int)+i64.wrap ((i64.wrap (gtB x (0))).tdiv (4:Int))))))]:List uB.D)).length)]),(76,.row 5 uB (d++([(u8.wrap (gtB x (3)*u8.wrap (i64.wrap ((i:Int)+i64.wrap ((i64.wrap (gtB x (0))).tdiv (4:Int))))))]:List uB.D)))] }) (Q [.agg [.i k,.i a,.i n,.u b,.win true uB 76 0 d.length]] (qku x d k a n b)))) (false=false/\Q [.agg [.i k,.i a,.i n,.u b,.win true uB 76 0 d.length]] (qku x d k a n b))):=by kernel_rfl
def qkt (x d:List Int) (k a n b:Int):List (Nat × LB):=[(2,.var [.arr (4:Nat) uB x]),(4,.var [.i k,.i a,.i n,.u b,.sl uB d]),(5,.var [.i k,.i a,.i n,.u b,.sl uB d])]
theorem q2y (x d:List Int) (k a n b:Int) (i:Nat) (Q:QT) (R:RT):sA [] Tryz.f110 Q (λ it S=>R it (qcb [2,4,5,6] [2,4,5,76] S)) (hd Tryz.f110 0) ⟨[(2,.ptr 2 0),(4,.ptr 4 0),(5,.ptr 5 0),(6,.i (i:Nat))],[(2,.var [.arr 4 uB x]),(4,.var [.i 0,.i 0,.i 0,.u 0,.nils]),(5,.var [.i k,.i a,.i n,.u b,.sl uB d])]⟩ =
  (bc (decide ((i:Int)<n)) (bc (decide (k=(2:Int))) (true=true/\(0:Int)<=3/\(3:Int)<(↑(4:Nat):Int)/\3<4/\(0:Int)<=0/\(0:Int)<(↑(4:Nat):Int)/\0<4/\(4:Int)≠0/\False) (bc (decide (k=(4:Int))) ((0:Int)<=3/\(3:Int)<(↑(4:Nat):Int)/\3<4/\(0:Int)<=0/\(0:Int)<(↑(4:Nat):Int)/\0<4/\(4:Int)≠0/\False) (Q [.agg [.i k,.i a,.i n,.u b,.sl uB d]] (qkt x d k a n b)))) (false=false/\Q [.agg [.i k,.i a,.i n,.u b,.sl uB d]] (qkt x d k a n b))):=by kernel_rfl
attribute [local irreducible] Go.Px.sy Go.Px.syE
def elA (x:List Int) (i:Nat):Int:=u8.wrap (gtB x 3*u8.wrap (i64.wrap ((i:Int)+i64.wrap ((i64.wrap (gtB x 0)).tdiv 4))))
def datA (x:List Int) (n:Nat):List Int:=(List.range n).map (elA x)
theorem ql7 (x:List Int) (n:Nat):(datA x n).length=n:=by simp[datA]
theorem qvf (x:List Int) (i:Nat):datA x (i+1)=datA x i++[elA x i]:=by simp[datA,List.range_succ]
def datO (x:List Int) (k n:Int):List Int:=if k=2\/k=4 then datA x n.toNat else []
def opV (x:List Int) (n:Int):OpT:=
 if 1+(gtB x 0).tmod 4<=2 then
  if n=0 then (4,0,1+(gtB x 2).tmod 5,0,datO x 4 (1+(gtB x 2).tmod 5))
  else (1+(gtB x 0).tmod 4,(gtB x 1).tmod n,1+((gtB x 2).tmod (n-(gtB x 1).tmod n)).tmod 5,0,datO x (1+(gtB x 0).tmod 4) (1+((gtB x 2).tmod (n-(gtB x 1).tmod n)).tmod 5))
 else (1+(gtB x 0).tmod 4,0,1+(gtB x 2).tmod 5,if 1+(gtB x 0).tmod 4=3 then gtB x 3 else 0,datO x (1+(gtB x 0).tmod 4) (1+(gtB x 2).tmod 5))
def qoc (x:List Int):Prop:=∀ j,0<=gtB x j/\gtB x j<256
def preN (n:Int):Prop:=0<=n/\n<16777216
def ctOp:Ctr:=⟨[.arr 4 uB,iI],λ x=>qoc x.1/\preN x.2.1,λ x=>mdV (opV x.1 x.2.1),λ _=>[]⟩
abbrev OpQ (o:OpT):List SV->List (Nat × LB)->Prop:=λ rs _=>MtL (λ _=>none) (mdV o) rs
theorem qxh (x:List Int) (k a b:Int) (n:Nat) (hn:n<16777216) (hk:k=2\/k=4):∀ (m i:Nat),n-i=m->i<=n ->
  GD 110 Tryz.f110 (OpQ (k,a,n,b,datA x n)) (hd Tryz.f110 0) ⟨[(2,.ptr 2 0),(4,.ptr 4 0),(5,.ptr 5 0),(6,.i (i:Nat))],[(2,.var [.arr 4 uB x]),(4,.var [.i 0,.i 0,.i 0,.u 0,.nils]),(5,.var [.i k,.i a,.i (n:Nat),.u b,.win true uB 76 0 (datA x i).length]),(76,.row 5 uB (datA x i))]⟩:=by
 intro m
 induction m with
 | zero=>
  intro i hm hi;have hi:i=n:=by omega
  subst hi;refine Good.frz (i:=76) (e:=uB) (et:=5) (xs:=datA x i) rfl (λ c hc=>?_) ?_
  ·have hc:c∈[0+(datA x i).length<=(datA x i).length]:=hc;rw[List.mem_singleton] at hc;subst hc;omega
  ·have e:GD 110 Tryz.f110 (OpQ (k,a,i,b,datA x i)) (hd Tryz.f110 0) ⟨[(2,.ptr 2 0),(4,.ptr 4 0),(5,.ptr 5 0),(6,.i (i:Nat))],[(2,.var [.arr 4 uB x]),(4,.var [.i 0,.i 0,.i 0,.u 0,.nils]),(5,.var [.i k,.i a,.i (i:Nat),.u b,.sl uB (winL uB 0 (datA x i).length (datA x i))])]⟩:=by
    refine qaw cx0 (q2y x (winL uB 0 (datA x i).length (datA x i)) k a i b i _ _) ?_;rw[decide_eq_false (by omega),bc_f,winA];exact ⟨rfl,_,_,rfl,⟨_,rfl,_,_,rfl,rfl,_,_,rfl,rfl,_,_,rfl,rfl,_,_,rfl,rfl,_,_,rfl,.inl rfl,rfl⟩,rfl⟩
   exact e.only ⟨rfl,rfl,rfl,rfl,trivial⟩ ⟨rfl,rfl,rfl,trivial⟩
 | succ m ih=>
  intro i hm hi;have nx:=ih (i+1) (by omega) (by omega);have hl:=ql7 x i;have hl2:=ql7 x (i+1);rw[qvf] at nx hl2;refine qaw cx0 (q2z x (datA x i) k a n b i _ _) ?_;rw[decide_eq_true (show (i:Int)<(n:Int) by omega),bc_t,IntWalk.i64_in ((i:Int)+1) (by omega)];have tl:GD 110 Tryz.f110 (OpQ (k,a,n,b,datA x n)) (hd Tryz.f110 0) ⟨[(2,.ptr 2 0),(4,.ptr 4 0),(5,.ptr 5 0),(6,.i ((i:Int)+1))],[(2,.var [.arr 4 uB x]),(4,.var [.i 0,.i 0,.i 0,.u 0,.nils]),(5,.var [.i k,.i a,.i (n:Nat),.u b,.win true uB 76 0 ((datA x i).length+1)]),(76,.row 5 uB (datA x i++[elA x i]))]⟩:=
   nx.only ⟨rfl,rfl,rfl,rfl,trivial⟩ ⟨rfl,rfl,by rw[List.length_append];rfl,rfl,trivial⟩
  have h30:(datA x i).length+1<2 ^ 30:=by omega
  rcases hk with rfl | rfl
  ·rw[decide_eq_true rfl,bc_t];exact ⟨rfl,by decide,by decide,by decide,by decide,by decide,by decide,by decide,Nat.le_refl 1,rfl,rfl,h30,by decide,tl⟩
  ·rw[decide_eq_false (by decide),bc_f,decide_eq_true rfl,bc_t];exact ⟨by decide,by decide,by decide,by decide,by decide,by decide,by decide,Nat.le_refl 1,rfl,rfl,h30,by decide,tl⟩
theorem qxi (x:List Int) (k a b:Int) (n:Nat) (hn:n<16777216) (h0:0<n) :
  GD 110 Tryz.f110 (OpQ (k,a,n,b,datO x k n)) (hd Tryz.f110 0) ⟨[(2,.ptr 2 0),(4,.ptr 4 0),(5,.ptr 5 0),(6,.i 0)],[(2,.var [.arr 4 uB x]),(4,.var [.i 0,.i 0,.i 0,.u 0,.nils]),(5,.var [.i k,.i a,.i (n:Nat),.u b,.nils])]⟩:=by
 refine qaw cx0 (q20 x k a n b 0 _ _) ?_;rw[decide_eq_true (show ((0:Nat):Int)<(n:Int) by omega),bc_t,IntWalk.i64_in (((0:Nat):Int)+1) (by omega)];have tl:(k=2\/k=4)->GD 110 Tryz.f110 (OpQ (k,a,n,b,datO x k n)) (hd Tryz.f110 0) ⟨[(2,.ptr 2 0),(4,.ptr 4 0),(5,.ptr 5 0),(6,.i (((0:Nat):Int)+1))],[(2,.var [.arr 4 uB x]),(4,.var [.i 0,.i 0,.i 0,.u 0,.nils]),(5,.var [.i k,.i a,.i (n:Nat),.u b,.win true uB 76 0 1]),(76,.row 5 uB [elA x 0])]⟩:=λ hk=>by
  have:=qxh x k a b n hn hk _ 1 rfl (by omega);have e:datO x k n=datA x n:=by unfold datO;rw[if_pos hk,Int.toNat_natCast]
  rw[e];exact this
 refine qaf (λ h=>?_) (λ h=>qaf (λ h2=>?_) (λ h2=>?_))
 ·have h:k=2:=of_decide_eq_true h;exact ⟨rfl,by decide,by decide,by decide,by decide,by decide,by decide,by decide,Nat.le_refl 1,(show 1<2 ^ 30 by decide),by decide,tl (.inl h)⟩
 ·have h2:k=4:=of_decide_eq_true h2;exact ⟨by decide,by decide,by decide,by decide,by decide,by decide,by decide,Nat.le_refl 1,(show 1<2 ^ 30 by decide),by decide,tl (.inr h2)⟩
 ·have h:¬ k=2:=of_decide_eq_false h;have h2:¬ k=4:=of_decide_eq_false h2;have e:datO x k n=[]:=if_neg (by omega);rw[e];exact ⟨_,_,rfl,⟨_,rfl,_,_,rfl,rfl,_,_,rfl,rfl,_,_,rfl,rfl,_,_,rfl,rfl,_,_,rfl,.inr ⟨rfl,rfl⟩,rfl⟩,rfl⟩
theorem qc9 {a b:Int} (h:0<=a) (hb:0<b):0<=a.tmod b/\a.tmod b<b:=⟨Int.tmod_nonneg _ h,Int.tmod_lt_of_pos _ hb⟩
theorem q3r (x:List Int) (n:Int) (hx:qoc x) (hn0:0<=n) (hn1:n<16777216):GD 110 Tryz.f110 (QC ctOp (x,n,())) [.code (qah Tryz.f110)] (entry [.arr 4 uB,iI] (x,n,())):=by
 have wx:∀ j,i64.wrap (gtB x j)=gtB x j:=λ j=>IntWalk.i64_in _ (by have:=hx j;omega)
 have m0:=qc9 (hx 0).1 (b:=4) (by decide);have m2:=qc9 (hx 2).1 (b:=5) (by decide);have w0:i64.wrap (1+(gtB x 0).tmod 4)=1+(gtB x 0).tmod 4:=IntWalk.i64_in _ (by omega);have w2:i64.wrap (1+(gtB x 2).tmod 5)=1+(gtB x 2).tmod 5:=IntWalk.i64_in _ (by omega);have go:∀ (k a len b:Int),0<len->len<16777216->opV x n=(k,a,len,b,datO x k len)->GD 110 Tryz.f110 (QC ctOp (x,n,())) (hd Tryz.f110 0) ⟨[(2,.ptr 2 0),(4,.ptr 4 0),(5,.ptr 5 0),(6,.i 0)],[(2,.var [.arr 4 uB x]),(4,.var [.i 0,.i 0,.i 0,.u 0,.nils]),(5,.var [.i k,.i a,.i len,.u b,.nils])]⟩:=λ k a len b h1 h2 h3=>by
  obtain ⟨N,rfl⟩:=Int.eq_ofNat_of_zero_le (Int.le_of_lt h1);refine (qxi x k a b N (by omega) (by omega)).post λ rs blk hq=>QC.mt ?_ rfl
  show MtL _ (mdV (opV x n)) _
  rw[h3];exact hq
 refine qaw cx0 (vc_op x n _ _) ?_;simp only[wx,w0,w2];refine ⟨by decide,by decide,by decide,by decide,by decide,by decide,by decide,by decide,qaf (λ h=>?_) (λ h=>?_)⟩
 ·have h:1+(gtB x 0).tmod 4<=2:=of_decide_eq_true h;refine qaf (λ h2=>?_) (λ h2=>?_)
  ·have h2:n=0:=of_decide_eq_true h2;exact go _ _ _ _ (by omega) (by omega) (by unfold opV;rw[if_pos h,if_pos h2])
  ·have h2:¬ n=0:=of_decide_eq_false h2;have m1:=qc9 (hx 1).1 (b:=n) (by omega);have w1:i64.wrap (n-(gtB x 1).tmod n)=n-(gtB x 1).tmod n:=IntWalk.i64_in _ (by omega);have m3:=qc9 (hx 2).1 (b:=n-(gtB x 1).tmod n) (by omega);have m4:=qc9 m3.1 (b:=5) (by decide);have w3:i64.wrap (1+((gtB x 2).tmod (n-(gtB x 1).tmod n)).tmod 5)=1+((gtB x 2).tmod (n-(gtB x 1).tmod n)).tmod 5:=IntWalk.i64_in _ (by omega);rw[w1,w3];refine ⟨by decide,by decide,by decide,h2,by decide,by decide,by decide,by omega,by decide,qaf (λ h3=>?_) (λ h3=>?_)⟩
   ·have h3:1+(gtB x 0).tmod 4=3:=of_decide_eq_true h3;omega
   ·exact go _ _ _ _ (by omega) (by omega) (by unfold opV;rw[if_pos h,if_neg h2])
 ·have h:¬ 1+(gtB x 0).tmod 4<=2:=of_decide_eq_false h;refine qaf (λ h3=>?_) (λ h3=>?_)
  ·have h3:1+(gtB x 0).tmod 4=3:=of_decide_eq_true h3;exact ⟨by decide,by decide,by decide,go _ _ _ _ (by omega) (by omega) (by unfold opV;rw[if_neg h,if_pos h3])⟩
  ·have h3:¬ 1+(gtB x 0).tmod 4=3:=of_decide_eq_false h3;exact go _ _ _ _ (by omega) (by omega) (by unfold opV;rw[if_neg h,if_neg h3])
theorem q1e:Held Tryz.prog G0 110 ctOp:=
 Held.of cx0 (fn:=Tryz.f110) rfl rfl ⟨by decide,by decide⟩ λ ⟨x,n,_⟩ hp=>q3r x n hp.1 hp.2.1 hp.2.2
abbrev a4S:Sh:=.arr 4 uB
abbrev raS:Sh:=.pair uB (.sl a4S)
def C54:CV:=[(110,.inl ctOp)]
theorem cx54:CxOK Tryz.prog tt G0 C54:=cx0.k q1e (fn:=Tryz.f110)
set_option maxRecDepth 100000
theorem qvw (z m:Int) (l:List (List Int)) (Q:QT) (R:RT):sA C54 Tryz.f58 Q (λ it S=>R it (qcb [1,2,4,5,6] [2,4,5,32] S)) [.code (qah Tryz.f58)] (entry [raS,iI] ((z,l),m,())) =
  (R (hd Tryz.f58 0) { env:=[(1,.i m),(2,.ptr 2 0),(4,.ptr 4 0),(5,.ptr 5 0),(6,.i 0)],blk:=[(2,.var [.u z,.sl a4S l]),(4,.var [.bool false,.i 0,.i 0,.nils]),(5,.var [.bool false,.i m,.i 0,.nils])] }):=by kernel_rfl
def qkr (z m o:Int) (l:List (List Int)):List (Nat × LB):=[(2,.var [.u z,.sl a4S l]),(4,.var [.bool false,.i m,.i o,.nils]),(5,.var [.bool false,.i m,.i o,.nils])]
theorem q2m (z m o:Int) (l:List (List Int)) (i:Nat) (Q:QT) (R:RT):sA C54 Tryz.f58 Q (λ it S=>R it (qcb [1,2,4,5,6] [2,4,5,32] S)) (hd Tryz.f58 0) ⟨[(1,.i m),(2,.ptr 2 0),(4,.ptr 4 0),(5,.ptr 5 0),(6,.i (i:Nat))],[(2,.var [.u z,.sl a4S l]),(4,.var [.bool false,.i 0,.i 0,.nils]),(5,.var [.bool false,.i m,.i o,.nils])]⟩ =
  (bc (decide ((i:Int)<(l.length:Int))) (bc (decide ((i:Int)<6)) ((0:Int)<=(i:Int)/\(i:Int)<(l.length:Int)/\ctOp.pre (gt a4S l (i:Int).toNat,m,())/\(0:Nat)+1<=([(opV (gt a4S l (i:Int).toNat) m)]:List opS.D).length/\(([(opV (gt a4S l (i:Int).toNat) m)]:List opS.D)).length<2 ^ 30/\(56:Nat)<=2 ^ 10/\R (hd Tryz.f58 0) { env:=[(1,.i m),(2,.ptr 2 0),(4,.ptr 4 0),(5,.ptr 5 0),(6,.i (IntKind.i64.wrap ((i:Int)+1)))],blk:=[(2,.var [.u z,.sl a4S l]),(4,.var [.bool false,.i 0,.i 0,.nils]),(5,.var [.bool false,.i m,.i (IntKind.i64.wrap (o+(opV (gt a4S l (i:Int).toNat) m).2.2.1)),.win true opS 32 0 (1:Nat)]),(32,.row 91 opS (([(opV (gt a4S l (i:Int).toNat) m)]:List opS.D)))] }) (Q [.agg [.bool false,.i m,.i o,.nils]] (qkr z m o l))) (false=false/\Q [.agg [.bool false,.i m,.i o,.nils]] (qkr z m o l))):=by kernel_rfl
def qkq (z m o:Int) (l:List (List Int)) (d:List OpT):List (Nat × LB):=[(2,.var [.u z,.sl a4S l]),(4,.var [.bool false,.i m,.i o,.win true opS 32 0 d.length]),(5,.var [.bool false,.i m,.i o,.win true opS 32 0 d.length]),(32,.row 91 opS d)]
theorem q2l (z m o:Int) (l:List (List Int)) (d:List OpT) (i:Nat) (Q:QT) (R:RT):sA C54 Tryz.f58 Q (λ it S=>R it (qcb [1,2,4,5,6] [2,4,5,32] S)) (hd Tryz.f58 0) ⟨[(1,.i m),(2,.ptr 2 0),(4,.ptr 4 0),(5,.ptr 5 0),(6,.i (i:Nat))],[(2,.var [.u z,.sl a4S l]),(4,.var [.bool false,.i 0,.i 0,.nils]),(5,.var [.bool false,.i m,.i o,.win true opS 32 0 d.length]),(32,.row 91 opS d)]⟩ =
  (bc (decide ((i:Int)<(l.length:Int))) (bc (decide ((i:Int)<6)) ((0:Int)<=(i:Int)/\(i:Int)<(l.length:Int)/\ctOp.pre (gt a4S l (i:Int).toNat,m,())/\(0:Nat)+1<=([(opV (gt a4S l (i:Int).toNat) m)]:List opS.D).length/\d.length=d.length/\(0:Nat)=(0:Nat)/\d.length+(([(opV (gt a4S l (i:Int).toNat) m)]:List opS.D)).length<2 ^ 30/\(56:Nat)<=2 ^ 10/\R (hd Tryz.f58 0) { env:=[(1,.i m),(2,.ptr 2 0),(4,.ptr 4 0),(5,.ptr 5 0),(6,.i (IntKind.i64.wrap ((i:Int)+1)))],blk:=[(2,.var [.u z,.sl a4S l]),(4,.var [.bool false,.i 0,.i 0,.nils]),(5,.var [.bool false,.i m,.i (IntKind.i64.wrap (o+(opV (gt a4S l (i:Int).toNat) m).2.2.1)),.win true opS 32 0 (d.length+(([(opV (gt a4S l (i:Int).toNat) m)]:List opS.D)).length)]),(32,.row 91 opS (d++([(opV (gt a4S l (i:Int).toNat) m)]:List opS.D)))] }) (Q [.agg [.bool false,.i m,.i o,.win true opS 32 0 d.length]] (qkq z m o l d))) (false=false/\Q [.agg [.bool false,.i m,.i o,.win true opS 32 0 d.length]] (qkq z m o l d))):=by kernel_rfl
def qkp (z m o:Int) (l:List (List Int)) (d:List OpT):List (Nat × LB):=[(2,.var [.u z,.sl a4S l]),(4,.var [.bool false,.i m,.i o,.sl opS d]),(5,.var [.bool false,.i m,.i o,.sl opS d])]
theorem q2k (z m o:Int) (l:List (List Int)) (d:List OpT) (i:Nat) (Q:QT) (R:RT):sA C54 Tryz.f58 Q (λ it S=>R it (qcb [1,2,4,5,6] [2,4,5,32] S)) (hd Tryz.f58 0) ⟨[(1,.i m),(2,.ptr 2 0),(4,.ptr 4 0),(5,.ptr 5 0),(6,.i (i:Nat))],[(2,.var [.u z,.sl a4S l]),(4,.var [.bool false,.i 0,.i 0,.nils]),(5,.var [.bool false,.i m,.i o,.sl opS d])]⟩ =
  (bc (decide ((i:Int)<(l.length:Int))) (bc (decide ((i:Int)<6)) ((0:Int)<=(i:Int)/\(i:Int)<(l.length:Int)/\ctOp.pre (gt a4S l (i:Int).toNat,m,())/\False) (Q [.agg [.bool false,.i m,.i o,.sl opS d]] (qkp z m o l d))) (false=false/\Q [.agg [.bool false,.i m,.i o,.sl opS d]] (qkp z m o l d))):=by kernel_rfl
def szL (l:List (List Int)) (m:Int) (i:Nat):List OpT:=(List.range i).map λ j=>opV (gt a4S l j) m
def szK (l:List (List Int)):Nat:=min l.length 6
def szO (l:List (List Int)) (m:Int):List OpT:=szL l m (szK l)
def szV (l:List (List Int)) (m:Int):PaT:=(false,m,lenS (szO l m),szO l m)
theorem qsv (l:List (List Int)) (m:Int) (i:Nat):(szL l m i).length=i:=by simp[szL]
theorem qpd (l:List (List Int)) (m:Int) (i:Nat):szL l m (i+1)=szL l m i++[opV (gt a4S l i) m]:=by simp[szL,List.range_succ]
theorem qly (a b:List OpT):lenS (a++b)=lenS a+lenS b:=by simp[lenS]
theorem qoe {x:List Int} {m:Int} (hx:qoc x) (h0:0<=m):1<=(opV x m).2.2.1/\(opV x m).2.2.1<=5:=by
 have m2:=qc9 (hx 2).1 (b:=5) (by decide);unfold opV;split
 ·split
  ·show 1<=1+_/\1+_<=5
   omega
  ·have m1:=qc9 (hx 1).1 (b:=m) (by omega);have m3:=qc9 (hx 2).1 (b:=m-(gtB x 1).tmod m) (by omega);have m4:=qc9 m3.1 (b:=5) (by decide)
   show 1<=1+_/\1+_<=5
   omega
 ·show 1<=1+_/\1+_<=5
  omega
theorem qlb {l:List (List Int)} {m:Int} (hl:∀ j,qoc (gt a4S l j)) (h0:0<=m):∀ i,0<=lenS (szL l m i)/\lenS (szL l m i)<=5*i
 | 0=>by simp[szL,lenS]
 | i+1=>by
  have:=qlb hl h0 i;have h:=qoe (hl i) h0;rw[qpd,qly];have e:lenS [opV (gt a4S l i) m]=(opV (gt a4S l i) m).2.2.1:=by simp[lenS]
  rw[e];omega
def qmw (l:List (List Int)):Prop:=∀ j,qoc (gt a4S l j)
def preSz (l:List (List Int)) (m:Int):Prop:=qmw l/\preN m/\l.length<9223372036854775808
def ctSz:Ctr:=⟨[raS,iI],λ x=>preSz x.1.2 x.2.1,λ x=>[paV (szV x.1.2 x.2.1)],λ _=>[]⟩
abbrev PaQ (p:PaT):List SV->List (Nat × LB)->Prop:=λ rs _=>MtL (λ _=>none) [paV p] rs
section
variable (z m:Int) (l:List (List Int)) (hl:qmw l) (hm0:0<=m) (hm1:m<16777216) (hn:l.length<9223372036854775808)
abbrev szBs (i:Nat) (d:List OpT) (o:Int):PS:=⟨[(1,.i m),(2,.ptr 2 0),(4,.ptr 4 0),(5,.ptr 5 0),(6,.i (i:Nat))],[(2,.var [.u z,.sl a4S l]),(4,.var [.bool false,.i 0,.i 0,.nils]),(5,.var [.bool false,.i m,.i o,.win true opS 32 0 d.length]),(32,.row 91 opS d)]⟩
include hl hm0 hm1 hn
theorem q0h (i:Nat) (hi:i=szK l):GD 58 Tryz.f58 (PaQ (szV l m)) (hd Tryz.f58 0) (szBs z m l i (szL l m i) (lenS (szL l m i))):=by
 have _:=And.intro hl (And.intro hm0 (And.intro hm1 hn));have hd:szL l m i=szO l m:=by rw[hi];rfl
 rw[hd];refine Good.frz (i:=32) (e:=opS) (et:=91) (xs:=szO l m) rfl (λ c hc=>?_) ?_
 ·have hc:c∈[0+(szO l m).length<=(szO l m).length]:=hc;rw[List.mem_singleton] at hc;subst hc;omega
 ·have e:GD 58 Tryz.f58 (PaQ (szV l m)) (Px.hd Tryz.f58 0) ⟨[(1,.i m),(2,.ptr 2 0),(4,.ptr 4 0),(5,.ptr 5 0),(6,.i (i:Nat))],[(2,.var [.u z,.sl a4S l]),(4,.var [.bool false,.i 0,.i 0,.nils]),(5,.var [.bool false,.i m,.i (lenS (szO l m)),.sl opS (winL opS 0 (szO l m).length (szO l m))])]⟩:=by
   refine qaw cx54 (q2k z m (lenS (szO l m)) l (winL opS 0 (szO l m).length (szO l m)) i _ _) ?_;rw[winA];have fin:PaQ (szV l m) [SV.agg [SV.bool false,SV.int IntKind.i64 m,SV.int IntKind.i64 (lenS (szO l m)),SV.sl opS (szO l m)]] []:=⟨_,_,rfl,⟨_,rfl,_,_,rfl,rfl,_,_,rfl,rfl,_,_,rfl,rfl,_,_,rfl,.inl rfl,rfl⟩,rfl⟩;refine qaf (λ h=>qaf (λ h2=>?_) (λ h2=>fin)) (λ h=>⟨rfl,fin⟩);have h:=of_decide_eq_true h;have h2:=of_decide_eq_true h2;unfold szK at hi;omega
  exact e.only ⟨rfl,rfl,rfl,rfl,rfl,trivial⟩ ⟨rfl,rfl,rfl,trivial⟩
theorem qwg:∀ (k i:Nat),szK l-i=k->i<=szK l->GD 58 Tryz.f58 (PaQ (szV l m)) (hd Tryz.f58 0) (szBs z m l i (szL l m i) (lenS (szL l m i))):=by
 intro k
 induction k with
 | zero=>intro i hk hi;exact q0h z m l hl hm0 hm1 hn i (by omega)
 | succ k ih=>
  intro i hk hi;have nx:=ih (i+1) (by omega) (by omega);have hs:=qlb hl hm0 i;have hs2:=qlb hl hm0 (i+1);have h6:i<l.length/\i<6:=by unfold szK at hk hi;omega
  rw[qpd,qly] at nx hs2;have e1:lenS [opV (gt a4S l i) m]=(opV (gt a4S l i) m).2.2.1:=by simp[lenS]
  rw[e1] at nx hs2;refine qaw cx54 (q2l z m (lenS (szL l m i)) l (szL l m i) i _ _) ?_;rw[decide_eq_true (show (i:Int)<(l.length:Int) by omega),bc_t,decide_eq_true (show (i:Int)<(6:Int) by omega),bc_t,Int.toNat_natCast,IntWalk.i64_in ((i:Int)+1) (by omega),IntWalk.i64_in (lenS (szL l m i)+(opV (gt a4S l i) m).2.2.1) (by omega)];refine ⟨by omega,by omega,⟨hl i,hm0,hm1⟩,Nat.le_refl 1,rfl,rfl,?_,by decide,nx.only ⟨rfl,rfl,rfl,rfl,rfl,trivial⟩ ⟨rfl,rfl,by rw[List.length_append];rfl,rfl,trivial⟩⟩
  show (szL l m i).length+1<2 ^ 30
  rw[qsv];omega
theorem qwh:GD 58 Tryz.f58 (PaQ (szV l m)) (hd Tryz.f58 0) ⟨[(1,.i m),(2,.ptr 2 0),(4,.ptr 4 0),(5,.ptr 5 0),(6,.i 0)],[(2,.var [.u z,.sl a4S l]),(4,.var [.bool false,.i 0,.i 0,.nils]),(5,.var [.bool false,.i m,.i 0,.nils])]⟩:=by
 refine qaw cx54 (q2m z m 0 l 0 _ _) ?_;refine qaf (λ h=>qaf (λ h2=>?_) (λ h2=>?_)) (λ h=>⟨rfl,?_⟩)
 ·have h:=of_decide_eq_true h;have nx:=qwg z m l hl hm0 hm1 hn _ 1 rfl (by unfold szK;omega);have hs:=qoe (hl 0) hm0;have e0:szL l m 1=[opV (gt a4S l 0) m]:=rfl;have e1:lenS [opV (gt a4S l 0) m]=(opV (gt a4S l 0) m).2.2.1:=by simp[lenS]
  rw[e0,e1] at nx;rw[Int.toNat_natCast,IntWalk.i64_in (((0:Nat):Int)+1) (by omega),IntWalk.i64_in (0+(opV (gt a4S l 0) m).2.2.1) (by omega),Int.zero_add];exact ⟨by omega,by omega,⟨hl 0,hm0,hm1⟩,Nat.le_refl 1,(show 1<2 ^ 30 by decide),by decide,nx.only ⟨rfl,rfl,rfl,rfl,rfl,trivial⟩ ⟨rfl,rfl,rfl,rfl,trivial⟩⟩
 ·exact absurd (of_decide_eq_false h2) (by decide)
 ·have h:=of_decide_eq_false h;have e:szO l m=[]:=by
   have:l.length=0:=by omega
   unfold szO szK;rw[this];rfl
  show MtL _ [paV (szV l m)] _
  unfold szV;rw[e];exact ⟨_,_,rfl,⟨_,rfl,_,_,rfl,rfl,_,_,rfl,rfl,_,_,rfl,rfl,_,_,rfl,.inr ⟨rfl,rfl⟩,rfl⟩,rfl⟩
end
theorem q0d:Held Tryz.prog G0 58 ctSz:=
 Held.of cx54 (fn:=Tryz.f58) rfl rfl ⟨by decide,by decide⟩ λ ⟨⟨z,l⟩,m,_⟩ hp=>
  qaw cx54 (qvw z m l _ _) ((qwh z m l hp.1 hp.2.1.1 hp.2.1.2 hp.2.2).post λ rs blk hq=>QC.mt hq rfl)
abbrev a2S:Sh:=.arr 2 uB
def C30:CV:=[(58,.inl ctSz)]
theorem cx30:CxOK Tryz.prog tt G0 C30:=cx0.k q0d (fn:=Tryz.f58)
set_option maxRecDepth 100000
theorem qv3 (z:Int) (l:List (List Int)) (Q:QT) (R:RT):sA C30 Tryz.f13 Q R [.code (qah Tryz.f13)] (entry [raS] ((z,l),())) =
  ((13:Int)≠0/\ctSz.pre ((z,l),(i64.wrap z).tmod (13:Int),())/\Q [.agg [.bool (szV l ((i64.wrap z).tmod (13:Int))).1,.i (szV l ((i64.wrap z).tmod (13:Int))).2.1,.i (szV l ((i64.wrap z).tmod (13:Int))).2.2.1,.sl opS (szV l ((i64.wrap z).tmod (13:Int))).2.2.2]] [(1,.var [.u z,.sl (Sh.arr (4:Nat) uB) l]),(2,.var [.bool (szV l ((i64.wrap z).tmod (13:Int))).1,.i (szV l ((i64.wrap z).tmod (13:Int))).2.1,.i (szV l ((i64.wrap z).tmod (13:Int))).2.2.1,.sl opS (szV l ((i64.wrap z).tmod (13:Int))).2.2.2])]):=by kernel_rfl
theorem q2u (l:List (List Int)) (n:Int) (Q:QT) (R:RT):sA [] Tryz.f16 Q (λ it S=>R it (qcb [0,1,5,6] [5,8] S)) [.code (qah Tryz.f16)] (entry [.sl a2S,iI] (l,n,())) =
  (R (hd Tryz.f16 0) { env:=[(0,.sl (Sh.arr (2:Nat) uB) l),(1,.i n),(5,.win true syS 8 0 (0:Nat)),(6,.i 0)],blk:=[(8,.row 93 syS (List.replicate (0:Nat) syS.dflt))] }):=by kernel_rfl
theorem qsi (l:List (List Int)) (o:List SyT) (n:Int) (i:Nat) (Q:QT) (R:RT):sA [] Tryz.f16 Q (λ it S=>R it (qcb [0,1,5,6] [5,93] S)) (hd Tryz.f16 0) ⟨[(0,.sl a2S l),(1,.i n),(5,.win true syS 5 0 o.length),(6,.i (i:Nat))],[(5,.row 93 syS o)]⟩ =
  (bc (decide ((i:Int)<(l.length:Int))) (bc (decide ((i:Int)<20)) ((0:Int)<=(i:Int)/\(i:Int)<(l.length:Int)/\(0:Int)<=0/\(0:Int)<(↑(2:Nat):Int)/\(4:Int)≠0/\bc (decide ((0:Int)<Int.tmod (gtB (gt (Sh.arr (2:Nat) uB) l (i:Int).toNat) (0)) (4:Int))) ((0:Int)<=(i:Int)/\(i:Int)<(l.length:Int)/\(0:Int)<=1/\(1:Int)<(↑(2:Nat):Int)/\(3:Int)≠0/\bc (decide ((0:Int)<n)) ((0:Int)<=(i:Int)/\(i:Int)<(l.length:Int)/\(0:Int)<=1/\(1:Int)<(↑(2:Nat):Int)/\n≠0/\bc (decide ((0:Int)<n)) (bc (decide ((0:Int)<(i:Int))) ((0:Int)<=i64.wrap ((i:Int)-1)/\i64.wrap ((i:Int)-1)<(o.length:Int)/\(0:Nat)+(i64.wrap ((i:Int)-1)).toNat<o.length/\bc (bif true then (gtY o ((0:Nat)+(i64.wrap ((i:Int)-1)).toNat)).1 else false) ((0:Int)<=(i:Int)/\(i:Int)<(l.length:Int)/\(0:Int)<=0/\(0:Int)<(↑(2:Nat):Int)/\(4:Int)≠0/\bc (decide ((1:Int)<Int.tmod (gtB (gt (Sh.arr (2:Nat) uB) l (i:Int).toNat) (0)) (4:Int))) ((0:Int)<=i64.wrap ((i:Int)-1)/\i64.wrap ((i:Int)-1)<(o.length:Int)/\(0:Nat)+(i64.wrap ((i:Int)-1)).toNat<o.length/\bc (decide (i64.wrap ((gtY o ((0:Nat)+(i64.wrap ((i:Int)-1)).toNat)).2.1+1)<n)) ((0:Int)<=i64.wrap ((i:Int)-1)/\i64.wrap ((i:Int)-1)<(o.length:Int)/\(0:Nat)+(i64.wrap ((i:Int)-1)).toNat<o.length/\(0:Nat)+1<=([(bif true then decide ((0:Int)<n) else false,i64.wrap ((gtY o ((0:Nat)+(i64.wrap ((i:Int)-1)).toNat)).2.1+1),Int.tmod (gtB (gt (Sh.arr (2:Nat) uB) l (i:Int).toNat) (1)) (3:Int))]:List syS.D).length/\o.length=o.length/\(0:Nat)=(0:Nat)/\o.length+(winL syS 0 1 ([(bif true then decide ((0:Int)<n) else false,i64.wrap ((gtY o ((0:Nat)+(i64.wrap ((i:Int)-1)).toNat)).2.1+1),Int.tmod (gtB (gt (Sh.arr (2:Nat) uB) l (i:Int).toNat) (1)) (3:Int))]:List syS.D)).length<2 ^ 30/\(24:Nat)<=2 ^ 10/\R (hd Tryz.f16 0) { env:=[(0,.sl (Sh.arr (2:Nat) uB) l),(1,.i n),(5,.win true syS 93 0 (o.length+(winL syS 0 1 ([(bif true then decide ((0:Int)<n) else false,i64.wrap ((gtY o ((0:Nat)+(i64.wrap ((i:Int)-1)).toNat)).2.1+1),Int.tmod (gtB (gt (Sh.arr (2:Nat) uB) l (i:Int).toNat) (1)) (3:Int))]:List syS.D)).length)),(6,.i (i64.wrap ((i:Int)+1)))],blk:=[(93,.row 93 syS (o++([(bif true then decide ((0:Int)<n) else false,i64.wrap ((gtY o ((0:Nat)+(i64.wrap ((i:Int)-1)).toNat)).2.1+1),Int.tmod (gtB (gt (Sh.arr (2:Nat) uB) l (i:Int).toNat) (1)) (3:Int))]:List syS.D)))] }) ((0:Nat)+1<=([(bif true then decide ((0:Int)<n) else false,(i64.wrap (gtB (gt (Sh.arr (2:Nat) uB) l (i:Int).toNat) (1))).tmod n,Int.tmod (gtB (gt (Sh.arr (2:Nat) uB) l (i:Int).toNat) (1)) (3:Int))]:List syS.D).length/\o.length=o.length/\(0:Nat)=(0:Nat)/\o.length+(winL syS 0 1 ([(bif true then decide ((0:Int)<n) else false,(i64.wrap (gtB (gt (Sh.arr (2:Nat) uB) l (i:Int).toNat) (1))).tmod n,Int.tmod (gtB (gt (Sh.arr (2:Nat) uB) l (i:Int).toNat) (1)) (3:Int))]:List syS.D)).length<2 ^ 30/\(24:Nat)<=2 ^ 10/\R (hd Tryz.f16 0) { env:=[(0,.sl (Sh.arr (2:Nat) uB) l),(1,.i n),(5,.win true syS 93 0 (o.length+(winL syS 0 1 ([(bif true then decide ((0:Int)<n) else false,(i64.wrap (gtB (gt (Sh.arr (2:Nat) uB) l (i:Int).toNat) (1))).tmod n,Int.tmod (gtB (gt (Sh.arr (2:Nat) uB) l (i:Int).toNat) (1)) (3:Int))]:List syS.D)).length)),(6,.i (i64.wrap ((i:Int)+1)))],blk:=[(93,.row 93 syS (o++([(bif true then decide ((0:Int)<n) else false,(i64.wrap (gtB (gt (Sh.arr (2:Nat) uB) l (i:Int).toNat) (1))).tmod n,Int.tmod (gtB (gt (Sh.arr (2:Nat) uB) l (i:Int).toNat) (1)) (3:Int))]:List syS.D)))] })) (false=false/\(0:Nat)+1<=([(bif true then decide ((0:Int)<n) else false,(i64.wrap (gtB (gt (Sh.arr (2:Nat) uB) l (i:Int).toNat) (1))).tmod n,Int.tmod (gtB (gt (Sh.arr (2:Nat) uB) l (i:Int).toNat) (1)) (3:Int))]:List syS.D).length/\o.length=o.length/\(0:Nat)=(0:Nat)/\o.length+(winL syS 0 1 ([(bif true then decide ((0:Int)<n) else false,(i64.wrap (gtB (gt (Sh.arr (2:Nat) uB) l (i:Int).toNat) (1))).tmod n,Int.tmod (gtB (gt (Sh.arr (2:Nat) uB) l (i:Int).toNat) (1)) (3:Int))]:List syS.D)).length<2 ^ 30/\(24:Nat)<=2 ^ 10/\R (hd Tryz.f16 0) { env:=[(0,.sl (Sh.arr (2:Nat) uB) l),(1,.i n),(5,.win true syS 93 0 (o.length+(winL syS 0 1 ([(bif true then decide ((0:Int)<n) else false,(i64.wrap (gtB (gt (Sh.arr (2:Nat) uB) l (i:Int).toNat) (1))).tmod n,Int.tmod (gtB (gt (Sh.arr (2:Nat) uB) l (i:Int).toNat) (1)) (3:Int))]:List syS.D)).length)),(6,.i (i64.wrap ((i:Int)+1)))],blk:=[(93,.row 93 syS (o++([(bif true then decide ((0:Int)<n) else false,(i64.wrap (gtB (gt (Sh.arr (2:Nat) uB) l (i:Int).toNat) (1))).tmod n,Int.tmod (gtB (gt (Sh.arr (2:Nat) uB) l (i:Int).toNat) (1)) (3:Int))]:List syS.D)))] })) (false=false/\false=false/\(0:Nat)+1<=([(bif true then decide ((0:Int)<n) else false,(i64.wrap (gtB (gt (Sh.arr (2:Nat) uB) l (i:Int).toNat) (1))).tmod n,Int.tmod (gtB (gt (Sh.arr (2:Nat) uB) l (i:Int).toNat) (1)) (3:Int))]:List syS.D).length/\o.length=o.length/\(0:Nat)=(0:Nat)/\o.length+(winL syS 0 1 ([(bif true then decide ((0:Int)<n) else false,(i64.wrap (gtB (gt (Sh.arr (2:Nat) uB) l (i:Int).toNat) (1))).tmod n,Int.tmod (gtB (gt (Sh.arr (2:Nat) uB) l (i:Int).toNat) (1)) (3:Int))]:List syS.D)).length<2 ^ 30/\(24:Nat)<=2 ^ 10/\R (hd Tryz.f16 0) { env:=[(0,.sl (Sh.arr (2:Nat) uB) l),(1,.i n),(5,.win true syS 93 0 (o.length+(winL syS 0 1 ([(bif true then decide ((0:Int)<n) else false,(i64.wrap (gtB (gt (Sh.arr (2:Nat) uB) l (i:Int).toNat) (1))).tmod n,Int.tmod (gtB (gt (Sh.arr (2:Nat) uB) l (i:Int).toNat) (1)) (3:Int))]:List syS.D)).length)),(6,.i (i64.wrap ((i:Int)+1)))],blk:=[(93,.row 93 syS (o++([(bif true then decide ((0:Int)<n) else false,(i64.wrap (gtB (gt (Sh.arr (2:Nat) uB) l (i:Int).toNat) (1))).tmod n,Int.tmod (gtB (gt (Sh.arr (2:Nat) uB) l (i:Int).toNat) (1)) (3:Int))]:List syS.D)))] })) (false=false/\false=false/\false=false/\(0:Nat)+1<=([(bif true then decide ((0:Int)<n) else false,(i64.wrap (gtB (gt (Sh.arr (2:Nat) uB) l (i:Int).toNat) (1))).tmod n,Int.tmod (gtB (gt (Sh.arr (2:Nat) uB) l (i:Int).toNat) (1)) (3:Int))]:List syS.D).length/\o.length=o.length/\(0:Nat)=(0:Nat)/\o.length+(winL syS 0 1 ([(bif true then decide ((0:Int)<n) else false,(i64.wrap (gtB (gt (Sh.arr (2:Nat) uB) l (i:Int).toNat) (1))).tmod n,Int.tmod (gtB (gt (Sh.arr (2:Nat) uB) l (i:Int).toNat) (1)) (3:Int))]:List syS.D)).length<2 ^ 30/\(24:Nat)<=2 ^ 10/\R (hd Tryz.f16 0) { env:=[(0,.sl (Sh.arr (2:Nat) uB) l),(1,.i n),(5,.win true syS 93 0 (o.length+(winL syS 0 1 ([(bif true then decide ((0:Int)<n) else false,(i64.wrap (gtB (gt (Sh.arr (2:Nat) uB) l (i:Int).toNat) (1))).tmod n,Int.tmod (gtB (gt (Sh.arr (2:Nat) uB) l (i:Int).toNat) (1)) (3:Int))]:List syS.D)).length)),(6,.i (i64.wrap ((i:Int)+1)))],blk:=[(93,.row 93 syS (o++([(bif true then decide ((0:Int)<n) else false,(i64.wrap (gtB (gt (Sh.arr (2:Nat) uB) l (i:Int).toNat) (1))).tmod n,Int.tmod (gtB (gt (Sh.arr (2:Nat) uB) l (i:Int).toNat) (1)) (3:Int))]:List syS.D)))] })) (false=false/\false=false/\false=false/\false=false/\(0:Nat)+1<=([(bif true then decide ((0:Int)<n) else false,(i64.wrap (gtB (gt (Sh.arr (2:Nat) uB) l (i:Int).toNat) (1))).tmod n,Int.tmod (gtB (gt (Sh.arr (2:Nat) uB) l (i:Int).toNat) (1)) (3:Int))]:List syS.D).length/\o.length=o.length/\(0:Nat)=(0:Nat)/\o.length+(winL syS 0 1 ([(bif true then decide ((0:Int)<n) else false,(i64.wrap (gtB (gt (Sh.arr (2:Nat) uB) l (i:Int).toNat) (1))).tmod n,Int.tmod (gtB (gt (Sh.arr (2:Nat) uB) l (i:Int).toNat) (1)) (3:Int))]:List syS.D)).length<2 ^ 30/\(24:Nat)<=2 ^ 10/\R (hd Tryz.f16 0) { env:=[(0,.sl (Sh.arr (2:Nat) uB) l),(1,.i n),(5,.win true syS 93 0 (o.length+(winL syS 0 1 ([(bif true then decide ((0:Int)<n) else false,(i64.wrap (gtB (gt (Sh.arr (2:Nat) uB) l (i:Int).toNat) (1))).tmod n,Int.tmod (gtB (gt (Sh.arr (2:Nat) uB) l (i:Int).toNat) (1)) (3:Int))]:List syS.D)).length)),(6,.i (i64.wrap ((i:Int)+1)))],blk:=[(93,.row 93 syS (o++([(bif true then decide ((0:Int)<n) else false,(i64.wrap (gtB (gt (Sh.arr (2:Nat) uB) l (i:Int).toNat) (1))).tmod n,Int.tmod (gtB (gt (Sh.arr (2:Nat) uB) l (i:Int).toNat) (1)) (3:Int))]:List syS.D)))] })) (bc (decide ((0:Int)<n)) (bc (decide ((0:Int)<(i:Int))) ((0:Int)<=i64.wrap ((i:Int)-1)/\i64.wrap ((i:Int)-1)<(o.length:Int)/\(0:Nat)+(i64.wrap ((i:Int)-1)).toNat<o.length/\bc (bif true then (gtY o ((0:Nat)+(i64.wrap ((i:Int)-1)).toNat)).1 else false) ((0:Int)<=(i:Int)/\(i:Int)<(l.length:Int)/\(0:Int)<=0/\(0:Int)<(↑(2:Nat):Int)/\(4:Int)≠0/\bc (decide ((1:Int)<Int.tmod (gtB (gt (Sh.arr (2:Nat) uB) l (i:Int).toNat) (0)) (4:Int))) ((0:Int)<=i64.wrap ((i:Int)-1)/\i64.wrap ((i:Int)-1)<(o.length:Int)/\(0:Nat)+(i64.wrap ((i:Int)-1)).toNat<o.length/\bc (decide (i64.wrap ((gtY o ((0:Nat)+(i64.wrap ((i:Int)-1)).toNat)).2.1+1)<n)) ((0:Int)<=i64.wrap ((i:Int)-1)/\i64.wrap ((i:Int)-1)<(o.length:Int)/\(0:Nat)+(i64.wrap ((i:Int)-1)).toNat<o.length/\(0:Nat)+1<=([(bif true then decide ((0:Int)<n) else false,i64.wrap ((gtY o ((0:Nat)+(i64.wrap ((i:Int)-1)).toNat)).2.1+1),Int.tmod (gtB (gt (Sh.arr (2:Nat) uB) l (i:Int).toNat) (1)) (3:Int))]:List syS.D).length/\o.length=o.length/\(0:Nat)=(0:Nat)/\o.length+(winL syS 0 1 ([(bif true then decide ((0:Int)<n) else false,i64.wrap ((gtY o ((0:Nat)+(i64.wrap ((i:Int)-1)).toNat)).2.1+1),Int.tmod (gtB (gt (Sh.arr (2:Nat) uB) l (i:Int).toNat) (1)) (3:Int))]:List syS.D)).length<2 ^ 30/\(24:Nat)<=2 ^ 10/\R (hd Tryz.f16 0) { env:=[(0,.sl (Sh.arr (2:Nat) uB) l),(1,.i n),(5,.win true syS 93 0 (o.length+(winL syS 0 1 ([(bif true then decide ((0:Int)<n) else false,i64.wrap ((gtY o ((0:Nat)+(i64.wrap ((i:Int)-1)).toNat)).2.1+1),Int.tmod (gtB (gt (Sh.arr (2:Nat) uB) l (i:Int).toNat) (1)) (3:Int))]:List syS.D)).length)),(6,.i (i64.wrap ((i:Int)+1)))],blk:=[(93,.row 93 syS (o++([(bif true then decide ((0:Int)<n) else false,i64.wrap ((gtY o ((0:Nat)+(i64.wrap ((i:Int)-1)).toNat)).2.1+1),Int.tmod (gtB (gt (Sh.arr (2:Nat) uB) l (i:Int).toNat) (1)) (3:Int))]:List syS.D)))] }) ((0:Nat)+1<=([(bif true then decide ((0:Int)<n) else false,(0:Int),Int.tmod (gtB (gt (Sh.arr (2:Nat) uB) l (i:Int).toNat) (1)) (3:Int))]:List syS.D).length/\o.length=o.length/\(0:Nat)=(0:Nat)/\o.length+(winL syS 0 1 ([(bif true then decide ((0:Int)<n) else false,(0:Int),Int.tmod (gtB (gt (Sh.arr (2:Nat) uB) l (i:Int).toNat) (1)) (3:Int))]:List syS.D)).length<2 ^ 30/\(24:Nat)<=2 ^ 10/\R (hd Tryz.f16 0) { env:=[(0,.sl (Sh.arr (2:Nat) uB) l),(1,.i n),(5,.win true syS 93 0 (o.length+(winL syS 0 1 ([(bif true then decide ((0:Int)<n) else false,(0:Int),Int.tmod (gtB (gt (Sh.arr (2:Nat) uB) l (i:Int).toNat) (1)) (3:Int))]:List syS.D)).length)),(6,.i (i64.wrap ((i:Int)+1)))],blk:=[(93,.row 93 syS (o++([(bif true then decide ((0:Int)<n) else false,(0:Int),Int.tmod (gtB (gt (Sh.arr (2:Nat) uB) l (i:Int).toNat) (1)) (3:Int))]:List syS.D)))] })) (false=false/\(0:Nat)+1<=([(bif true then decide ((0:Int)<n) else false,(0:Int),Int.tmod (gtB (gt (Sh.arr (2:Nat) uB) l (i:Int).toNat) (1)) (3:Int))]:List syS.D).length/\o.length=o.length/\(0:Nat)=(0:Nat)/\o.length+(winL syS 0 1 ([(bif true then decide ((0:Int)<n) else false,(0:Int),Int.tmod (gtB (gt (Sh.arr (2:Nat) uB) l (i:Int).toNat) (1)) (3:Int))]:List syS.D)).length<2 ^ 30/\(24:Nat)<=2 ^ 10/\R (hd Tryz.f16 0) { env:=[(0,.sl (Sh.arr (2:Nat) uB) l),(1,.i n),(5,.win true syS 93 0 (o.length+(winL syS 0 1 ([(bif true then decide ((0:Int)<n) else false,(0:Int),Int.tmod (gtB (gt (Sh.arr (2:Nat) uB) l (i:Int).toNat) (1)) (3:Int))]:List syS.D)).length)),(6,.i (i64.wrap ((i:Int)+1)))],blk:=[(93,.row 93 syS (o++([(bif true then decide ((0:Int)<n) else false,(0:Int),Int.tmod (gtB (gt (Sh.arr (2:Nat) uB) l (i:Int).toNat) (1)) (3:Int))]:List syS.D)))] })) (false=false/\false=false/\(0:Nat)+1<=([(bif true then decide ((0:Int)<n) else false,(0:Int),Int.tmod (gtB (gt (Sh.arr (2:Nat) uB) l (i:Int).toNat) (1)) (3:Int))]:List syS.D).length/\o.length=o.length/\(0:Nat)=(0:Nat)/\o.length+(winL syS 0 1 ([(bif true then decide ((0:Int)<n) else false,(0:Int),Int.tmod (gtB (gt (Sh.arr (2:Nat) uB) l (i:Int).toNat) (1)) (3:Int))]:List syS.D)).length<2 ^ 30/\(24:Nat)<=2 ^ 10/\R (hd Tryz.f16 0) { env:=[(0,.sl (Sh.arr (2:Nat) uB) l),(1,.i n),(5,.win true syS 93 0 (o.length+(winL syS 0 1 ([(bif true then decide ((0:Int)<n) else false,(0:Int),Int.tmod (gtB (gt (Sh.arr (2:Nat) uB) l (i:Int).toNat) (1)) (3:Int))]:List syS.D)).length)),(6,.i (i64.wrap ((i:Int)+1)))],blk:=[(93,.row 93 syS (o++([(bif true then decide ((0:Int)<n) else false,(0:Int),Int.tmod (gtB (gt (Sh.arr (2:Nat) uB) l (i:Int).toNat) (1)) (3:Int))]:List syS.D)))] })) (false=false/\false=false/\false=false/\(0:Nat)+1<=([(bif true then decide ((0:Int)<n) else false,(0:Int),Int.tmod (gtB (gt (Sh.arr (2:Nat) uB) l (i:Int).toNat) (1)) (3:Int))]:List syS.D).length/\o.length=o.length/\(0:Nat)=(0:Nat)/\o.length+(winL syS 0 1 ([(bif true then decide ((0:Int)<n) else false,(0:Int),Int.tmod (gtB (gt (Sh.arr (2:Nat) uB) l (i:Int).toNat) (1)) (3:Int))]:List syS.D)).length<2 ^ 30/\(24:Nat)<=2 ^ 10/\R (hd Tryz.f16 0) { env:=[(0,.sl (Sh.arr (2:Nat) uB) l),(1,.i n),(5,.win true syS 93 0 (o.length+(winL syS 0 1 ([(bif true then decide ((0:Int)<n) else false,(0:Int),Int.tmod (gtB (gt (Sh.arr (2:Nat) uB) l (i:Int).toNat) (1)) (3:Int))]:List syS.D)).length)),(6,.i (i64.wrap ((i:Int)+1)))],blk:=[(93,.row 93 syS (o++([(bif true then decide ((0:Int)<n) else false,(0:Int),Int.tmod (gtB (gt (Sh.arr (2:Nat) uB) l (i:Int).toNat) (1)) (3:Int))]:List syS.D)))] })) (false=false/\false=false/\false=false/\false=false/\(0:Nat)+1<=([(bif true then decide ((0:Int)<n) else false,(0:Int),Int.tmod (gtB (gt (Sh.arr (2:Nat) uB) l (i:Int).toNat) (1)) (3:Int))]:List syS.D).length/\o.length=o.length/\(0:Nat)=(0:Nat)/\o.length+(winL syS 0 1 ([(bif true then decide ((0:Int)<n) else false,(0:Int),Int.tmod (gtB (gt (Sh.arr (2:Nat) uB) l (i:Int).toNat) (1)) (3:Int))]:List syS.D)).length<2 ^ 30/\(24:Nat)<=2 ^ 10/\R (hd Tryz.f16 0) { env:=[(0,.sl (Sh.arr (2:Nat) uB) l),(1,.i n),(5,.win true syS 93 0 (o.length+(winL syS 0 1 ([(bif true then decide ((0:Int)<n) else false,(0:Int),Int.tmod (gtB (gt (Sh.arr (2:Nat) uB) l (i:Int).toNat) (1)) (3:Int))]:List syS.D)).length)),(6,.i (i64.wrap ((i:Int)+1)))],blk:=[(93,.row 93 syS (o++([(bif true then decide ((0:Int)<n) else false,(0:Int),Int.tmod (gtB (gt (Sh.arr (2:Nat) uB) l (i:Int).toNat) (1)) (3:Int))]:List syS.D)))] }))) (false=false/\(0:Int)<=(i:Int)/\(i:Int)<(l.length:Int)/\(0:Int)<=1/\(1:Int)<(↑(2:Nat):Int)/\(3:Int)≠0/\false=false/\false=false/\false=false/\false=false/\(0:Nat)+1<=([(false,(0:Int),Int.tmod (gtB (gt (Sh.arr (2:Nat) uB) l (i:Int).toNat) (1)) (3:Int))]:List syS.D).length/\o.length=o.length/\(0:Nat)=(0:Nat)/\o.length+(winL syS 0 1 ([(false,(0:Int),Int.tmod (gtB (gt (Sh.arr (2:Nat) uB) l (i:Int).toNat) (1)) (3:Int))]:List syS.D)).length<2 ^ 30/\(24:Nat)<=2 ^ 10/\R (hd Tryz.f16 0) { env:=[(0,.sl (Sh.arr (2:Nat) uB) l),(1,.i n),(5,.win true syS 93 0 (o.length+(winL syS 0 1 ([(false,(0:Int),Int.tmod (gtB (gt (Sh.arr (2:Nat) uB) l (i:Int).toNat) (1)) (3:Int))]:List syS.D)).length)),(6,.i (i64.wrap ((i:Int)+1)))],blk:=[(93,.row 93 syS (o++([(false,(0:Int),Int.tmod (gtB (gt (Sh.arr (2:Nat) uB) l (i:Int).toNat) (1)) (3:Int))]:List syS.D)))] })) (Q [.win true syS 5 0 o.length] [(5,.row 93 syS o)])) (false=false/\Q [.win true syS 5 0 o.length] [(5,.row 93 syS o)])):=by kernel_rfl
def qw5 (z:Int) (l:List (List Int)):Prop:=(0<=z/\z<256)/\qmw l/\l.length<9223372036854775808
def ctM6:Ctr:=⟨[raS],λ x=>qw5 x.1.1 x.1.2,λ x=>[paV (szV x.1.2 (x.1.1 % 13))],λ _=>[]⟩
theorem quk (z:Int) (l:List (List Int)) (hz:0<=z/\z<256) (hl:qmw l) (hn:l.length<9223372036854775808):GD 13 Tryz.f13 (QC ctM6 ((z,l),())) [.code (qah Tryz.f13)] (entry [raS] ((z,l),())):=by
 refine qag cx30 _ _ _ ((qv3 z l _ _).mpr ?_);have w:(IntKind.i64.wrap z).tmod 13=z % 13:=by rw[IntWalk.i64_in z (by omega),Int.tmod_eq_emod_of_nonneg hz.1]
 rw[w];exact ⟨by decide,⟨hl,(show preN (z % 13) from ⟨by omega,by omega⟩),hn⟩,QC.flat rfl rfl rfl⟩
theorem qrm:Held Tryz.prog G0 13 ctM6:=
 Held.of cx30 (fn:=Tryz.f13) rfl rfl ⟨by decide,by decide⟩ λ ⟨⟨z,l⟩,_⟩ hp=>quk z l hp.1 hp.2.1 hp.2.2
def rawE (l:List (List Int)) (n:Int) (i:Nat) (o:List SyT):SyT:=
 if 0<(gtB (gt a2S l i) 0).tmod 4/\0<n then
  if 0<i/\(gtY o (i-1)).1=true/\1<(gtB (gt a2S l i) 0).tmod 4/\(gtY o (i-1)).2.1+1<n then (true,(gtY o (i-1)).2.1+1,(gtB (gt a2S l i) 1).tmod 3)
  else (true,(gtB (gt a2S l i) 1).tmod n,(gtB (gt a2S l i) 1).tmod 3)
 else (false,0,(gtB (gt a2S l i) 1).tmod 3)
def rawL (l:List (List Int)) (n:Int):Nat->List SyT
 | 0=>[]
 | i+1=>rawL l n i++[rawE l n i (rawL l n i)]
def rawK (l:List (List Int)):Nat:=min l.length 20
theorem qil (l:List (List Int)) (n:Int):∀ i,(rawL l n i).length=i
 | 0=>rfl
 | i+1=>by rw[rawL,List.length_append,qil l n i];rfl
def qob (l:List (List Int)):Prop:=∀ j k,0<=gtB (gt a2S l j) k/\gtB (gt a2S l j) k<256
theorem q05 {l:List (List Int)} {n:Int} {i:Nat} {o:List SyT} (hl:qob l) (ho:∀ s∈o,sOK n s=true) (hi:o.length=i):sOK n (rawE l n i o)=true:=by
 unfold rawE;split
 next h=>
  split
  next h2=>
   have hg:gtY o (i-1)∈o:=by
    rw[qdf (show i-1<o.length by omega)];exact List.getElem_mem _
   have:=ho _ hg;simp[sOK,h2.2.1] at this |-;omega
  ·have m1:=qc9 (hl i 1).1 (b:=n) h.2;simp[sOK];omega
 ·simp[sOK]
theorem qn5 {l:List (List Int)} {n:Int} (hl:qob l):∀ i,∀ s∈rawL l n i,sOK n s=true
 | 0=>λ s hs=>by cases hs
 | i+1=>λ s hs=>by
  rw[rawL] at hs;rcases List.mem_append.1 hs with h | h
  ·exact qn5 hl i s h
  ·rw[List.mem_singleton] at h;subst h;exact q05 hl (qn5 hl i) (qil l n i)
def q3o (l:List (List Int)) (n:Int):Prop:=qob l/\preN n
def qx4:Ctr:=⟨[.sl a2S,iI],λ x=>q3o x.1 x.2.1,λ x=>[.win true syS 0 0 (rawL x.1 x.2.1 (rawK x.1)).length],λ x=>[.row 93 syS (rawL x.1 x.2.1 (rawK x.1))]⟩
theorem qw3 (l:List (List Int)) (n:Int) (hl:qob l) (hn0:0<=n) (hn1:n<16777216):∀ (k i:Nat),rawK l-i=k->i<=rawK l ->
  GD 16 Tryz.f16 (QC qx4 (l,n,())) (hd Tryz.f16 0) ⟨[(0,.sl a2S l),(1,.i n),(5,.win true syS 5 0 (rawL l n i).length),(6,.i (i:Nat))],[(5,.row 93 syS (rawL l n i))]⟩:=by
 intro k
 induction k with
 | zero=>
  intro i hk hi;have hi:i=rawK l:=by omega
  refine qaw cx0 (qsi l (rawL l n i) n i _ _) ?_;have fin:QC qx4 (l,n,()) [SV.win true syS 5 0 (rawL l n i).length] [(5,.row 93 syS (rawL l n i))]:=by
   rw[hi];exact qyy (e:=syS) (et:=93) (a:=5) (xs:=rawL l n (rawK l)) rfl rfl rfl rfl rfl
  refine qaf (λ h=>qaf (λ h2=>?_) (λ h2=>fin)) (λ h=>⟨rfl,fin⟩);have h:=of_decide_eq_true h;have h2:=of_decide_eq_true h2;unfold rawK at hi;omega
 | succ k ih=>
  intro i hk hi;have h6:i<l.length/\i<20:=by unfold rawK at hk hi;omega
  have hlen:=qil l n i;have hok:=qn5 (n:=n) hl i;have nx:∀ e,rawE l n i (rawL l n i)=e->GD 16 Tryz.f16 (QC qx4 (l,n,())) (hd Tryz.f16 0) ⟨[(0,.sl a2S l),(1,.i n),(5,.win true syS 93 0 ((rawL l n i).length+1)),(6,.i ((i:Int)+1))],[(93,.row 93 syS (rawL l n i++[e]))]⟩:=λ e he=>by
   have h:=ih (i+1) (by omega) (by omega);rw[rawL,he] at h;exact h.onlyR [(5,93)] rfl ⟨rfl,rfl,by rw[List.length_append];rfl,rfl,trivial⟩ ⟨rfl,trivial⟩
  generalize rawL l n i=o at *;have h30:o.length+1<2 ^ 30:=by omega
  refine qaw cx0 (qsi l o n i _ _) ?_;rw[decide_eq_true (show (i:Int)<(l.length:Int) by omega),bc_t,decide_eq_true (show (i:Int)<(20:Int) by omega),bc_t,Int.toNat_natCast,IntWalk.i64_in ((i:Int)+1) (by omega)];have w1:IntKind.i64.wrap (gtB (gt a2S l i) 1)=gtB (gt a2S l i) 1:=IntWalk.i64_in _ (by have:=hl i 1;omega);rw[w1];refine ⟨by omega,by omega,by decide,by decide,by decide,qaf (λ h=>?_) (λ h=>?_)⟩
  ·have h:0<(gtB (gt a2S l i) 0).tmod 4:=of_decide_eq_true h;refine ⟨by omega,by omega,by decide,by decide,by decide,qaf (λ h1=>?_) (λ h1=>?_)⟩
   ·have h1':0<n:=of_decide_eq_true h1;rw[h1];refine ⟨by omega,by omega,by decide,by decide,by omega,?_⟩;rw[bc_t];have plain:¬ (0<i/\(gtY o (i-1)).1=true/\1<(gtB (gt a2S l i) 0).tmod 4/\(gtY o (i-1)).2.1+1<n)->rawE l n i o=(true,(gtB (gt a2S l i) 1).tmod n,(gtB (gt a2S l i) 1).tmod 3):=λ hh=>by
     unfold rawE;rw[if_pos ⟨h,h1'⟩,if_neg hh]
    refine qaf (λ h2=>?_) (λ h2=>?_)
    ·have h2:0<i:=by have:=of_decide_eq_true h2;omega
     have wj:IntKind.i64.wrap ((i:Int)-1)=((i-1:Nat):Int):=by rw[IntWalk.i64_in _ (by omega)];omega
     rw[wj,Int.toNat_natCast,Nat.zero_add];refine ⟨by omega,by omega,by omega,qaf (λ h3=>?_) (λ h3=>?_)⟩
     ·have h3:(gtY o (i-1)).1=true:=h3;have hg:gtY o (i-1)∈o:=by
       rw[qdf (show i-1<o.length by omega)];exact List.getElem_mem _
      have hs:=hok _ hg;simp[sOK,h3] at hs;have wa:IntKind.i64.wrap ((gtY o (i-1)).2.1+1)=(gtY o (i-1)).2.1+1:=IntWalk.i64_in _ (by omega);rw[wa];refine ⟨by omega,by omega,by decide,by decide,by decide,qaf (λ h4=>?_) (λ h4=>?_)⟩
      ·have h4:1<(gtB (gt a2S l i) 0).tmod 4:=of_decide_eq_true h4;refine ⟨by omega,by omega,by omega,qaf (λ h5=>?_) (λ h5=>?_)⟩
       ·have h5:(gtY o (i-1)).2.1+1<n:=of_decide_eq_true h5;refine ⟨by omega,by omega,by omega,Nat.le_refl 1,rfl,rfl,h30,by decide,nx _ ?_⟩;unfold rawE;rw[if_pos ⟨h,h1'⟩,if_pos ⟨h2,h3,h4,h5⟩];rfl
       ·have h5:¬ (gtY o (i-1)).2.1+1<n:=of_decide_eq_false h5;exact ⟨Nat.le_refl 1,rfl,rfl,h30,by decide,nx _ (plain λ q=>h5 q.2.2.2)⟩
      ·have h4:¬ 1<(gtB (gt a2S l i) 0).tmod 4:=of_decide_eq_false h4;exact ⟨rfl,Nat.le_refl 1,rfl,rfl,h30,by decide,nx _ (plain λ q=>h4 q.2.2.1)⟩
     ·have h3:(gtY o (i-1)).1=false:=h3;exact ⟨rfl,rfl,Nat.le_refl 1,rfl,rfl,h30,by decide,nx _ (plain λ q=>by rw[h3] at q;cases q.2.1)⟩
    ·have h2:¬ 0<i:=by have:=of_decide_eq_false h2;omega
     exact ⟨rfl,rfl,rfl,Nat.le_refl 1,rfl,rfl,h30,by decide,nx _ (plain λ q=>h2 q.1)⟩
   ·have h1':¬ 0<n:=of_decide_eq_false h1;rw[h1]
    repeat refine ⟨rfl,?_⟩
    exact ⟨Nat.le_refl 1,rfl,rfl,h30,by decide,nx _ (by unfold rawE;rw[if_neg (λ q=>h1' q.2)];rfl)⟩
  ·have h:¬ 0<(gtB (gt a2S l i) 0).tmod 4:=of_decide_eq_false h;refine ⟨rfl,by omega,by omega,by decide,by decide,by decide,rfl,rfl,rfl,rfl,Nat.le_refl 1,rfl,rfl,h30,by decide,nx _ (by unfold rawE;rw[if_neg (λ q=>h q.1)])⟩
theorem raw_held:Held Tryz.prog G0 16 qx4:=
 Held.of cx0 (fn:=Tryz.f16) rfl rfl ⟨by decide,by decide⟩ λ ⟨l,n,_⟩ hp=>
  qaw cx0 (q2u l n _ _) ((qw3 l n hp.1 hp.2.1 hp.2.2 _ 0 rfl (Nat.zero_le _)).onlyR [(5,8)] rfl ⟨rfl,rfl,rfl,rfl,trivial⟩ ⟨rfl,trivial⟩)
theorem qu4 (el:Nat->SyT):∀ n i k,k<n->(gen el n i)[k]?=some (el (i+k))
 | 0,_,_,h=>by omega
 | n+1,i,0,_=>by rw[gen];rfl
 | n+1,i,k+1,h=>by
  rw[gen,List.getElem?_cons_succ,qu4 el n (i+1) k (by omega)]
  congr 2;omega
theorem qu3 (el:Nat->SyT):∀ n i s,s∈gen el n i->∃ k,k<n/\s=el (i+k)
 | 0,_,_,h=>by cases h
 | n+1,i,s,h=>by
  rw[gen] at h;rcases List.mem_cons.1 h with h | h
  ·exact ⟨0,by omega,h⟩
  ·obtain ⟨k,h1,h2⟩:=qu3 el n (i+1) s h;exact ⟨k+1,by omega,by rw[h2];congr 1;omega⟩
theorem ql6 (x:List Int) {k n:Int} (hk:k=2\/k=4) (hn:0<=n):((datO x k n).length:Int)=n:=by
 unfold datO;rw[if_pos hk,ql7];omega
theorem qqk (x:List Int) {k n:Int} (hk:¬ (k=2\/k=4)):datO x k n=[]:=if_neg hk
theorem qt0 {x:List Int} {m:Int} (hx:qoc x) (h0:0<=m) (h1:m<16777216):isRB (opV x m) m=true:=by
 have hl:=qoe hx h0;have m0:=qc9 (hx 0).1 (b:=4) (by decide);have m2:=qc9 (hx 2).1 (b:=5) (by decide);have kR:kR (opV x m) m=true:=by
  unfold opV kR;split
  next hk=>
   split
   ·rw[if_neg (show ¬ ((4:Int)=1) by decide),if_neg (show ¬ ((4:Int)=2) by decide),if_neg (show ¬ ((4:Int)=3) by decide),if_pos (show (4:Int)=4 by decide)];simp only[rB,Bool.and_eq_true,decide_eq_true_eq];exact ⟨trivial,trivial,ql6 x (.inr rfl) (by omega)⟩
   next hm=>
    have m1:=qc9 (hx 1).1 (b:=m) (by omega);have m3:=qc9 (hx 2).1 (b:=m-(gtB x 1).tmod m) (by omega);have e5:=Int.tmod_eq_emod_of_nonneg (b:=5) m3.1;generalize (gtB x 1).tmod m=f at *;generalize (gtB x 2).tmod (m-f)=g at *;rw[e5];have wp:IntKind.i64.wrap (m-(1+g % 5))=m-(1+g % 5):=IntWalk.i64_in _ (by omega);rcases (show 1+(gtB x 0).tmod 4=1\/1+(gtB x 0).tmod 4=2 by omega) with e | e
    ·rw[e];simp only[rB,qa8,wp,Bool.and_eq_true,decide_eq_true_eq,if_true];rw[qqk x (by decide)];exact ⟨⟨by omega,by omega⟩,trivial,rfl⟩
    ·rw[e];simp only[rB,qa8,wp,Bool.and_eq_true,decide_eq_true_eq,if_true];rw[if_neg (by decide)];simp only[Bool.and_eq_true,decide_eq_true_eq];exact ⟨⟨by omega,by omega⟩,trivial,ql6 x (.inl rfl) (by omega)⟩
  next hk=>
   rcases (show 1+(gtB x 0).tmod 4=3\/1+(gtB x 0).tmod 4=4 by omega) with e | e
   ·rw[e,qqk x (by decide)];rfl
   ·rw[e];rw[if_neg (show ¬ ((4:Int)=1) by decide),if_neg (show ¬ ((4:Int)=2) by decide),if_neg (show ¬ ((4:Int)=3) by decide),if_pos (show (4:Int)=4 by decide)];simp only[rB,Bool.and_eq_true,decide_eq_true_eq];exact ⟨trivial,if_neg (by decide),ql6 x (.inr rfl) (by omega)⟩
 unfold isRB;rw[decide_eq_true (show 1<=(opV x m).2.2.1 by omega),decide_eq_true (show (opV x m).2.2.1<=65536 by omega),kR];rfl
theorem qzf {m N:Int}:∀ {l:List OpT} {left i:Int},(∀ x∈l,isRB x m=true)->lenS l=left->chkF m N l left i=(N,0)
 | [],left,i,_,h=>by
  have h:(0:Int)=left:=h;rw[chkF,if_neg (by omega)]
 | x::l,left,i,hr,h=>by
  have h1:=hr x (by simp);have h2:=qde h1;have h3:=qg0 (l:=l) λ y hy=>hr y (by simp[hy])
  rw[qjn] at h;rw[chkF,if_neg (by rw[h1];decide),if_neg (by omega)];exact qzf (λ y hy=>hr y (by simp[hy])) (by omega)
theorem q2f {li:Bool} {m o:Int} {l:List OpT} (h0:0<=m) (h1:m<=65536) (ho:o<=65536) (hl:l.length<=4096) (hr:∀ x∈l,isRB x m=true) (hs:lenS l=o):chkV (li,m,o,l)=((l.length:Int),(0:Int)):=by
 have:=qg0 hr;unfold chkV;rw[if_pos ⟨by simp[szB];omega,by simp[szB];omega,hl⟩];exact qzf hr hs
theorem qsw {m:Int}:∀ {l:List OpT},(∀ x∈l,isRB x m=true)->∀ s∈symF l,∃ x∈l,∃ k:Nat,(k:Int)<x.2.2.1/\s=elO x.1.toNat x k
 | [],_,s,h=>by cases h
 | x::l,hr,s,h=>by
  rw[symF] at h;rcases List.mem_append.1 h with h | h
  ·obtain ⟨k,h1,h2⟩:=qu3 _ _ _ _ h;have:=(qdq (hr x (by simp))).2;exact ⟨x,by simp,k,by omega,by rw[h2,Nat.zero_add]⟩
  ·obtain ⟨y,hy,k,h1,h2⟩:=qsw (λ y hy=>hr y (by simp[hy])) s h;exact ⟨y,by simp[hy],k,h1,h2⟩
theorem qut {x:OpT} {m:Int} (h:isRB x m=true) (hm:0<=m/\m<16777216) (hk:x.1=1\/x.1=2):0<=x.2.1/\x.2.1+x.2.2.1<=m:=by
 unfold isRB kR at h;simp only[Bool.and_eq_true,decide_eq_true_eq] at h;obtain ⟨h1,h2,h3⟩:=h;have w:IntKind.i64.wrap (m-x.2.2.1)=m-x.2.2.1:=IntWalk.i64_in _ (by omega);rcases hk with e | e
 ·rw[if_pos e] at h3;simp only[rB,qa8,w,Bool.and_eq_true,decide_eq_true_eq] at h3;omega
 ·rw[if_neg (by omega),if_pos e] at h3;simp only[rB,qa8,w,Bool.and_eq_true,decide_eq_true_eq] at h3;omega
theorem qsu {l:List (List Int)} {m:Int} (hl:qmw l) (h0:0<=m) (h1:m<=65536):∀ x∈szO l m,isRB x m=true:=λ x hx=>by
 unfold szO szL at hx;obtain ⟨j,_,rfl⟩:=List.mem_map.1 hx;exact qt0 (hl j) h0 (by omega)
theorem q0g (l:List (List Int)) (m:Int):(szO l m).length<=6:=by
 unfold szO szK;rw[qsv];omega
theorem q0f {l:List (List Int)} {m:Int} (hl:qmw l) (h0:0<=m):0<=lenS (szO l m)/\lenS (szO l m)<=30:=by
 have:=qlb hl h0 (szK l);have h6:szK l<=6:=by unfold szK;omega
 unfold szO;omega
theorem q0e {l:List (List Int)} {m:Int} (hl:qmw l) (h0:0<=m) (h1:m<=65536):chkV (szV l m)=(((szO l m).length:Int),(0:Int)):=by
 have h30:=q0f hl h0;have h6:=q0g l m;exact q2f h0 h1 (by omega) (by omega) (qsu hl h0 h1) rfl
theorem qpe:∀ (a b:List OpT),symF (a++b)=symF a++symF b
 | [],b=>rfl
 | x::a,b=>by rw[List.cons_append,symF,symF,qpe a b,List.append_assoc]
theorem qq9 {m:Int} {l:List OpT} (h:∀ x∈l,isRB x m=true):∀ y∈l,k14 y:=λ y hy=>(qdq (h y hy)).1
section
variable {l:List SyT} {m:Int} (hr:∀ s∈l,sOK m s=true) (hm:m<16777216)
include hr hm
end
def q35:Ctr:=⟨[.sl syS],λ x=>List.length x.1=0,λ x=>[.sl opS (opsL x.1)],λ _=>[]⟩
def ctOpsA:Ctr:=⟨[.sl syS],λ x=>List.length x.1<16777216,λ x=>[.sl opS (opsL x.1)],λ _=>[]⟩
set_option maxRecDepth 100000
theorem qvy (k f n b m:Int) (d:List Int) (Q:QT) (R:RT):sA [(67,.inl ctIn)] Tryz.f145 Q R [.code (qah Tryz.f145)] (entry [opS,iI] ((k,f,n,b,d),m,())) =
  (ctIn.pre (n,(1:Int),(65536:Int),())/\bc (!(decide ((1:Int)<=n)&&decide (n<=65536))) (Q [.bool false] [(2,.var [.i k,.i f,.i n,.u b,.sl uB d])]) (ctIn.pre (f,(0:Int),IntKind.i64.wrap (m-n),())/\bc (decide (k=(1:Int))) (bc (decide ((0:Int)<=f)&&decide (f<=IntKind.i64.wrap (m-n))) (bc (decide (b=(0:Int))) (Q [.bool (decide ((d.length:Int)=(0:Int)))] [(2,.var [.i k,.i f,.i n,.u b,.sl uB d])]) (false=false/\Q [.bool false] [(2,.var [.i k,.i f,.i n,.u b,.sl uB d])])) (false=false/\false=false/\Q [.bool false] [(2,.var [.i k,.i f,.i n,.u b,.sl uB d])])) (bc (decide (k=(2:Int))) (bc (decide ((0:Int)<=f)&&decide (f<=IntKind.i64.wrap (m-n))) (bc (decide (b=(0:Int))) (Q [.bool (decide ((d.length:Int)=n))] [(2,.var [.i k,.i f,.i n,.u b,.sl uB d])]) (false=false/\Q [.bool false] [(2,.var [.i k,.i f,.i n,.u b,.sl uB d])])) (false=false/\false=false/\Q [.bool false] [(2,.var [.i k,.i f,.i n,.u b,.sl uB d])])) (bc (decide (k=(3:Int))) (bc (decide (f=(0:Int))) (Q [.bool (decide ((d.length:Int)=(0:Int)))] [(2,.var [.i k,.i f,.i n,.u b,.sl uB d])]) (false=false/\Q [.bool false] [(2,.var [.i k,.i f,.i n,.u b,.sl uB d])])) (bc (decide (k=(4:Int))) (bc (decide (f=(0:Int))) (bc (decide (b=(0:Int))) (Q [.bool (decide ((d.length:Int)=n))] [(2,.var [.i k,.i f,.i n,.u b,.sl uB d])]) (false=false/\Q [.bool false] [(2,.var [.i k,.i f,.i n,.u b,.sl uB d])])) (false=false/\false=false/\Q [.bool false] [(2,.var [.i k,.i f,.i n,.u b,.sl uB d])])) (Q [.bool false] [(2,.var [.i k,.i f,.i n,.u b,.sl uB d])])))))):=by kernel_rfl
theorem q22 (l:List SyT) (m:Int) (Q:QT) (R:RT):sA ((71,.inl ctOpsA)::(70,.inl ctAre)::C1) Tryz.f23 Q R [.code (qah Tryz.f23)] (entry [.sl syS,iI] (l,m,())) =
  (ctSize.pre (m,())/\bc (!(decide ((0:iI.D)<=m)&&decide (m<=(65536:iI.D)))) (true=true/\true=true/\Q [.agg [.bool false,.i 0,.i 0,.nils],.i 60] [(4,.var [.bool false,.i 0,.i 0,.nils])]) (ctSize.pre ((l.length:Int),())/\bc (bif false then true else !(decide ((0:iI.D)<=(l.length:Int))&&decide ((l.length:Int)<=(65536:iI.D)))) (true=true/\Q [.agg [.bool false,.i 0,.i 0,.nils],.i 60] [(4,.var [.bool false,.i 0,.i 0,.nils])]) (ctAre.pre (l,m,())/\bc (bif false then true else !l.all (sOK m)) (Q [.agg [.bool false,.i 0,.i 0,.nils],.i 60] [(4,.var [.bool false,.i 0,.i 0,.nils])]) (ctOpsA.pre (l,())/\bc (decide ((4096:Int)<(↑(opsL l).length:Int))) (Q [.agg [.bool false,.i 0,.i 0,.nils],.i 2] [(4,.var [.bool false,.i 0,.i 0,.nils])]) (Q [.agg [.bool false,.i m,.i (l.length:Int),.sl opS (opsL l)],.i 0] [(4,.var [.bool false,.i m,.i (l.length:Int),.sl opS (opsL l)])]))))):=by kernel_rfl
def ctRop:Ctr:=⟨[opS,iI],λ _=>True,λ x=>[.bool (isRB x.1 x.2.1)],λ _=>[]⟩
theorem q04 (k f n b m:Int) (d:List Int):sA [(67,.inl ctIn)] Tryz.f145 (QC ctRop ((k,f,n,b,d),m,())) (Px.Good Tryz.prog tt G0 145 Tryz.f145.ntmps Tryz.f145.results.toList (QC ctRop ((k,f,n,b,d),m,()))) [.code (qah Tryz.f145)] (entry [opS,iI] ((k,f,n,b,d),m,())):=by
 have fin:∀ (v:Bool) (blk:List (Nat × LB)),isRB (k,f,n,b,d) m=v->QC ctRop ((k,f,n,b,d),m,()) [SV.bool v] blk:=λ v blk h=>QC.flat (by show [SV.bool (isRB _ _)]=_;rw[h]) rfl rfl
 refine (qvy k f n b m d _ _).mpr ⟨trivial,qaf (λ h=>?_) (λ h=>?_)⟩
 ·have h:(!(decide (1<=n)&&decide (n<=65536)))=true:=h;refine fin _ _ ?_
  show (decide (1<=n)&&(decide (n<=65536)&&kR _ m))=false
  rw[Bool.not_eq_true'] at h;rw[<- Bool.and_assoc,h];rfl
 ·have h:(!(decide (1<=n)&&decide (n<=65536)))=false:=h;rw[Bool.not_eq_false'] at h;have hk:isRB (k,f,n,b,d) m=kR (k,f,n,b,d) m:=by
   show (decide (1<=n)&&(decide (n<=65536)&&kR _ m))=_
   rw[<- Bool.and_assoc,h,Bool.true_and]
  refine ⟨trivial,qaf (λ h1=>?_) (λ h1=>qaf (λ h2=>?_) (λ h2=>qaf (λ h3=>?_) (λ h3=>qaf (λ h4=>?_) (λ h4=>?_))))⟩
  ·have h1:k=1:=of_decide_eq_true h1;have e:kR (k,f,n,b,d) m=(qa8 f n m&&(decide (b=0)&&decide ((d.length:Int)=0))):=by subst h1;rfl
   rw[e] at hk;refine qaf (λ a=>qaf (λ c=>?_) (λ c=>⟨rfl,?_⟩)) (λ a=>⟨rfl,rfl,?_⟩)
   ·exact fin _ _ (by rw[hk,show qa8 f n m=true from a,c];rfl)
   ·exact fin _ _ (by rw[hk,show qa8 f n m=true from a,c];rfl)
   ·exact fin _ _ (by rw[hk,show qa8 f n m=false from a];rfl)
  ·have h2:k=2:=of_decide_eq_true h2;have e:kR (k,f,n,b,d) m=(qa8 f n m&&(decide (b=0)&&decide ((d.length:Int)=n))):=by subst h2;rfl
   rw[e] at hk;refine qaf (λ a=>qaf (λ c=>?_) (λ c=>⟨rfl,?_⟩)) (λ a=>⟨rfl,rfl,?_⟩)
   ·exact fin _ _ (by rw[hk,show qa8 f n m=true from a,c];rfl)
   ·exact fin _ _ (by rw[hk,show qa8 f n m=true from a,c];rfl)
   ·exact fin _ _ (by rw[hk,show qa8 f n m=false from a];rfl)
  ·have h3:k=3:=of_decide_eq_true h3;have e:kR (k,f,n,b,d) m=(decide (f=0)&&decide ((d.length:Int)=0)):=by subst h3;rfl
   rw[e] at hk;refine qaf (λ a=>?_) (λ a=>⟨rfl,?_⟩)
   ·exact fin _ _ (by rw[hk,a];rfl)
   ·exact fin _ _ (by rw[hk,a];rfl)
  ·have h4:k=4:=of_decide_eq_true h4;have e:kR (k,f,n,b,d) m=(decide (f=0)&&(decide (b=0)&&decide ((d.length:Int)=n))):=by subst h4;rfl
   rw[e] at hk;refine qaf (λ a=>qaf (λ c=>?_) (λ c=>⟨rfl,?_⟩)) (λ a=>⟨rfl,rfl,?_⟩)
   ·exact fin _ _ (by rw[hk,a,c];rfl)
   ·exact fin _ _ (by rw[hk,a,c];rfl)
   ·exact fin _ _ (by rw[hk,a];rfl)
  ·have h1:¬ k=1:=of_decide_eq_false h1;have h2:¬ k=2:=of_decide_eq_false h2;have h3:¬ k=3:=of_decide_eq_false h3;have h4:¬ k=4:=of_decide_eq_false h4;refine fin _ _ ?_;rw[hk]
   show (if k=1 then _ else if k=2 then _ else if k=3 then _ else if k=4 then _ else false)=false
   rw[if_neg h1,if_neg h2,if_neg h3,if_neg h4]
theorem qwx:Held Tryz.prog G0 145 ctRop:=
 Held.run (cx0.k qjp (fn:=Tryz.f67)) (fn:=Tryz.f145) rfl rfl ⟨by decide,by decide⟩ λ ⟨⟨k,f,n,b,d⟩,m,_⟩ _=>q04 k f n b m d
theorem qty:Held Tryz.prog G0 71 q35:=by
 refine Held.run dxO (fn:=Tryz.f71) rfl rfl ⟨by decide,by decide⟩ ?_;rintro ⟨l,⟨⟩⟩ hp;replace hp:l.length=0:=hp;have e:l=[]:=List.eq_nil_of_length_eq_zero hp;subst e;refine (qyr [] _ _).mpr ?_;refine Good.only (S':=⟨[(0,.sl syS []),(3,.nils),(4,.i ((0:Nat):Int)),(5,.i ((1:Nat):Int))],[]⟩) (qag dxO _ _ _ ((qsk [] 0 1 _ _).mpr ?_)) ⟨rfl,rfl,rfl,rfl,trivial⟩ trivial;rw[decide_eq_false (by decide),bc_f];exact QC.mt ⟨_,_,rfl,.inr ⟨rfl,rfl⟩,rfl⟩ rfl
theorem qtx:Held Tryz.prog G0 71 ctOpsA:=λ x hp=>by
 by_cases h:List.length x.1=0
 ·exact qty x h
 ·exact qpx x ⟨Nat.pos_of_ne_zero h,hp⟩
def ctOfA:Ctr:=⟨[.sl syS,iI],λ x=>List.length x.1<16777216,λ x=>[paV (ofV x.1 x.2.1).1,.i (ofV x.1 x.2.1).2],λ _=>[]⟩
theorem qxj:Held Tryz.prog G0 23 ctOfA:=by
 refine Held.run ((cx1.k qqp (fn:=Tryz.f70)).k qtx (fn:=Tryz.f71)) (fn:=Tryz.f23) rfl rfl ⟨by decide,by decide⟩ ?_;rintro ⟨l,m,⟨⟩⟩ hp;replace hp:l.length<16777216:=hp;have bad:¬ (szB m=true/\szB l.length=true/\l.all (sOK m)=true)->ofV l m=((false,0,0,[]),60):=λ q=>if_neg q
 refine (q22 l m _ _).mpr ⟨trivial,qaf (λ h=>⟨rfl,rfl,?_⟩) (λ h=>⟨trivial,qaf (λ h2=>⟨rfl,?_⟩) (λ h2=>⟨(show l.length<1099511627776 by omega),qaf (λ h3=>?_) (λ h3=>⟨hp,qaf (λ h4=>?_) (λ h4=>?_)⟩)⟩)⟩)⟩
 ·have h:(!szB m)=true:=h;have hv:=bad λ q=>by rw[q.1] at h;cases h
  exact QC.mt (by show MtL _ [paV (ofV l m).1,.i (ofV l m).2] _;rw[hv];exact ⟨_,_,rfl,⟨_,rfl,_,_,rfl,rfl,_,_,rfl,rfl,_,_,rfl,rfl,_,_,rfl,.inr ⟨rfl,rfl⟩,rfl⟩,_,_,rfl,rfl,rfl⟩) rfl
 ·have h2:(!szB l.length)=true:=h2;have hv:=bad λ q=>by rw[q.2.1] at h2;cases h2
  exact QC.mt (by show MtL _ [paV (ofV l m).1,.i (ofV l m).2] _;rw[hv];exact ⟨_,_,rfl,⟨_,rfl,_,_,rfl,rfl,_,_,rfl,rfl,_,_,rfl,rfl,_,_,rfl,.inr ⟨rfl,rfl⟩,rfl⟩,_,_,rfl,rfl,rfl⟩) rfl
 ·have h3:(!l.all (sOK m))=true:=h3;have hv:=bad λ q=>by rw[q.2.2] at h3;cases h3
  exact QC.mt (by show MtL _ [paV (ofV l m).1,.i (ofV l m).2] _;rw[hv];exact ⟨_,_,rfl,⟨_,rfl,_,_,rfl,rfl,_,_,rfl,rfl,_,_,rfl,rfl,_,_,rfl,.inr ⟨rfl,rfl⟩,rfl⟩,_,_,rfl,rfl,rfl⟩) rfl
 all_goals
  have h:(!szB m)=false:=h;have h2:(!szB l.length)=false:=h2;have h3:(!l.all (sOK m))=false:=h3;have hg:szB m=true/\szB l.length=true/\l.all (sOK m)=true:=⟨by simpa using h,by simpa using h2,by simpa using h3⟩
 ·have h4:(4096:Int)<((opsL l).length:Int):=of_decide_eq_true h4;have hv:ofV l m=((false,0,0,[]),2):=by unfold ofV;rw[if_pos hg,if_pos (by omega)]
  exact QC.mt (by show MtL _ [paV (ofV l m).1,.i (ofV l m).2] _;rw[hv];exact ⟨_,_,rfl,⟨_,rfl,_,_,rfl,rfl,_,_,rfl,rfl,_,_,rfl,rfl,_,_,rfl,.inr ⟨rfl,rfl⟩,rfl⟩,_,_,rfl,rfl,rfl⟩) rfl
 ·have h4:¬ (4096:Int)<((opsL l).length:Int):=of_decide_eq_false h4;have hv:ofV l m=(((false,m,(l.length:Int),opsL l):PaT),(0:Int)):=by unfold ofV;rw[if_pos hg,if_neg (by omega)]
  exact QC.flat (by show [paV (ofV l m).1,.i (ofV l m).2]=_;rw[hv];rfl) rfl rfl
def CRc:CV:=[(145,.inl ctRop),(67,.inl ctIn)]
theorem cxRc:CxOK Tryz.prog tt G0 CRc:=(cx0.k qjp (fn:=Tryz.f67)).k qwx (fn:=Tryz.f145)
set_option maxRecDepth 100000
theorem qzt (li:Bool) (m o:Int) (l:List OpT) (Q:QT) (R:RT):sA CRc Tryz.f111 Q (λ it S=>R it (qcb [1,4,5] [1] S)) [.code (qah Tryz.f111)] (entry [paS] ((li,m,o,l),())) =
  (ctIn.pre (m,(0:Int),(65536:Int),())/\bc (!(decide ((0:Int)<=m)&&decide (m<=65536))) (true=true/\true=true/\Q [.i (-1:Int),.i 60] [(1,.var [.bool li,.i m,.i o,.sl opS l])]) (ctIn.pre (o,(0:Int),(65536:Int),())/\bc (bif false then true else !(decide ((0:Int)<=o)&&decide (o<=65536))) (true=true/\Q [.i (-1:Int),.i 60] [(1,.var [.bool li,.i m,.i o,.sl opS l])]) (bc (bif false then true else decide ((4096:Int)<(l.length:Int))) (Q [.i (-1:Int),.i 60] [(1,.var [.bool li,.i m,.i o,.sl opS l])]) (R (hd Tryz.f111 0) { env:=[(1,.ptr 1 0),(4,.i 0),(5,.i 0)],blk:=[(1,.var [.bool li,.i m,.i o,.sl opS l])] })))):=by kernel_rfl
theorem qpa (li:Bool) (m o s:Int) (l:List OpT) (i:Nat) (Q:QT) (R:RT):sA CRc Tryz.f111 Q (λ it S=>R it (qcb [1,4,5] [1] S)) (hd Tryz.f111 0) ⟨[(1,.ptr 1 0),(4,.i s),(5,.i (i:Nat))],[(1,.var [.bool li,.i m,.i o,.sl opS l])]⟩ =
  (bc (decide ((i:Int)<(l.length:Int))) ((0:Int)<=(i:Int)/\(i:Int)<(l.length:Int)/\ctRop.pre ((gtO l (i:Int).toNat),m,())/\bc (!isRB (gtO l (i:Int).toNat) m) (true=true/\Q [.i (i:Int),.i 60] [(1,.var [.bool li,.i m,.i o,.sl opS l])]) ((0:Int)<=(i:Int)/\(i:Int)<(l.length:Int)/\bc (bif false then true else decide (o<IntKind.i64.wrap (s+(gtO l (i:Int).toNat).2.2.1))) (Q [.i (i:Int),.i 60] [(1,.var [.bool li,.i m,.i o,.sl opS l])]) ((0:Int)<=(i:Int)/\(i:Int)<(l.length:Int)/\R (hd Tryz.f111 0) { env:=[(1,.ptr 1 0),(4,.i (IntKind.i64.wrap (s+(gtO l (i:Int).toNat).2.2.1))),(5,.i (IntKind.i64.wrap ((i:Int)+1)))],blk:=[(1,.var [.bool li,.i m,.i o,.sl opS l])] }))) (bc (decide (s≠o)) (Q [.i (l.length:Int),.i 60] [(1,.var [.bool li,.i m,.i o,.sl opS l])]) (Q [.i (l.length:Int),.i 0] [(1,.var [.bool li,.i m,.i o,.sl opS l])]))):=by kernel_rfl
theorem qvz (li:Bool) (m o:Int) (l:List OpT) (Q:QT) (R:RT):sA [(111,.inl ctChk)] Tryz.f59 Q R [.code (qah Tryz.f59)] (entry [paS] ((li,m,o,l),())) =
  (ctChk.pre ((li,m,o,l),())/\Q [.bool (decide ((chkV (li,m,o,l)).2=(0:Int)))] [(1,.var [.bool li,.i m,.i o,.sl opS l])]):=by kernel_rfl
abbrev ChQ (a b:Int):List SV->List (Nat × LB)->Prop:=λ rs _=>rs=[.i a,.i b]
theorem qtn (li:Bool) (m o:Int) (l:List OpT) (ho:0<=o/\o<=65536) (hl:l.length<=4096):∀ (k i:Nat) (s:Int),l.length-i=k->i<=l.length->0<=s->s<=o ->
  GD 111 Tryz.f111 (ChQ (chkF m l.length (l.drop i) (o-s) i).1 (chkF m l.length (l.drop i) (o-s) i).2) (hd Tryz.f111 0) ⟨[(1,.ptr 1 0),(4,.i s),(5,.i (i:Nat))],[(1,.var [.bool li,.i m,.i o,.sl opS l])]⟩:=by
 intro k
 induction k with
 | zero=>
  intro i s hk hi h0 hs;have hi:i=l.length:=by omega
  subst hi;refine qaw cxRc (qpa li m o s l _ _ _) ?_;rw[decide_eq_false (by omega),bc_f,List.drop_length];simp only[chkF];refine qaf (λ h=>?_) (λ h=>?_)
  ·have h:s≠o:=of_decide_eq_true h;rw[if_pos (by omega)]
  ·have h:¬ s≠o:=of_decide_eq_false h;rw[if_neg (by omega)]
 | succ k ih=>
  intro i s hk hi h0 hs;have hil:i<l.length:=by omega
  refine qaw cxRc (qpa li m o s l i _ _) ?_;rw[decide_eq_true (show (i:Int)<(l.length:Int) by omega),bc_t,Int.toNat_natCast,qcz hil,IntWalk.i64_in ((i:Int)+1) (by omega),qnl hil];simp only[chkF];refine ⟨by omega,by omega,trivial,qaf (λ h=>⟨trivial,?_⟩) (λ h=>⟨by omega,by omega,?_⟩)⟩
  ·have h:isRB l[i] m=false:=by simpa using h
   rw[if_pos h]
  ·have h:isRB l[i] m=true:=by simpa using h
   have hx:=qde h;have w:IntKind.i64.wrap (s+l[i].2.2.1)=s+l[i].2.2.1:=IntWalk.i64_in _ (by omega);have h2:¬ isRB l[i] m=false:=by rw[h];decide
   rw[w,if_neg h2];refine qaf (λ h3=>?_) (λ h3=>?_)
   ·have h3:o<s+l[i].2.2.1:=of_decide_eq_true h3;rw[if_pos (by omega)]
   ·have h3:¬ o<s+l[i].2.2.1:=of_decide_eq_false h3;have nx:=ih (i+1) (s+l[i].2.2.1) (by omega) (by omega) (by omega) (by omega);have e:o-(s+l[i].2.2.1)=o-s-l[i].2.2.1:=by omega
    rw[e] at nx;rw[if_neg (by omega)];exact ⟨by omega,by omega,nx.only ⟨rfl,rfl,rfl,trivial⟩ ⟨rfl,trivial⟩⟩
theorem qw2 (li:Bool) (m o:Int) (l:List OpT):GD 111 Tryz.f111 (ChQ (chkV (li,m,o,l)).1 (chkV (li,m,o,l)).2) [.code (qah Tryz.f111)] (entry [paS] ((li,m,o,l),())):=by
 have bad:¬ (szB m=true/\szB o=true/\l.length<=4096)->chkV (li,m,o,l)=(-1,60):=λ q=>if_neg q
 refine qaw cxRc (qzt li m o l _ _) ⟨trivial,qaf (λ h=>⟨rfl,rfl,?_⟩) (λ h=>⟨trivial,qaf (λ h2=>⟨rfl,?_⟩) (λ h2=>qaf (λ h3=>?_) (λ h3=>?_))⟩)⟩
 ·have h:(!szB m)=true:=h;rw[bad λ q=>by rw[q.1] at h;cases h]
 ·have h2:(!szB o)=true:=h2;rw[bad λ q=>by rw[q.2.1] at h2;cases h2]
 ·have h3:(4096:Int)<(l.length:Int):=of_decide_eq_true h3;rw[bad λ q=>by omega]
 ·have h:(!szB m)=false:=h;have h2:(!szB o)=false:=h2;have h3:¬ (4096:Int)<(l.length:Int):=of_decide_eq_false h3;have hg:szB m=true/\szB o=true/\l.length<=4096:=⟨by simpa using h,by simpa using h2,by omega⟩;have ho:0<=o/\o<=65536:=by
   have:=hg.2.1;simpa [szB] using this
  have hv:chkV (li,m,o,l)=chkF m l.length (l.drop 0) (o-0) ((0:Nat):Int):=by
   unfold chkV;rw[if_pos hg,Int.sub_zero];rfl
  rw[hv];exact (qtn li m o l ho hg.2.2 _ 0 0 rfl (by omega) (by omega) ho.1).only ⟨rfl,rfl,rfl,trivial⟩ ⟨rfl,trivial⟩
theorem qto:Held Tryz.prog G0 111 ctChk:=
 Held.of cxRc (fn:=Tryz.f111) rfl rfl ⟨by decide,by decide⟩ λ ⟨⟨li,m,o,l⟩,_⟩ _=>
  (qw2 li m o l).post λ rs blk hq=>QC.flat (by rw[hq];rfl) rfl (by rw[hq];rfl)
def ctRi:Ctr:=⟨[paS],λ _=>True,λ x=>[.bool (decide ((chkV x.1).2=0))],λ _=>[]⟩
theorem qra:Held Tryz.prog G0 59 ctRi:=
 Held.run (cx0.k qto (fn:=Tryz.f111)) (fn:=Tryz.f59) rfl rfl ⟨by decide,by decide⟩ λ ⟨⟨li,m,o,l⟩,_⟩ _=>
  (qvz li m o l _ _).mpr ⟨trivial,QC.flat rfl rfl rfl⟩
section
variable {m:Int} (hm:m<16777216)
include hm
end
section
variable (l:List SyT) (hl:l.length<=65536)
include hl
end
section
variable (l:List SyT) (hl:l.length<=65536)
include hl
end
theorem qiu (z:Int):MtL (λ _=>none) [paV (false,0,0,[]),.i z] [.agg [.bool false,.i 0,.i 0,.nils],.i z]:=
 ⟨_,_,rfl,⟨_,rfl,_,_,rfl,rfl,_,_,rfl,rfl,_,_,rfl,rfl,_,_,rfl,.inr ⟨rfl,rfl⟩,rfl⟩,_,_,rfl,rfl,rfl⟩
theorem q27 {n:Int} (h:szB n=true):0<=n/\n<=65536:=by simpa [szB] using h
theorem q0k (p:PaT):(symV p).1.length<=65536:=by
 unfold symV;split
 next h=>
  obtain ⟨h1,h2,h3,_⟩:=qf9 h;have:=qgf h1
  show (symF p.2.2.2).length<=65536
  omega
 ·exact Nat.zero_le _
def rkd (s:SyT):Int:=match s.1 with
 | false=>4
 | true=>if s.2.2≠0 then 2 else 1
def ctRk:Ctr:=⟨[syS],λ _=>True,λ x=>[.i (rkd x.1)],λ _=>[]⟩
def rgoB (a b:SyT):Bool:=decide (rkd a=rkd b)&&(!a.1 || decide (b.2.1=IntKind.i64.wrap (a.2.1+1)))
def ctRgo:Ctr:=⟨[syS,syS],λ _=>True,λ x=>[.bool (rgoB x.1 x.2.1)],λ _=>[]⟩
set_option maxRecDepth 100000
theorem vc_rk (f:Bool) (a b:Int) (Q:QT) (R:RT):sA [] Tryz.f74 Q R [.code (qah Tryz.f74)] (entry [syS] ((f,a,b),())) =
  (bc (!f) (Q [.i 4] [(1,.var [.bool f,.i a,.u b])]) (bc (decide (b≠0)) (Q [.i 2] [(1,.var [.bool f,.i a,.u b])]) (Q [.i 1] [(1,.var [.bool f,.i a,.u b])]))):=by kernel_rfl
theorem q2s (f:Bool) (a b:Int) (f2:Bool) (a2 b2:Int) (Q:QT) (R:RT):sA [(74,.inl ctRk)] Tryz.f73 Q R [.code (qah Tryz.f73)] (entry [syS,syS] ((f,a,b),(f2,a2,b2),())) =
  (ctRk.pre ((f,a,b),())/\ctRk.pre ((f2,a2,b2),())/\bc (decide (rkd (f,a,b)=rkd (f2,a2,b2))) (bc (!f) (true=true/\Q [.bool true] [(2,.var [.bool f,.i a,.u b]),(3,.var [.bool f2,.i a2,.u b2])]) (Q [.bool (decide (a2=IntKind.i64.wrap (a+1)))] [(2,.var [.bool f,.i a,.u b]),(3,.var [.bool f2,.i a2,.u b2])])) (false=false/\Q [.bool false] [(2,.var [.bool f,.i a,.u b]),(3,.var [.bool f2,.i a2,.u b2])])):=by kernel_rfl
theorem qzs (f:Bool) (a b:Int) (m:Int) (Q:QT) (R:RT):sA [(67,.inl ctIn)] Tryz.f72 Q R [.code (qah Tryz.f72)] (entry [syS,iI] ((f,a,b),m,())) =
  (bc f (ctIn.pre (a,(0:Int),IntKind.i64.wrap (m-1),())/\Q [.bool (decide ((0:Int)<=a)&&decide (a<=IntKind.i64.wrap (m-1)))] [(2,.var [.bool f,.i a,.u b])]) (Q [.bool (decide (a=(0:Int)))] [(2,.var [.bool f,.i a,.u b])])):=by kernel_rfl
theorem qtg:Held Tryz.prog G0 74 ctRk:=by
 refine Held.run cx0 (fn:=Tryz.f74) rfl rfl ⟨by decide,by decide⟩ λ ⟨⟨f,a,b⟩,_⟩ _=>(vc_rk f a b _ _).mpr ?_
 have fin:∀ (v:Int) blk,rkd (f,a,b)=v->QC ctRk ((f,a,b),()) [SV.i v] blk:=λ v blk h=>QC.flat (by show [SV.i (rkd _)]=_;rw[h]) rfl rfl
 refine qaf (λ h=>fin _ _ ?_) (λ h=>qaf (λ h2=>fin _ _ ?_) (λ h2=>fin _ _ ?_))
 ·rw[Bool.not_eq_true'] at h;rw[h];rfl
 ·rw[Bool.not_eq_false'] at h;rw[h];simp only[rkd];rw[if_pos (of_decide_eq_true h2)]
 ·rw[Bool.not_eq_false'] at h;rw[h];simp only[rkd];rw[if_neg (of_decide_eq_false h2)]
theorem qwy:Held Tryz.prog G0 73 ctRgo:=by
 refine Held.run (cx0.k qtg (fn:=Tryz.f74)) (fn:=Tryz.f73) rfl rfl ⟨by decide,by decide⟩ λ ⟨⟨f,a,b⟩,⟨f2,a2,b2⟩,_⟩ _=>(q2s f a b f2 a2 b2 _ _).mpr ⟨trivial,trivial,?_⟩
 have fin:∀ (v:Bool) blk,rgoB (f,a,b) (f2,a2,b2)=v->QC ctRgo ((f,a,b),(f2,a2,b2),()) [SV.bool v] blk:=λ v blk h=>QC.flat (by show [SV.bool (rgoB _ _)]=_;rw[h]) rfl rfl
 refine qaf (λ h=>qaf (λ h2=>⟨rfl,fin _ _ ?_⟩) (λ h2=>fin _ _ ?_)) (λ h=>⟨rfl,fin _ _ ?_⟩)
 ·simp only[rgoB,h,Bool.true_and];rw[h2];rfl
 ·simp only[rgoB,h,Bool.true_and];rw[h2];rfl
 ·simp only[rgoB,h,Bool.false_and]
def qtr (m:Int):Prop:=0<=m/\m<16777216
def ctRsyB:Ctr:=⟨[syS,iI],λ x=>qtr x.2.1,λ x=>[.bool (sOK x.2.1 x.1)],λ _=>[]⟩
theorem sOK_w (a b m:Int) (hp:qtr m):sOK m (true,a,b)=(decide (0<=a)&&decide (a<=IntKind.i64.wrap (m-1))):=by
 obtain ⟨h0,h1⟩:=hp;rw[IntWalk.i64_in (m-1) (by omega)]
 show (decide (0<=a)&&decide (a<m))=_
 congr 1
 exact decide_eq_decide.2 (by omega)
theorem qtf:Held Tryz.prog G0 72 ctRsyB:=by
 refine Held.run (cx0.k qjp (fn:=Tryz.f67)) (fn:=Tryz.f72) rfl rfl ⟨by decide,by decide⟩ λ ⟨⟨f,a,b⟩,m,_⟩ hp=>(qzs f a b m _ _).mpr ?_
 have fin:∀ (v:Bool) blk,sOK m (f,a,b)=v->QC ctRsyB ((f,a,b),m,()) [SV.bool v] blk:=λ v blk h=>QC.flat (by show [SV.bool (sOK _ _)]=_;rw[h]) rfl rfl
 refine qaf (λ h=>⟨trivial,fin _ _ ?_⟩) (λ h=>fin _ _ ?_)
 ·rw[show f=true from h];exact sOK_w a b m hp
 ·rw[show f=false from h];rfl
end Go.Proofs.YtgopblmdkjkbbaaGreatDoor
