/-
  A part of the proof: what pieces of the program give; conditions: those of each theorem.
-/
import Derived.Test.YtdeacfammdjajaaDoorQ2
import Derived.Test.YtdeacfammdjajaaDoorQ1
import Derived.Test.YtdeacfammdjajaaDoorHD
set_option linter.unusedVariables false
set_option linter.unusedSimpArgs false
namespace Go.Proofs.YtdeacfammdjajaaDoor
open Go.Px Go.Ax
set_option maxRecDepth 100000
attribute [local irreducible] Go.Px.sy Go.Px.syE
def bT (l:List SyT) (m:Nat):List LiT:=(List.range (l.length+1)).map λ j=>if m<=j then bst (l.drop j) else zLi
theorem qia (l:List SyT) (m:Nat):(bT l m).length=l.length+1:=by simp[bT]
theorem q41 (l:List SyT) (i:Nat) (hi:i<=l.length):bT l i=(bT l (i+1)).set i (bst (l.drop i)):=by
 refine List.ext_getElem? λ j=>?_
 rw[List.getElem?_set];by_cases h:i=j
 ·subst h;rw[if_pos rfl,if_pos (by rw[qia];omega)];simp[bT,show i<l.length+1 by omega]
 ·rw[if_neg h];unfold bT;by_cases hj:j<l.length+1
  ·simp only[List.getElem?_map,List.getElem?_range hj,Option.map_some];by_cases h2:i<=j
   ·rw[if_pos h2,if_pos (by omega)]
   ·rw[if_neg h2,if_neg (by omega)]
  ·simp[show l.length+1<=j by omega]
theorem bT_z (l:List SyT) (i:Nat) (hi:i<=l.length):(bT l (i+1)).set i zLi=bT l (i+1):=by
 refine List.ext_getElem? λ j=>?_
 rw[List.getElem?_set];by_cases h:i=j
 ·subst h;rw[if_pos rfl,if_pos (by rw[qia];omega)];simp[bT,show i<l.length+1 by omega,show ¬ (i+1<=i) by omega]
 ·rw[if_neg h]
theorem qpr (l:List SyT) (m j:Nat) (hj:j<=l.length) (hm:m<=j):gtL (bT l m) j=bst (l.drop j):=by
 show ((bT l m)[j]?).getD _=_
 simp[bT,show j<l.length+1 by omega,hm]
theorem q42 (l:List SyT):List.replicate (l.length+1) (liS.dflt:LiT)=bT l l.length:=by
 refine List.ext_getElem? λ j=>?_
 by_cases hj:j<l.length+1
 ·simp only[bT,List.getElem?_replicate,List.getElem?_map,List.getElem?_range hj,Option.map_some,if_pos hj];by_cases h:l.length<=j
  ·rw[if_pos h,List.drop_eq_nil_of_le h];rfl
  ·rw[if_neg h];rfl
 ·simp[bT,show l.length+1<=j by omega]
def bgL (r:List SyT):List LiT:=[zLi,beg r 1,beg r 2,beg r 3,beg r 4]
def qbo (l:List SyT):List LiT:=bT l 0
def q65 (l:List SyT):Prop:=l.length<=65536
def ctBs:Ctr:=⟨[.sl syS],λ x=>q65 x.1,λ x=>[.win true liS 0 0 (qbo x.1).length],λ x=>[.row 130 liS (qbo x.1)]⟩
section
variable (l:List SyT) (hl:l.length<=65536)
abbrev BQ:List SV->List (Nat × LB)->Prop:=QC ctBs (l,())
abbrev bsO (b bg:List LiT) (i:Int):PS:=⟨[(0,.sl syS l),(3,.win true liS 10 0 b.length),(4,.ptr 4 0),(5,.i i)],[(4,.var [.arr 5 liS bg]),(10,.row 130 liS b)]⟩
abbrev bsI (b bg:List LiT) (i k:Int):PS:=⟨[(0,.sl syS l),(3,.win true liS 10 0 b.length),(4,.ptr 4 0),(5,.i i),(6,.i k)],[(4,.var [.arr 5 liS bg]),(10,.row 130 liS b)]⟩
include hl
theorem qn4 (i:Nat) (hi:i<l.length) (k:Nat) (hk:1<=k/\k<=4) (b bg:List LiT) (hb:b.length=l.length+1) (hbg:bg.length=5) (c:LiT) (h1:gtL b (i+1)=bst (l.drop (i+1))) (hg:gtL bg k=beg (l.drop (i+1)) k)
  (nx:GD 72 Tryd.f72 (BQ l) (hd Tryd.f72 1) (bsI l (b.set i (upd c (beg (l.drop i) k))) (bg.set k (beg (l.drop i) k)) i ((k+1:Nat):Int))) :
  GD 72 Tryd.f72 (BQ l) (hd Tryd.f72 1) (bsI l (b.set i c) bg i (k:Nat)):=by
 have kk:kOK (k:Int):=by unfold kOK;omega
 have hd:l.drop i=l[i]::l.drop (i+1):=List.drop_eq_getElem_cons hi;have rl:(l.drop (i+1)).length=l.length-(i+1):=List.length_drop ..;have ra:=qsk (l.drop (i+1)) (by omega);have rb:=qpq (l.drop (i+1)) (by omega);have eb:begL k (l.drop i) (bst (l.drop (i+1))).2.2 (beg (l.drop (i+1)) k)=beg (l.drop i) k:=by
  rw[hd,qte];unfold begL;rw[quk,q2h l[i] (l.drop (i+1)) 0]
 refine qah cxBs (q35 l (b.set i c) bg i k _ _) ?_;have w1:IntKind.i64.wrap ((i:Int)+1)=((i+1:Nat):Int):=by rw[IntWalk.i64_in _ (by omega)];omega
 have w2:IntKind.i64.wrap ((k:Int)+1)=((k+1:Nat):Int):=by rw[IntWalk.i64_in _ (by omega)];omega
 have g1:gtL (b.set i c) (0+(i+1))=bst (l.drop (i+1)):=by
  rw[<- h1,Nat.zero_add]
  show ((b.set i c)[i+1]?).getD _=(b[i+1]?).getD _
  rw[List.getElem?_set_ne (by omega)]
 have g2:∀ x,gtL (bg.set k x) k=x:=λ x=>by
  show ((bg.set k x)[k]?).getD _=_
  rw[List.getElem?_set_self (by omega)];rfl
 have g3:gtL (b.set i c) (0+i)=c:=by
  rw[Nat.zero_add]
  show ((b.set i c)[i]?).getD _=_
  rw[List.getElem?_set_self (by omega)];rfl
 rw[w1,w2,decide_eq_true (show (k:Int)<=4 by omega),bc_t];simp only[Int.toNat_natCast];rw[g1,hg,eb,g2,g3];have pl:(l.drop i).length=l.length-i:=List.length_drop ..;have pre1:q66 k (l.drop i) (beg (l.drop (i+1)) k):=by
  refine ⟨kk,by omega,?_⟩;rcases ra.1 k kk with h | ⟨_,n,n1,n2,n3,_⟩
  ·left;rw[h.2];rfl
  ·right;have:=qcy k (l.drop (i+1));omega
 have pre2:boB (bst (l.drop (i+1))).2.2 (beg (l.drop (i+1)) k):=by
  unfold boL at rb;refine ⟨by omega,?_⟩;rcases ra.1 k kk with h | ⟨_,n,n1,n2,n3,_,_,h⟩
  ·rw[h.2];exact (show 0<=(0:Int)/\(0:Int)<16777216/\0<=(0:Int)/\(0:Int)<16777216 by decide)
  ·have:=qcy k (l.drop (i+1));unfold boL at h;omega
 have bl:(b.set i c).length=l.length+1:=by rw[List.length_set];exact hb
 refine ⟨by omega,by omega,by omega,by omega,by omega,by omega,by omega,by omega,⟨pre1,pre2⟩,by omega,by omega,by omega,by omega,by omega,by omega,by omega,by omega,by omega,trivial,qaf (λ h=>?_) (λ h=>?_)⟩
 ·have eu:upd c (beg (l.drop i) k)=beg (l.drop i) k:=by unfold upd;rw[if_pos h]
  rw[eu] at nx;refine ⟨by omega,by omega,by omega,by omega,by omega,by omega,?_⟩;rw[Nat.zero_add,List.set_set];exact nx.only ⟨rfl,by simp only[List.length_set];rfl,rfl,rfl,rfl,trivial⟩ ⟨rfl,rfl,trivial⟩
 ·have eu:upd c (beg (l.drop i) k)=c:=by unfold upd;rw[if_neg (by rw[h];decide)]
  rw[eu] at nx;exact nx.only ⟨rfl,rfl,rfl,rfl,rfl,trivial⟩ ⟨rfl,rfl,trivial⟩
theorem q9a:∀ (n:Nat),n<=l.length->GD 72 Tryd.f72 (BQ l) (hd Tryd.f72 0) (bsO l (bT l n) (bgL (l.drop n)) ((n:Int)-1)):=by
 intro n
 induction n with
 | zero=>
  intro hn;refine qah cxBs (q34 l (bT l 0) (bgL (l.drop 0)) (((0:Nat):Int)-1) _ _) ?_;rw[decide_eq_false (by omega),bc_f];exact qsa (e:=liS) (et:=130) (a:=10) (xs:=qbo l) rfl rfl rfl rfl rfl
 | succ n ih=>
  intro hn;have e:((n+1:Nat):Int)-1=(n:Int):=by omega
  rw[e];refine qah cxBs (q34 l (bT l (n+1)) (bgL (l.drop (n+1))) n _ _) ?_;rw[decide_eq_true (show (0:Int)<=(n:Int) by omega),bc_t];have fin:GD 72 Tryd.f72 (BQ l) (hd Tryd.f72 1) (bsI l (bT l n) (bgL (l.drop n)) n 5):=by
   refine qah cxBs (q35 l (bT l n) (bgL (l.drop n)) n 5 _ _) ?_;rw[decide_eq_false (by omega),bc_f,IntWalk.i64_in ((n:Int)-1) (by omega)];exact (ih (by omega)).only ⟨rfl,rfl,rfl,rfl,trivial⟩ ⟨rfl,rfl,trivial⟩
  have hb:=qia l (n+1);have h1:=qpr l (n+1) (n+1) (by omega) (Nat.le_refl _);rw[q41 l n (by omega)] at fin;have hd:l.drop n=l[n]::l.drop (n+1):=List.drop_eq_getElem_cons hn;have up:bst (l.drop n)=upd (upd (upd (upd zLi (beg (l.drop n) 1)) (beg (l.drop n) 2)) (beg (l.drop n) 3)) (beg (l.drop n) 4):=by rw[hd];rfl
  rw[up] at fin;have s4:=qn4 l hl n hn 4 ⟨by omega,by omega⟩ (bT l (n+1)) [zLi,beg (l.drop n) 1,beg (l.drop n) 2,beg (l.drop n) 3,beg (l.drop (n+1)) 4] hb rfl _ h1 rfl (fin.only ⟨rfl,by simp only[List.length_set];rfl,rfl,rfl,rfl,trivial⟩ ⟨rfl,rfl,trivial⟩);have s3:=qn4 l hl n hn 3 ⟨by omega,by omega⟩ (bT l (n+1)) [zLi,beg (l.drop n) 1,beg (l.drop n) 2,beg (l.drop (n+1)) 3,beg (l.drop (n+1)) 4] hb rfl _ h1 rfl (s4.only ⟨rfl,by simp only[List.length_set];rfl,rfl,rfl,rfl,trivial⟩ ⟨rfl,rfl,trivial⟩);have s2:=qn4 l hl n hn 2 ⟨by omega,by omega⟩ (bT l (n+1)) [zLi,beg (l.drop n) 1,beg (l.drop (n+1)) 2,beg (l.drop (n+1)) 3,beg (l.drop (n+1)) 4] hb rfl _ h1 rfl (s3.only ⟨rfl,by simp only[List.length_set];rfl,rfl,rfl,rfl,trivial⟩ ⟨rfl,rfl,trivial⟩);have s1:=qn4 l hl n hn 1 ⟨by omega,by omega⟩ (bT l (n+1)) [zLi,beg (l.drop (n+1)) 1,beg (l.drop (n+1)) 2,beg (l.drop (n+1)) 3,beg (l.drop (n+1)) 4] hb rfl zLi h1 rfl (s2.only ⟨rfl,by simp only[List.length_set];rfl,rfl,rfl,rfl,trivial⟩ ⟨rfl,rfl,trivial⟩);rw[bT_z l n (by omega)] at s1;exact s1.only ⟨rfl,rfl,rfl,rfl,rfl,trivial⟩ ⟨rfl,rfl,trivial⟩
theorem zcr:GD 72 Tryd.f72 (BQ l) [.code (qad Tryd.f72)] (entry [.sl syS] (l,())):=by
 refine qah cxBs (vc_bs l _ _) ?_;rw[IntWalk.i64_in ((l.length:Int)+1) (by omega),IntWalk.i64_in ((l.length:Int)-1) (by omega)];have e:((l.length:Int)+1).toNat=l.length+1:=by omega
 rw[e];refine ⟨by omega,by omega,?_,?_,?_⟩
 ·show (l.length:Int)+1<16777216
  omega
 ·show (32:Int)*((l.length:Int)+1)<=281474976710656
  omega
 ·have h:=q9a l hl l.length (Nat.le_refl _);rw[List.drop_length] at h;rw[q42 l];exact h.only ⟨rfl,by rw[qia];rfl,rfl,rfl,trivial⟩ ⟨rfl,rfl,trivial⟩
end
theorem q9b:Held Tryd.prog G0 72 ctBs:=Held.of cxBs (fn:=Tryd.f72) rfl rfl ⟨by decide,by decide⟩ λ ⟨l,_⟩ hp=>zcr l hp
open Go.IntKind(i64 u32 u8)
def CCh:CV:=[(72,.inl ctBs),(73,.inl ctMk)]
theorem cxCh:CxOK Tryd.prog tt G0 CCh:=(cx0.k mk_held (fn:=Tryd.f73)).k q9b (fn:=Tryd.f72)
set_option maxRecDepth 100000
theorem vc_ch (l:List SyT) (Q:QT) (R:RT):sA CCh Tryd.f66 Q (λ it S=>R it (qaj [0,3,4,5] [3,8,14,1032768] S)) [.code (qad Tryd.f66)] (entry [.sl syS] (l,())) =
  (ctBs.pre (l,())/\(0:Int)<=0/\(0:Int)<(↑(qbo l).length:Int)/\0+0<(qbo l).length/\(0:Int)<=0/\(0:Int)<=(gtL (qbo l) (0+0)).2.2.2/\(gtL (qbo l) (0+0)).2.2.2<2 ^ 24/\(↑(56:Nat):Int)*(gtL (qbo l) (0+0)).2.2.2<=2 ^ 48/\R (hd Tryd.f66 0) { env:=[(0,.sl syS l),(3,.win true liS 1032768 0 (qbo l).length),(4,.win true opS 14 0 (0:Nat)),(5,.i 0)],blk:=[(14,.row 55 opS (List.replicate (0) opS.dflt)),(1032768,.row 130 liS (qbo l))] }):=by kernel_rfl
theorem zay (l:List SyT) (b:List LiT) (o:List OpT) (a:Nat) (Q:QT) (R:RT):sA CCh Tryd.f66 Q (λ it S=>R it (qaj [0,3,4,5] [14,46,1032768] S)) (hd Tryd.f66 0) ⟨[(0,.sl syS l),(3,.win true liS 1032768 0 b.length),(4,.win true opS 14 0 o.length),(5,.i (a:Nat))],[(14,.row 55 opS o),(1032768,.row 130 liS b)]⟩ =
  (bc (decide ((a:Int)<(l.length:Int))) ((0:Int)<=(a:Int)/\(a:Int)<(b.length:Int)/\0+(a:Int).toNat<b.length/\(0:Int)<=(a:Int)/\(a:Int)<(b.length:Int)/\0+(a:Int).toNat<b.length/\(0:Int)<=(a:Int)/\(a:Int)<i64.wrap ((a:Int)+(gtL b (0+(a:Int).toNat)).2.1)/\i64.wrap ((a:Int)+(gtL b (0+(a:Int).toNat)).2.1)<=i64.wrap ((a:Int)+(gtL b (0+(a:Int).toNat)).2.1)/\i64.wrap ((a:Int)+(gtL b (0+(a:Int).toNat)).2.1)<=(l.length:Int)/\i64.wrap ((a:Int)+(gtL b (0+(a:Int).toNat)).2.1)<1099511627776/\ctMk.pre ((gtL b (0+(a:Int).toNat)).1,Px.part l (some (a:Int)) (some (i64.wrap ((a:Int)+(gtL b (0+(a:Int).toNat)).2.1))),())/\0+1<=([(mdK (gtL b (0+(a:Int).toNat)).1 (Px.part l (some (a:Int)) (some (i64.wrap ((a:Int)+(gtL b (0+(a:Int).toNat)).2.1)))))]:List opS.D).length/\o.length=o.length/\(0:Nat)=(0:Nat)/\o.length+(([(mdK (gtL b (0+(a:Int).toNat)).1 (Px.part l (some (a:Int)) (some (i64.wrap ((a:Int)+(gtL b (0+(a:Int).toNat)).2.1)))))]:List opS.D)).length<2 ^ 30/\(56:Nat)<=2 ^ 10/\(0:Int)<=(a:Int)/\(a:Int)<(b.length:Int)/\0+(a:Int).toNat<b.length/\R (hd Tryd.f66 0) { env:=[(0,.sl syS l),(3,.win true liS 1032768 0 b.length),(4,.win true opS 46 0 (o.length+(([(mdK (gtL b (0+(a:Int).toNat)).1 (Px.part l (some (a:Int)) (some (i64.wrap ((a:Int)+(gtL b (0+(a:Int).toNat)).2.1)))))]:List opS.D)).length)),(5,.i (i64.wrap ((a:Int)+(gtL b (0+(a:Int).toNat)).2.1)))],blk:=[(46,.row 55 opS (o++([(mdK (gtL b (0+(a:Int).toNat)).1 (Px.part l (some (a:Int)) (some (i64.wrap ((a:Int)+(gtL b (0+(a:Int).toNat)).2.1)))))]:List opS.D))),(1032768,.row 130 liS b)] }) (Q [.win true opS 14 0 o.length] [(14,.row 55 opS o),(1032768,.row 130 liS b)])):=by kernel_rfl
theorem zaz (l:List SyT) (b:List LiT) (o:List OpT) (a:Nat) (Q:QT) (R:RT):sA CCh Tryd.f66 Q (λ it S=>R it (qaj [0,3,4,5] [14,1032768] S)) (hd Tryd.f66 0) ⟨[(0,.sl syS l),(4,.sl opS o),(5,.i (a:Nat))],[]⟩ =
  (bc (decide ((a:Int)<(l.length:Int))) False (Q [.sl opS o] [])):=by kernel_rfl
def ctCh:Ctr:=⟨[.sl syS],λ x=>q65 x.1,λ x=>[.sl opS (chL x.1)],λ _=>[]⟩
theorem qxe (l:List SyT) (a n:Nat):Px.part l (some (a:Int)) (some ((a+n:Nat):Int))=(l.drop a).take n:=by
 simp only[Px.part,Int.toNat_natCast]
 first
  | (rw[List.drop_take];congr 1;omega)
  | (rw[List.take_drop];done)
  | simp[List.drop_take]
section
variable (l:List SyT) (hl:l.length<=65536)
include hl
theorem q4z (o:List OpT) (a:Nat) (ha:a=l.length):GD 66 Tryd.f66 (OQ o) (hd Tryd.f66 0) ⟨[(0,.sl syS l),(3,.win true liS 1032768 0 (qbo l).length),(4,.win true opS 14 0 o.length),(5,.i (a:Nat))],[(14,.row 55 opS o),(1032768,.row 130 liS (qbo l))]⟩:=by
 have _:=hl;subst ha;refine Good.frz (i:=14) (e:=opS) (et:=55) (xs:=o) rfl (λ c hc=>?_) ?_
 ·have hc:c∈[0+o.length<=o.length]:=hc;rw[List.mem_singleton] at hc;subst hc;omega
 ·have e:GD 66 Tryd.f66 (OQ o) (hd Tryd.f66 0) ⟨[(0,.sl syS l),(4,.sl opS (winL opS 0 o.length o)),(5,.i (l.length:Nat))],[]⟩:=by
   refine qah cxCh (zaz l [] (winL opS 0 o.length o) l.length _ _) ?_;rw[decide_eq_false (by omega),bc_f,winA]
  exact e.only ⟨rfl,rfl,rfl,trivial⟩ trivial
theorem q84:∀ (f a:Nat) (o:List OpT),l.length-a<=f->a<=l.length->o.length<=a ->
  GD 66 Tryd.f66 (OQ (o++chF f (l.drop a))) (hd Tryd.f66 0) ⟨[(0,.sl syS l),(3,.win true liS 1032768 0 (qbo l).length),(4,.win true opS 14 0 o.length),(5,.i (a:Nat))],[(14,.row 55 opS o),(1032768,.row 130 liS (qbo l))]⟩:=by
 intro f
 induction f with
 | zero=>
  intro a o hf ha ho;rw[chF,List.append_nil];exact q4z l hl o a (by omega)
 | succ f ih=>
  intro a o hf ha ho;by_cases he:a=l.length
  ·rw[chF,if_pos (List.drop_eq_nil_of_le (by omega)),List.append_nil];exact q4z l hl o a he
  ·have dl:(l.drop a).length=l.length-a:=List.length_drop ..;have hne:l.drop a≠[]:=λ h=>by rw[h] at dl;simp at dl;omega
   obtain ⟨hb,n,n1,n2,n3,_⟩:=qtc (l:=l.drop a) (by omega) hne;have hfit:=qcy (bst (l.drop a)).1 (l.drop a);have bl:(qbo l).length=l.length+1:=qia l 0;have nx:=ih (a+n) (o++[mdK (bst (l.drop a)).1 ((l.drop a).take n)]) (by omega) (by omega) (by rw[List.length_append,List.length_singleton];omega);have ec:chF (f+1) (l.drop a)=mdK (bst (l.drop a)).1 ((l.drop a).take n)::chF f (l.drop (a+n)):=by rw[chF,if_neg hne,n1,Int.toNat_natCast,List.drop_drop]
   rw[ec];rw[List.append_assoc,List.singleton_append] at nx;refine qah cxCh (zay l (qbo l) o a _ _) ?_;have g1:gtL (qbo l) (0+a)=bst (l.drop a):=by rw[Nat.zero_add];exact qpr l 0 a ha (Nat.zero_le _)
   have w:IntKind.i64.wrap ((a:Int)+(n:Int))=((a+n:Nat):Int):=by rw[IntWalk.i64_in _ (by omega)];omega
   rw[decide_eq_true (show (a:Int)<(l.length:Int) by omega),bc_t,Int.toNat_natCast,g1,n1,w,qxe l a n];have tl:((l.drop a).take n).length=n:=by rw[List.length_take];omega
   refine ⟨by omega,by omega,by omega,by omega,by omega,by omega,by omega,by omega,by omega,by omega,by omega,(show preMk (bst (l.drop a)).1 ((l.drop a).take n) from ⟨hb,by omega,by omega⟩),Nat.le_refl 1,rfl,rfl,?_,by decide,by omega,by omega,by omega,?_⟩
   ·show o.length+1<2 ^ 30
    omega
   ·exact nx.onlyR [(14,46)] rfl ⟨rfl,rfl,by rw[List.length_append];rfl,rfl,trivial⟩ ⟨rfl,rfl,trivial⟩
theorem zcp:GD 66 Tryd.f66 (QC ctCh (l,())) [.code (qad Tryd.f66)] (entry [.sl syS] (l,())):=by
 refine qah cxCh (vc_ch l _ _) ?_;have bl:(qbo l).length=l.length+1:=qia l 0;have g0:gtL (qbo l) (0+0)=bst l:=by
  have:=qpr l 0 0 (Nat.zero_le _) (Nat.le_refl _);rw[List.drop_zero] at this;exact this
 have hb:=qpq l hl;unfold boL at hb;rw[g0];refine ⟨hl,by omega,by omega,by omega,by omega,hb.2.2.1,?_,?_,?_⟩
 ·show (bst l).2.2.2<16777216
  omega
 ·show (56:Int)*(bst l).2.2.2<=281474976710656
  omega
 ·have h:=q84 l hl l.length 0 [] (by omega) (Nat.zero_le _) (Nat.zero_le _);rw[List.drop_zero,List.nil_append] at h;exact (h.post λ rs blk hq=>QC.flat (by rw[hq];rfl) rfl (by rw[hq];rfl)).only ⟨rfl,rfl,rfl,rfl,trivial⟩ ⟨rfl,rfl,trivial⟩
end
theorem q85:Held Tryd.prog G0 66 ctCh:=Held.of cxCh (fn:=Tryd.f66) rfl rfl ⟨by decide,by decide⟩ λ ⟨l,_⟩ hp=>zcp l hp
def poV (l:List SyT) (m:Int):PaT × Int:=if 4096<(chL l).length then ((false,0,0,[]),2) else ((false,m,l.length,chL l),0)
def ctPo:Ctr:=⟨[.sl syS,iI],λ x=>q65 x.1,λ x=>[paV (poV x.1 x.2.1).1,.i (poV x.1 x.2.1).2],λ _=>[]⟩
def cpV (l:List SyT) (m:Int):PaT × Int:=if (ofV l m).2=60 then ((false,0,0,[]),60) else poV l m
def ctCp:Ctr:=⟨[.sl syS,iI],λ x=>List.length x.1<16777216,λ x=>[paV (cpV x.1 x.2.1).1,.i (cpV x.1 x.2.1).2],λ _=>[]⟩
def CPo:CV:=[(66,.inl ctCh)]
theorem cxPo:CxOK Tryd.prog tt G0 CPo:=cx0.k q85 (fn:=Tryd.f66)
set_option maxRecDepth 100000
theorem vc_po (l:List SyT) (m:Int) (Q:QT) (R:RT):sA CPo Tryd.f50 Q R [.code (qad Tryd.f50)] (entry [.sl syS,iI] (l,m,())) =
  (ctCh.pre (l,())/\bc (decide ((4096:Int)<(↑(chL l).length:Int))) (Q [.agg [.bool false,.i 0,.i 0,.nils],.i 2] [(4,.var [.bool false,.i 0,.i 0,.nils])]) (Q [.agg [.bool false,.i m,.i (l.length:Int),.sl opS (chL l)],.i 0] [(4,.var [.bool false,.i m,.i (l.length:Int),.sl opS (chL l)])])):=by kernel_rfl
theorem vc_cp (l:List SyT) (m:Int) (Q:QT) (R:RT):sA [(49,.inl ctOfA),(50,.inl ctPo)] Tryd.f31 Q R [.code (qad Tryd.f31)] (entry [.sl syS,iI] (l,m,())) =
  (ctOfA.pre (l,m,())/\bc (decide ((ofV l m).2=(60:Int))) (Q [.agg [.bool false,.i 0,.i 0,.nils],.i (ofV l m).2] [(4,.var [.bool false,.i 0,.i 0,.nils]),(6,.var [.bool (ofV l m).1.1,.i (ofV l m).1.2.1,.i (ofV l m).1.2.2.1,.sl opS (ofV l m).1.2.2.2])]) (ctPo.pre (l,m,())/\Q [.agg [.bool (poV l m).1.1,.i (poV l m).1.2.1,.i (poV l m).1.2.2.1,.sl opS (poV l m).1.2.2.2],.i (poV l m).2] [(4,.var [.bool (poV l m).1.1,.i (poV l m).1.2.1,.i (poV l m).1.2.2.1,.sl opS (poV l m).1.2.2.2]),(6,.var [.bool (ofV l m).1.1,.i (ofV l m).1.2.1,.i (ofV l m).1.2.2.1,.sl opS (ofV l m).1.2.2.2])])):=by kernel_rfl
theorem qeh (z:Int):MtL (λ _=>none) [paV (false,0,0,[]),.i z] [.agg [.bool false,.i 0,.i 0,.nils],.i z]:=
 ⟨_,_,rfl,⟨_,rfl,_,_,rfl,rfl,_,_,rfl,rfl,_,_,rfl,rfl,_,_,rfl,.inr ⟨rfl,rfl⟩,rfl⟩,_,_,rfl,rfl,rfl⟩
theorem zbo (l:List SyT) (m:Int) (hp:l.length<=65536) (R:List Item->PS->Prop):sA CPo Tryd.f50 (QC ctPo (l,m,())) R [.code (qad Tryd.f50)] (entry [.sl syS,iI] (l,m,())):=by
 refine (vc_po l m _ _).mpr ⟨hp,qaf (λ h=>?_) (λ h=>?_)⟩
 ·have h:(4096:Int)<((chL l).length:Int):=of_decide_eq_true h;have hv:poV l m=((false,0,0,[]),2):=by unfold poV;rw[if_pos (by omega)]
  exact QC.mt (by show MtL _ [paV (poV l m).1,.i (poV l m).2] _;rw[hv];exact qeh _) rfl
 ·have h:¬ (4096:Int)<((chL l).length:Int):=of_decide_eq_false h;have hv:poV l m=(((false,m,(l.length:Int),chL l):PaT),(0:Int)):=by unfold poV;rw[if_neg (by omega)]
  exact QC.flat (by show [paV (poV l m).1,.i (poV l m).2]=_;rw[hv];rfl) rfl rfl
theorem q68:Held Tryd.prog G0 50 ctPo:=Held.run cxPo (fn:=Tryd.f50) rfl rfl ⟨by decide,by decide⟩ λ ⟨l,m,_⟩ hp=>zbo l m hp _
theorem q4h {l:List SyT} {m:Int} (h:(ofV l m).2≠60):szB m=true/\szB l.length=true/\l.all (sOK m)=true:=by
 unfold ofV at h;split at h
 ·assumption
 ·exact absurd rfl h
theorem q7m {l:List SyT} {m:Int} (h:szB m=true/\szB l.length=true/\l.all (sOK m)=true):(ofV l m).2≠60:=by
 unfold ofV;rw[if_pos h];split
 ·exact (show (2:Int)≠60 by decide)
 ·exact (show (0:Int)≠60 by decide)
theorem qrq {n:Int} (h:szB n=true):0<=n/\n<=65536:=by simpa [szB] using h
theorem cxCp:CxOK Tryd.prog tt G0 [(49,.inl ctOfA),(50,.inl ctPo)]:=(cx0.k q68 (fn:=Tryd.f50)).k q1n (fn:=Tryd.f49)
theorem zck (l:List SyT) (m:Int) (hp:l.length<16777216) (R:List Item->PS->Prop):sA [(49,.inl ctOfA),(50,.inl ctPo)] Tryd.f31 (QC ctCp (l,m,())) R [.code (qad Tryd.f31)] (entry [.sl syS,iI] (l,m,())):=by
 refine (vc_cp l m _ _).mpr ⟨hp,qaf (λ h=>?_) (λ h=>?_)⟩
 ·have h:(ofV l m).2=60:=of_decide_eq_true h;have hv:cpV l m=((false,0,0,[]),60):=by unfold cpV;rw[if_pos h]
  rw[h];exact QC.mt (by show MtL _ [paV (cpV l m).1,.i (cpV l m).2] _;rw[hv];exact qeh _) rfl
 ·have h:¬ (ofV l m).2=60:=of_decide_eq_false h;have hz:=qrq (q4h h).2.1;have hv:cpV l m=poV l m:=by unfold cpV;rw[if_neg h]
  exact ⟨(show l.length<=65536 by omega),QC.flat (by show [paV (cpV l m).1,.i (cpV l m).2]=_;rw[hv];rfl) rfl rfl⟩
theorem qy5:Held Tryd.prog G0 31 ctCp:=Held.run cxCp (fn:=Tryd.f31) rfl rfl ⟨by decide,by decide⟩ λ ⟨l,m,_⟩ hp=>zck l m hp _
abbrev seS:Sh:=.pair .str (.pair (.int .i64) (.pair (.int .i64) .bool))
abbrev SecT:Type:=List UInt8 × Int × Int × Bool
abbrev gtSe (l:List SecT) (i:Nat):SecT:=gt seS l i
abbrev slS:Sh:=.sl syS
def psV (p:PaT):List SyT × Int:=match decide ((symV p).2≠0) with
 | true=>([],(symV p).2)
 | false=>match p.1 with
  | true=>([],62)
  | false=>((symV p).1,0)
def ctPs:Ctr:=⟨[paS],λ _=>True,λ x=>[.win true syS 0 0 (psV x.1).1.length,.i (psV x.1).2],λ x=>[.row 82 syS (psV x.1).1]⟩
abbrev capS:List AK:=[.ptr [.dat (.sl seS)],.ptr [.dat slS]]
abbrev capC:List AK:=[.ptr [.dat slS],.ptr [.dat iI]]
abbrev iS:AK:=.fn 42 [] capS
abbrev iK:AK:=.fn 45 [] capC
abbrev q86:List AK:=[.ptr [iS],.ptr [.dat iI]]
abbrev q87:List AK:=[.ptr [iK],.ptr [.dat iI]]
abbrev pS:AK:=.fn 41 [] q86
abbrev pK:AK:=.fn 41 [] q87
abbrev yS1:List Sh:=[slS]
abbrev yP:List Sh:=[paS,iI]
set_option maxRecDepth 100000
theorem vc_ps (li:Bool) (m o:Int) (l:List OpT) (Q:QT) (R:RT):sA [(37,.inl ctSym)] Tryd.f21 Q R [.code (qad Tryd.f21)] (entry [paS] ((li,m,o,l),())) =
  (ctSym.pre ((li,m,o,l),())/\bc (decide ((symV (li,m,o,l)).2≠0)) (Q [.nils,.i (symV (li,m,o,l)).2] [(1,.var [.bool li,.i m,.i o,.sl opS l]),(1032768,.row 82 syS (symV (li,m,o,l)).1)]) (bc li (Q [.nils,.i 62] [(1,.var [.bool li,.i m,.i o,.sl opS l]),(1032768,.row 82 syS (symV (li,m,o,l)).1)]) (Q [.win true syS 1032768 0 (symV (li,m,o,l)).1.length,.i 0] [(1,.var [.bool li,.i m,.i o,.sl opS l]),(1032768,.row 82 syS (symV (li,m,o,l)).1)]))):=by kernel_rfl
theorem zam (s:List SyT) (l:List SecT) (Q:QT) (R:RT):sA [] Tryd.f25 Q R [.code (qad Tryd.f25)] (qb1 [.dat slS,.dat (.sl seS)] (s,l,())) =
  (Q [.fn (42:Nat) [] [.ptr (3:Nat) 0,.ptr 2 0]] [(2,.var [.sl syS s]),(3,.var [.sl seS l])]):=by kernel_rfl
theorem zax (s:List SyT) (n:Int) (Q:QT) (R:RT):sA [] Tryd.f29 Q R [.code (qad Tryd.f29)] (qb1 [.dat slS,.dat iI] (s,n,())) =
  (bc (decide (n<1)) False (Q [.fn (45:Nat) [] [.ptr (2:Nat) 0,.ptr 3 0]] [(2,.var [.sl syS s]),(3,.var [.i n])])):=by kernel_rfl
theorem q5i (s:List SyT) (l:List SecT) (m:Int) (Q:QT) (R:RT):sA [] Tryd.f24 Q R [.code (qad Tryd.f24)] (qb1 [iS,.dat iI] (((),(l,()),(s,()),()),m,())) =
  (Q [.fn (41:Nat) [] [.ptr (2:Nat) 0,.ptr 3 0]] [(2,.var [.fn (42:Nat) [] [.ptr (1099511627776:Nat) 0,.ptr 1099511627777 0]]),(3,.var [.i m]),(1099511627776,.var [.sl seS l]),(1099511627777,.var [.sl syS s])]):=by kernel_rfl
theorem q5j (s:List SyT) (n:Int) (m:Int) (Q:QT) (R:RT):sA [] Tryd.f24 Q R [.code (qad Tryd.f24)] (qb1 [iK,.dat iI] (((),(s,()),(n,()),()),m,())) =
  (Q [.fn (41:Nat) [] [.ptr (2:Nat) 0,.ptr 3 0]] [(2,.var [.fn (45:Nat) [] [.ptr (1099511627776:Nat) 0,.ptr 1099511627777 0]]),(3,.var [.i m]),(1099511627776,.var [.sl syS s]),(1099511627777,.var [.i n])]):=by kernel_rfl
theorem zak (s:List SyT) (l:List SecT) (lp:Nat) (ys:List (DL yS1)) (Q:AExit->Nat × Bool->PS->Prop) (R:List Item->Nat × Bool->PS->Prop):syE tt G0 [] Tryd.f42.ntmps ⟨lp,yS1,ys⟩ Q R .fn 1000 [.code (qad Tryd.f42)] (0,false) (qld lp capS ((l,()),(s,()),())) =
  (R (hd Tryd.f42 0) ((0:Nat),false) { env:=[(0,.yl lp),(1,.ptr 1099511627776 0),(2,.ptr 1099511627777 0),(6,.sl seS l),(7,.i (l.length:Int)),(8,.i 0)],blk:=[(1099511627776,.var [.sl seS l]),(1099511627777,.var [.sl syS s])] }):=by kernel_rfl
theorem qvm (s:List SyT) (l:List SecT) (i:Int) (j:Nat) (q:Bool) (lp:Nat) (ys:List (DL yS1)) (Q:AExit->Nat × Bool->PS->Prop) (R:List Item->Nat × Bool->PS->Prop):syE tt G0 [] Tryd.f42.ntmps ⟨lp,yS1,ys⟩ Q (λ it g S=>R it g (qaj [0,1,2,6,7,8] [BIG,BIG+1] S)) .fn 1000 (hd Tryd.f42 0) (j,q) (⟨[(0,.yl lp),(1,.ptr BIG 0),(2,.ptr (BIG+1) 0),(6,.sl seS l),(7,.i (l.length:Nat)),(8,.i i)],[(BIG,.var [.sl seS l]),(BIG+1,.var [.sl syS s])]⟩) =
  (bc (decide (i<(l.length:Int))) ((0:Int)<=i/\i<(l.length:Int)/\(0:Int)<=(gt seS l i.toNat).2.1/\(gt seS l i.toNat).2.1<(gt seS l i.toNat).2.2.1/\(gt seS l i.toNat).2.2.1<=(gt seS l i.toNat).2.2.1/\(gt seS l i.toNat).2.2.1<=(s.length:Int)/\(gt seS l i.toNat).2.2.1<1099511627776/\lp=(Yp.mk lp yS1 ys).l/\q=false/\(Yp.mk lp yS1 ys).ys[j]?=some (Px.part s (some (gt seS l i.toNat).2.1) (some (gt seS l i.toNat).2.2.1),())/\∀ (r:Bool),bc (!r) (Q AExit.ret (j+1,!r) { env:=[(0,.yl lp),(1,.ptr 1099511627776 0),(2,.ptr 1099511627777 0),(5,.ptr 5 0),(6,.sl seS l),(7,.i (l.length:Int)),(8,.i i),(9,.bool (decide (i<(l.length:Int)))),(10,.elv seS (gt seS l i.toNat)),(11,.agg [.str (gt seS l i.toNat).1,.i (gt seS l i.toNat).2.1,.i (gt seS l i.toNat).2.2.1,.bool (gt seS l i.toNat).2.2.2]),(12,.yl lp),(13,.sl syS s),(14,.ptr 5 1),(15,.i (gt seS l i.toNat).2.1),(16,.ptr 5 2),(17,.i (gt seS l i.toNat).2.2.1),(18,.ptr 5 2),(19,.i (gt seS l i.toNat).2.2.1),(20,.sl syS (Px.part s (some (gt seS l i.toNat).2.1) (some (gt seS l i.toNat).2.2.1))),(21,.bool r),(22,.bool !r)],blk:=[(5,.var [.str (gt seS l i.toNat).1,.i (gt seS l i.toNat).2.1,.i (gt seS l i.toNat).2.2.1,.bool (gt seS l i.toNat).2.2.2]),(1099511627776,.var [.sl seS l]),(1099511627777,.var [.sl syS s])] }) (R (hd Tryd.f42 0) (j+1,!r) { env:=[(0,.yl lp),(1,.ptr 1099511627776 0),(2,.ptr 1099511627777 0),(6,.sl seS l),(7,.i (l.length:Int)),(8,.i (i64.wrap (i+1)))],blk:=[(1099511627776,.var [.sl seS l]),(1099511627777,.var [.sl syS s])] })) (Q AExit.normal (j,q) { env:=[(0,.yl lp),(1,.ptr 1099511627776 0),(2,.ptr 1099511627777 0),(6,.sl seS l),(7,.i (l.length:Int)),(8,.i i),(9,.bool (decide (i<(l.length:Int))))],blk:=[(1099511627776,.var [.sl seS l]),(1099511627777,.var [.sl syS s])] })):=by kernel_rfl
theorem zaw (s:List SyT) (n:Int) (lp:Nat) (ys:List (DL yS1)) (Q:AExit->Nat × Bool->PS->Prop) (R:List Item->Nat × Bool->PS->Prop):syE tt G0 [] Tryd.f45.ntmps ⟨lp,yS1,ys⟩ Q R .fn 1000 [.code (qad Tryd.f45)] (0,false) (qld lp capC ((s,()),(n,()),())) =
  (R (hd Tryd.f45 0) ((0:Nat),false) { env:=[(0,.yl lp),(1,.ptr 1099511627776 0),(2,.ptr 1099511627777 0),(4,.i 0)],blk:=[(1099511627776,.var [.sl syS s]),(1099511627777,.var [.i n])] }):=by kernel_rfl
theorem qvx (s:List SyT) (n i:Int) (j:Nat) (q:Bool) (lp:Nat) (ys:List (DL yS1)) (Q:AExit->Nat × Bool->PS->Prop) (R:List Item->Nat × Bool->PS->Prop):syE tt G0 [] Tryd.f45.ntmps ⟨lp,yS1,ys⟩ Q (λ it g S=>R it g (qaj [0,1,2,4] [BIG,BIG+1] S)) .fn 1000 (hd Tryd.f45 0) (j,q) (⟨[(0,.yl lp),(1,.ptr BIG 0),(2,.ptr (BIG+1) 0),(4,.i i)],[(BIG,.var [.sl syS s]),(BIG+1,.var [.i n])]⟩) =
  (bc (decide (i<(s.length:Int))) ((0:Int)<=i/\i<=(s.length:Int)/\(0:Int)<=i/\i<i64.wrap (i+min n (↑(List.drop i.toNat s).length:Int))/\i64.wrap (i+min n (↑(List.drop i.toNat s).length:Int))<=i64.wrap (i+min n (↑(List.drop i.toNat s).length:Int))/\i64.wrap (i+min n (↑(List.drop i.toNat s).length:Int))<=(s.length:Int)/\i64.wrap (i+min n (↑(List.drop i.toNat s).length:Int))<1099511627776/\lp=(Yp.mk lp yS1 ys).l/\q=false/\(Yp.mk lp yS1 ys).ys[j]?=some (Px.part s (some i) (some (i64.wrap (i+min n (↑(List.drop i.toNat s).length:Int)))),())/\∀ (r:Bool),bc (!r) (Q AExit.ret (j+1,!r) { env:=[(0,.yl lp),(1,.ptr 1099511627776 0),(2,.ptr 1099511627777 0),(4,.i i),(5,.i (min n (↑(List.drop i.toNat s).length:Int))),(6,.i i),(7,.sl syS s),(8,.i (s.length:Int)),(9,.bool (decide (i<(s.length:Int)))),(13,.i n),(14,.sl syS s),(15,.i i),(16,.sl syS (List.drop i.toNat s)),(17,.i (↑(List.drop i.toNat s).length:Int)),(18,.i (min n (↑(List.drop i.toNat s).length:Int))),(19,.yl lp),(20,.sl syS s),(21,.i i),(22,.i i),(23,.i (min n (↑(List.drop i.toNat s).length:Int))),(24,.i (i64.wrap (i+min n (↑(List.drop i.toNat s).length:Int)))),(25,.i i),(26,.i (min n (↑(List.drop i.toNat s).length:Int))),(27,.i (i64.wrap (i+min n (↑(List.drop i.toNat s).length:Int)))),(28,.sl syS (Px.part s (some i) (some (i64.wrap (i+min n (↑(List.drop i.toNat s).length:Int)))))),(29,.bool r),(30,.bool !r)],blk:=[(1099511627776,.var [.sl syS s]),(1099511627777,.var [.i n])] }) (R (hd Tryd.f45 0) (j+1,!r) { env:=[(0,.yl lp),(1,.ptr 1099511627776 0),(2,.ptr 1099511627777 0),(4,.i (i64.wrap (i+n)))],blk:=[(1099511627776,.var [.sl syS s]),(1099511627777,.var [.i n])] })) (Q AExit.normal (j,q) { env:=[(0,.yl lp),(1,.ptr 1099511627776 0),(2,.ptr 1099511627777 0),(4,.i i),(6,.i i),(7,.sl syS s),(8,.i (s.length:Int)),(9,.bool (decide (i<(s.length:Int))))],blk:=[(1099511627776,.var [.sl syS s]),(1099511627777,.var [.i n])] })):=by kernel_rfl
theorem q9t (s:List SyT) (l:List SecT) (m:Int) (lp:Nat) (ys:List (DL yP)) (Q:AExit->Nat × Bool->PS->Prop) (R:List Item->Nat × Bool->PS->Prop):syE tt G0 [(31,.inl ctCp)] Tryd.f41.ntmps ⟨lp,yP,ys⟩ Q R .fn 1000 [.code (qad Tryd.f41)] (0,false) (qld lp q86 (((((),(l,()),(s,()),()),()),(m,()),()))) =
  (R (hd Tryd.f41 0) ((0:Nat),false) { env:=[(0,.yl lp),(1,.ptr 1099511627776 0),(2,.ptr 1099511627779 0),(3,.ptr 3 0),(5,.fn (42:Nat) [] [.ptr (1099511627777:Nat) 0,.ptr 1099511627778 0])],blk:=[(3,.var [.yl lp]),(1099511627776,.var [.fn (42:Nat) [] [.ptr (1099511627777:Nat) 0,.ptr 1099511627778 0]]),(1099511627777,.var [.sl seS l]),(1099511627778,.var [.sl syS s]),(1099511627779,.var [.i m])] }):=by kernel_rfl
theorem q9v (s:List SyT) (n:Int) (m:Int) (lp:Nat) (ys:List (DL yP)) (Q:AExit->Nat × Bool->PS->Prop) (R:List Item->Nat × Bool->PS->Prop):syE tt G0 [(31,.inl ctCp)] Tryd.f41.ntmps ⟨lp,yP,ys⟩ Q R .fn 1000 [.code (qad Tryd.f41)] (0,false) (qld lp q87 (((((),(s,()),(n,()),()),()),(m,()),()))) =
  (R (hd Tryd.f41 0) ((0:Nat),false) { env:=[(0,.yl lp),(1,.ptr 1099511627776 0),(2,.ptr 1099511627779 0),(3,.ptr 3 0),(5,.fn (45:Nat) [] [.ptr (1099511627777:Nat) 0,.ptr 1099511627778 0])],blk:=[(3,.var [.yl lp]),(1099511627776,.var [.fn (45:Nat) [] [.ptr (1099511627777:Nat) 0,.ptr 1099511627778 0]]),(1099511627777,.var [.sl syS s]),(1099511627778,.var [.i n]),(1099511627779,.var [.i m])] }):=by kernel_rfl
theorem q9u (m:Int) (l:List SyT) (j:Nat) (q:Bool) (lp:Nat) (ys:List (DL yP)) (Q:AExit->Nat × Bool->PS->Prop) (R:List Item->Nat × Bool->PS->Prop):syE tt G0 [(31,.inl ctCp)] Tryd.f41.ntmps ⟨lp,yP,ys⟩ Q R .ready 1000 (rnd Tryd.f41 0) (j,q) (qle [2,3] [6] [.ptr [.dat iI],.ptr [.yl lp]] yS1 ((m,()),((),()),()) (l,())) =
  (ctCp.pre (l,m,())/\lp=(Yp.mk lp yP ys).l/\q=false/\(Yp.mk lp yP ys).ys[j]?=some (((cpV l m).1),(cpV l m).2,())/\∀ (r:Bool),bc (!r) (Q AExit.ret (j+1,!r) { env:=[(4,.sl syS l),(6,.sl syS l),(2,.ptr 1099511627776 0),(3,.ptr 1099511627777 0),(7,.yl lp),(8,.sl syS l),(9,.i m),(10,SV.tup [.agg [.bool (cpV l m).1.1,.i (cpV l m).1.2.1,.i (cpV l m).1.2.2.1,.sl opS (cpV l m).1.2.2.2],.i (cpV l m).2]),(11,.agg [.bool (cpV l m).1.1,.i (cpV l m).1.2.1,.i (cpV l m).1.2.2.1,.sl opS (cpV l m).1.2.2.2]),(12,.i (cpV l m).2),(13,.bool r),(14,.bool !r)],blk:=[(1099511627776,.var [.i m]),(1099511627777,.var [.yl lp])] }) (Q AExit.normal (j+1,!r) { env:=[(4,.sl syS l),(6,.sl syS l),(2,.ptr 1099511627776 0),(3,.ptr 1099511627777 0),(7,.yl lp),(8,.sl syS l),(9,.i m),(10,SV.tup [.agg [.bool (cpV l m).1.1,.i (cpV l m).1.2.1,.i (cpV l m).1.2.2.1,.sl opS (cpV l m).1.2.2.2],.i (cpV l m).2]),(11,.agg [.bool (cpV l m).1.1,.i (cpV l m).1.2.1,.i (cpV l m).1.2.2.1,.sl opS (cpV l m).1.2.2.2]),(12,.i (cpV l m).2),(13,.bool r),(14,.bool !r)],blk:=[(1099511627776,.var [.i m]),(1099511627777,.var [.yl lp])] })):=by kernel_rfl
theorem q62 {p:PaT} (h:(symV p).2≠0):psV p=([],(symV p).2):=by unfold psV;rw[decide_eq_true h]
theorem q60 {p:PaT} (h:(symV p).2=0) (hl:p.1=true):psV p=([],62):=by unfold psV;rw[decide_eq_false (by simp[h]),hl]
theorem q61 {p:PaT} (h:(symV p).2=0) (hl:p.1=false):psV p=((symV p).1,0):=by unfold psV;rw[decide_eq_false (by simp[h]),hl]
theorem ps_held:Held Tryd.prog G0 21 ctPs:=Held.run (cx0.k sym_held (fn:=Tryd.f37)) (fn:=Tryd.f21) rfl rfl ⟨by decide,by decide⟩ λ ⟨⟨li,m,o,l⟩,_⟩ _=>by
 refine (vc_ps li m o l _ _).mpr ⟨trivial,qaf (λ h=>?_) (λ h=>qaf (λ h2=>?_) (λ h2=>?_))⟩
 ·have h:(symV (li,m,o,l)).2≠0:=of_decide_eq_true h;have e:=q62 h;refine qc5 (e:=syS) (et:=82) (z:=(symV (li,m,o,l)).2) ?_ ?_ rfl (by decide)
  ·show [_,_]=_;rw[e];rfl
  ·show [_]=_;rw[e]
 ·have h:(symV (li,m,o,l)).2=0:=by have:=of_decide_eq_false h;simpa using this
  have e:=q60 h h2;refine qc5 (e:=syS) (et:=82) (z:=62) ?_ ?_ rfl (by decide)
  ·show [_,_]=_;rw[e];rfl
  ·show [_]=_;rw[e]
 ·have h:(symV (li,m,o,l)).2=0:=by have:=of_decide_eq_false h;simpa using this
  have e:=q61 h h2;refine qff (e:=syS) (et:=82) (a:=1032768) (z:=0) (xs:=(symV (li,m,o,l)).1) ?_ ?_ rfl rfl rfl
  ·show [_,_]=_;rw[e]
  ·show [_]=_;rw[e]
theorem qbl {π:Nat->Option Nat}:MtL π [] []:=by simp only[MtL]
theorem qay {π:Nat->Option Nat} {s t:SV} {l r:List SV} (h1:Mt π s t) (h2:MtL π l r):MtL π (s::l) (t::r):=by simp only[MtL];exact ⟨t,r,rfl,h1,h2⟩
theorem qe4 {π:Nat->Option Nat} {i j o:Nat} (h:π i=some j):Mt π (.ptr i o) (.ptr j o):=by simp only[Mt];exact ⟨j,rfl,h⟩
theorem que {π:Nat->Option Nat} {f:Nat} {a a' c c':List SV} (h1:MtL π a a') (h2:MtL π c c'):Mt π (.fn f a c) (.fn f a' c'):=by simp only[Mt];exact ⟨a',c',rfl,h1,h2⟩
def ctIns:CtrI:=⟨[.dat slS,.dat (.sl seS)],λ _=>True,λ _=>[.fn 42 [] [.ptr 0 0,.ptr 1 0]],λ x=>[(0,.var [.sl seS x.2.1]),(1,.var [.sl syS x.1])]⟩
theorem q18:HeldI Tryd.prog G0 25 ctIns:=HeldI.run cx0 (fn:=Tryd.f25) rfl rfl ⟨by decide,by decide⟩ λ ⟨s,l,_⟩ _=>by
 refine (zam s l _ _).mpr ⟨[(0,3),(1,2)],?_,?_,by decide,λ p hp=>?_⟩
 rotate_left 2
 ·simp only[List.mem_cons,List.not_mem_nil,or_false] at hp;rcases hp with rfl | rfl <;> decide
 all_goals
  have p0:piOf [(0,3),(1,2)] 0=some 3:=by decide
  have p1:piOf [(0,3),(1,2)] 1=some 2:=by decide
 ·exact qay (que qbl (qay (qe4 p0) (qay (qe4 p1) qbl))) qbl
 ·exact ⟨.inl ⟨3,_,p0,rfl,_,rfl,qa1 _ _ rfl⟩,.inl ⟨2,_,p1,rfl,_,rfl,qa1 _ _ rfl⟩,trivial⟩
def ctCk:CtrI:=⟨[.dat slS,.dat iI],λ x=>1<=x.2.1,λ _=>[.fn 45 [] [.ptr 0 0,.ptr 1 0]],λ x=>[(0,.var [.sl syS x.1]),(1,.var [.i x.2.1])]⟩
theorem lt1_f {n:Int} (h:1<=n):decide (n<1)=false:=decide_eq_false (by omega)
theorem q8x:HeldI Tryd.prog G0 29 ctCk:=HeldI.run cx0 (fn:=Tryd.f29) rfl rfl ⟨by decide,by decide⟩ λ ⟨s,n,_⟩ hn=>by
 refine (zax s n _ _).mpr ?_;rw[lt1_f hn,bc_f];refine ⟨[(0,2),(1,3)],?_,?_,by decide,λ p hp=>?_⟩
 rotate_left 2
 ·simp only[List.mem_cons,List.not_mem_nil,or_false] at hp;rcases hp with rfl | rfl <;> decide
 all_goals
  have p0:piOf [(0,2),(1,3)] 0=some 2:=by decide
  have p1:piOf [(0,2),(1,3)] 1=some 3:=by decide
 ·exact qay (que qbl (qay (qe4 p0) (qay (qe4 p1) qbl))) qbl
 ·exact ⟨.inl ⟨2,_,p0,rfl,_,rfl,qa1 _ _ rfl⟩,.inl ⟨3,_,p1,rfl,_,rfl,qa1 _ _ rfl⟩,trivial⟩
def ctPaS:CtrI:=⟨[iS,.dat iI],λ _=>True,λ _=>[.fn 41 [] [.ptr 0 0,.ptr 1 0]],λ x=>[(0,.var [.fn 42 [] [.ptr BIG 0,.ptr (BIG+1) 0]]),(1,.var [.i x.2.1]),(BIG,.var [.sl seS x.1.2.1.1]),(BIG+1,.var [.sl syS x.1.2.2.1.1])]⟩
theorem q09:HeldI Tryd.prog G0 24 ctPaS:=HeldI.run cx0 (fn:=Tryd.f24) rfl rfl ⟨by decide,by decide⟩ λ ⟨⟨⟨⟩,⟨l,⟨⟩⟩,⟨s,⟨⟩⟩,⟨⟩⟩,m,⟨⟩⟩ _=>by
 refine (q5i s l m _ _).mpr ⟨[(0,2),(1,3)],?_,?_,by decide,λ p hp=>?_⟩
 rotate_left 2
 ·simp only[List.mem_cons,List.not_mem_nil,or_false] at hp;rcases hp with rfl | rfl <;> decide
 all_goals
  have p0:piOf [(0,2),(1,3)] 0=some 2:=by decide
  have p1:piOf [(0,2),(1,3)] 1=some 3:=by decide
  have p2:piOf [(0,2),(1,3)] BIG=some BIG:=by decide
  have p3:piOf [(0,2),(1,3)] (BIG+1)=some (BIG+1):=by decide
 ·exact qay (que qbl (qay (qe4 p0) (qay (qe4 p1) qbl))) qbl
 ·exact ⟨.inl ⟨2,_,p0,rfl,_,rfl,qay (que qbl (qay (qe4 p2) (qay (qe4 p3) qbl))) qbl⟩,.inl ⟨3,_,p1,rfl,_,rfl,qa1 _ _ rfl⟩,.inl ⟨BIG,_,p2,rfl,_,rfl,qa1 _ _ rfl⟩,.inl ⟨BIG+1,_,p3,rfl,_,rfl,qa1 _ _ rfl⟩,trivial⟩
def ctPaK:CtrI:=⟨[iK,.dat iI],λ _=>True,λ _=>[.fn 41 [] [.ptr 0 0,.ptr 1 0]],λ x=>[(0,.var [.fn 45 [] [.ptr BIG 0,.ptr (BIG+1) 0]]),(1,.var [.i x.2.1]),(BIG,.var [.sl syS x.1.2.1.1]),(BIG+1,.var [.i x.1.2.2.1.1])]⟩
theorem q1a:HeldI Tryd.prog G0 24 ctPaK:=HeldI.run cx0 (fn:=Tryd.f24) rfl rfl ⟨by decide,by decide⟩ λ ⟨⟨⟨⟩,⟨s,⟨⟩⟩,⟨n,⟨⟩⟩,⟨⟩⟩,m,⟨⟩⟩ _=>by
 refine (q5j s n m _ _).mpr ⟨[(0,2),(1,3)],?_,?_,by decide,λ p hp=>?_⟩
 rotate_left 2
 ·simp only[List.mem_cons,List.not_mem_nil,or_false] at hp;rcases hp with rfl | rfl <;> decide
 all_goals
  have p0:piOf [(0,2),(1,3)] 0=some 2:=by decide
  have p1:piOf [(0,2),(1,3)] 1=some 3:=by decide
  have p2:piOf [(0,2),(1,3)] BIG=some BIG:=by decide
  have p3:piOf [(0,2),(1,3)] (BIG+1)=some (BIG+1):=by decide
 ·exact qay (que qbl (qay (qe4 p0) (qay (qe4 p1) qbl))) qbl
 ·exact ⟨.inl ⟨2,_,p0,rfl,_,rfl,qay (que qbl (qay (qe4 p2) (qay (qe4 p3) qbl))) qbl⟩,.inl ⟨3,_,p1,rfl,_,rfl,qa1 _ _ rfl⟩,.inl ⟨BIG,_,p2,rfl,_,rfl,qa1 _ _ rfl⟩,.inl ⟨BIG+1,_,p3,rfl,_,rfl,qa1 _ _ rfl⟩,trivial⟩
abbrev GEz (f:Nat) (fn:Func) (Y:Yp) (K:AExit->Nat × Bool->PS->Prop) (it:List Item) (g:Nat × Bool) (S:PS):Prop:=Px.GoodE Tryd.prog G0 f fn.ntmps .fn Y K it g S
abbrev yL (l:List SyT):DL yS1:=(l,())
abbrev cutS (s:List SyT) (a b:Int):List SyT:=Px.part s (some a) (some b)
def secF (s:List SyT) (l:List SecT):List (List SyT):=l.map λ x=>cutS s x.2.1 x.2.2.1
def qi5 (s:List SyT) (l:List SecT):Prop:=s.length<16777216/\l.length<1000000/\∀ x∈l,0<=x.2.1/\x.2.1<x.2.2.1/\x.2.2.1<=s.length
theorem qyl {l:List SecT} {i:Nat} (h:i<l.length):gt seS l i=l[i]:=gtE (e:=seS) h
theorem qe0 {α:Type} {l:List α} {i:Nat} (h:i<l.length):l.drop i=l[i]::l.drop (i+1):=List.drop_eq_getElem_cons h
theorem qu5 {α:Type} {ys:List α} {j:Nat} {y:α} {r:List α} (h:ys.drop j=y::r):j<ys.length/\ys[j]?=some y/\ys.drop (j+1)=r:=by
 have hj:j<ys.length:=by
  rcases Nat.lt_or_ge j ys.length with q | q
  ·exact q
  ·rw[List.drop_eq_nil_of_le q] at h;cases h
 rw[qe0 hj] at h;exact ⟨hj,by rw[List.getElem?_eq_getElem hj];exact congrArg some (List.cons.inj h).1,(List.cons.inj h).2⟩
theorem qrb {α:Type} {ys:List α} {j:Nat} (hj:j<=ys.length) (h:ys.drop j=[]):j=ys.length:=by
 have:=congrArg List.length h;simp at this;omega
theorem q79 (s:List SyT) (l:List SecT) (hp:qi5 s l) (lp:Nat) (ys:List (DL yS1)):∀ (k i j:Nat),l.length-i=k->i<=l.length->j<=ys.length->ys.drop j=(secF s (l.drop i)).map yL ->
  GEz 42 Tryd.f42 ⟨lp,yS1,ys⟩ (endY ys.length) (hd Tryd.f42 0) (j,false) ⟨[(0,.yl lp),(1,.ptr BIG 0),(2,.ptr (BIG+1) 0),(6,.sl seS l),(7,.i (l.length:Nat)),(8,.i (i:Nat))],[(BIG,.var [.sl seS l]),(BIG+1,.var [.sl syS s])]⟩:=by
 obtain ⟨hs,hl,hx⟩:=hp;intro k
 induction k with
 | zero=>
  intro i j hk hi hj hd;refine qm1 cx0 (qvm s l (i:Nat) j false lp ys _ _) ?_;rw[decide_eq_false (show ¬ (i:Int)<(l.length:Int) by omega),bc_f];rw[show l.drop i=[] from List.drop_of_length_le (by omega)] at hd;exact .inr (qrb hj hd)
 | succ k ih=>
  intro i j hk hi hj hd;have hil:i<l.length:=by omega
  have hb:=hx _ (List.getElem_mem hil);refine qm1 cx0 (qvm s l (i:Nat) j false lp ys _ _) ?_;rw[qe0 hil] at hd;obtain ⟨h1,h2,h3⟩:=qu5 (y:=yL (cutS s l[i].2.1 l[i].2.2.1)) (r:=(secF s (l.drop (i+1))).map yL) hd;rw[decide_eq_true (show (i:Int)<(l.length:Int) by omega),bc_t,Int.toNat_natCast,qyl hil,IntWalk.i64_in ((i:Int)+1) (by omega)];refine ⟨by omega,by omega,hb.1,hb.2.1,Int.le_refl _,hb.2.2,Int.lt_of_le_of_lt hb.2.2 (by omega),rfl,rfl,h2,λ r=>?_⟩
  cases r with
  | false=>exact qaf (λ _=>.inl rfl) (λ h=>by cases h)
  | true=>exact qaf (λ h=>by cases h) (λ _=>ih (i+1) (j+1) (by omega) (by omega) (by omega) h3)
def zci:CtrY:=⟨capS,λ x=>qi5 x.2.1.1 x.1.1,yS1,λ x=>(secF x.2.1.1 x.1.1).map yL⟩
theorem q8a:HeldY Tryd.prog G0 42 zci:=HeldY.of (fn:=Tryd.f42) rfl rfl rfl ⟨by decide,by decide⟩ λ ⟨⟨l,_⟩,⟨s,_⟩,_⟩ hp lp=>by
 have hp:qi5 s l:=hp;exact qdt cx0 (zak s l lp _ _ _) (q79 s l hp lp _ _ 0 0 rfl (Nat.zero_le _) (Nat.zero_le _) rfl)
def qh7 (s:List SyT) (n:Nat):Nat->Nat->List (List SyT)
 | 0,_=>[]
 | f+1,i=>if i<s.length then cutS s (i:Nat) ((i+min n (s.length-i):Nat):Int)::qh7 s n f (i+n) else []
def qot (s:List SyT) (n:Int):Prop:=s.length<16777216/\1<=n/\n<=4096
theorem q8w (s:List SyT) (n:Nat) (hs:s.length<16777216) (hn:1<=n) (hn2:n<=4096) (lp:Nat) (ys:List (DL yS1)):∀ (f i j:Nat),s.length<=i+f->i<=s.length+4096->j<=ys.length->ys.drop j=(qh7 s n f i).map yL ->
  GEz 45 Tryd.f45 ⟨lp,yS1,ys⟩ (endY ys.length) (hd Tryd.f45 0) (j,false) ⟨[(0,.yl lp),(1,.ptr BIG 0),(2,.ptr (BIG+1) 0),(4,.i (i:Nat))],[(BIG,.var [.sl syS s]),(BIG+1,.var [.i (n:Nat)])]⟩:=by
 intro f
 induction f with
 | zero=>
  intro i j hk hi hj hd;refine qm1 cx0 (qvx s (n:Nat) (i:Nat) j false lp ys _ _) ?_;rw[decide_eq_false (show ¬ (i:Int)<(s.length:Int) by omega),bc_f];exact .inr (qrb hj hd)
 | succ f ih=>
  intro i j hk hi hj hd;refine qm1 cx0 (qvx s (n:Nat) (i:Nat) j false lp ys _ _) ?_;by_cases hil:i<s.length
  ·rw[qh7,if_pos hil,List.map_cons] at hd;obtain ⟨h1,h2,h3⟩:=qu5 hd;have e:IntKind.i64.wrap ((i:Int)+min (n:Int) ((List.drop i s).length:Int))=((i+min n (s.length-i):Nat):Int):=by
    rw[List.length_drop,IntWalk.i64_in _ (by omega)];omega
   rw[decide_eq_true (show (i:Int)<(s.length:Int) by omega),bc_t,Int.toNat_natCast,e,IntWalk.i64_in ((i:Int)+n) (by omega)];refine ⟨by omega,by omega,by omega,by omega,Int.le_refl _,by omega,by omega,rfl,rfl,h2,λ r=>?_⟩
   cases r with
   | false=>exact qaf (λ _=>.inl rfl) (λ h=>by cases h)
   | true=>exact qaf (λ h=>by cases h) (λ _=>ih (i+n) (j+1) (by omega) (by omega) (by omega) h3)
  ·rw[qh7,if_neg hil] at hd;rw[decide_eq_false (show ¬ (i:Int)<(s.length:Int) by omega),bc_f];exact .inr (qrb hj hd)
def qbp (s:List SyT) (n:Int):List (List SyT):=qh7 s n.toNat s.length 0
def zcj:CtrY:=⟨capC,λ x=>qot x.1.1 x.2.1.1,yS1,λ x=>(qbp x.1.1 x.2.1.1).map yL⟩
theorem q2v:HeldY Tryd.prog G0 45 zcj:=HeldY.of (fn:=Tryd.f45) rfl rfl rfl ⟨by decide,by decide⟩ λ ⟨⟨s,_⟩,⟨n,_⟩,_⟩ hp lp=>by
 obtain ⟨h1,h2,h3⟩:qot s n:=hp;obtain ⟨k,rfl⟩:=Int.eq_ofNat_of_zero_le (Int.le_trans (by decide:(0:Int)<=1) h2);have g:=q8w s k h1 (by omega) (by omega) lp ((qh7 s k s.length 0).map yL) s.length 0 0 (by omega) (by omega) (Nat.zero_le _) rfl;exact qdt cx0 (zaw s (k:Nat) lp _ _ _) g
abbrev KP (lp:Nat):List AK:=[.ptr [.dat iI],.ptr [.yl lp]]
abbrev KL:List AK:=[.ptr [.nl],.ptr [.dat iI],.ptr [.row 31 paS]]
theorem cxPt:CxOK Tryd.prog tt G0 [(31,.inl ctCp)]:=cx0.k qy5 (fn:=Tryd.f31)
set_option maxRecDepth 100000
theorem q3u (j:Nat) (q:Bool) (lp:Nat) (ys:List (DL yP)) (Q:AExit->Nat × Bool->PS->Prop) (R:List Item->Nat × Bool->PS->Prop):syE tt G0 [(31,.inl ctCp)] Tryd.f41.ntmps ⟨lp,yP,ys⟩ Q R .fn 1000 (rfK Tryd.f41 0) (j,q) (⟨[],[]⟩) =
  (Q AExit.normal (j,q) { env:=[],blk:=[] }):=by kernel_rfl
theorem q3t (j:Nat) (q:Bool) (lp:Nat) (ys:List (DL yP)) (Q:AExit->Nat × Bool->PS->Prop) (R:List Item->Nat × Bool->PS->Prop):syE tt G0 [(31,.inl ctCp)] Tryd.f41.ntmps ⟨lp,yP,ys⟩ Q R .fn 1000 (qk3 .ret++rfK Tryd.f41 0) (j,q) (⟨[],[]⟩) =
  (Q AExit.ret (j,q) { env:=[],blk:=[] }):=by kernel_rfl
theorem zas (s:List SyT) (l:List SecT) (m:Int) (Q:QT) (R:RT):sA [] Tryd.f23 Q R [.code (qad Tryd.f23)] (qb1 [pS] (((),((((),(l,()),(s,()),()),()),(m,()),())),())) =
  (R (hd Tryd.f23 0) { env:=[(0,.fn (41:Nat) [] [.ptr (1099511627776:Nat) 0,.ptr 1099511627779 0]),(2,.ptr 2 0),(3,.ptr 3 0),(4,.ptr 4 0),(7,.fn (41:Nat) [] [.ptr (1099511627776:Nat) 0,.ptr 1099511627779 0])],blk:=[(2,.var [.nils]),(3,.var [.i iI.dflt]),(4,.var [.nils]),(1099511627776,.var [.fn (42:Nat) [] [.ptr (1099511627777:Nat) 0,.ptr 1099511627778 0]]),(1099511627777,.var [.sl seS l]),(1099511627778,.var [.sl syS s]),(1099511627779,.var [.i m])] }):=by kernel_rfl
theorem zau (s:List SyT) (n:Int) (m:Int) (Q:QT) (R:RT):sA [] Tryd.f23 Q R [.code (qad Tryd.f23)] (qb1 [pK] (((),((((),(s,()),(n,()),()),()),(m,()),())),())) =
  (R (hd Tryd.f23 0) { env:=[(0,.fn (41:Nat) [] [.ptr (1099511627776:Nat) 0,.ptr 1099511627779 0]),(2,.ptr 2 0),(3,.ptr 3 0),(4,.ptr 4 0),(7,.fn (41:Nat) [] [.ptr (1099511627776:Nat) 0,.ptr 1099511627779 0])],blk:=[(2,.var [.nils]),(3,.var [.i iI.dflt]),(4,.var [.nils]),(1099511627776,.var [.fn (45:Nat) [] [.ptr (1099511627777:Nat) 0,.ptr 1099511627778 0]]),(1099511627777,.var [.sl syS s]),(1099511627778,.var [.i n]),(1099511627779,.var [.i m])] }):=by kernel_rfl
theorem zat (o:List PaT) (e0:Int) (p:PaT) (e:Int) (j:Nat) (q:Bool) (Q:AExit->Nat × Bool->PS->Prop) (R:List Item->Nat × Bool->PS->Prop):syE tt G0 [] Tryd.f23.ntmps Y0 Q R .ready 1000 (rnd Tryd.f23 0) (j,q) (qle [2,3,4] [8,9] KL yP (((),()),((e0,()),((o,()),()))) (p,e,())) =
  (bc (decide (e≠0)) (Q AExit.ret (j,q) { env:=[(5,.ptr 5 0),(6,.i e),(8,.agg [.bool p.1,.i p.2.1,.i p.2.2.1,.sl opS p.2.2.2]),(9,.i e),(2,.ptr 1099511627776 0),(3,.ptr 1099511627777 0),(4,.ptr 1099511627778 0),(10,.i e),(11,.bool (decide (e≠0))),(12,.i e)],blk:=[(5,.var [.bool p.1,.i p.2.1,.i p.2.2.1,.sl opS p.2.2.2]),(1099511627776,.var [.nils]),(1099511627777,.var [.i e]),(1099511627778,.var [.win true paS 1099511627779 0 o.length]),(1099511627779,.row 31 paS o)] }) (0+1<=([p]:List paS.D).length/\o.length=o.length/\(0:Nat)=(0:Nat)/\o.length+(([p]:List paS.D)).length<2 ^ 30/\(48:Nat)<=2 ^ 10/\Q AExit.normal (j,q) { env:=[(5,.ptr 5 0),(6,.i e),(8,.agg [.bool p.1,.i p.2.1,.i p.2.2.1,.sl opS p.2.2.2]),(9,.i e),(2,.ptr 1099511627776 0),(3,.ptr 1099511627777 0),(4,.ptr 1099511627778 0),(10,.i e),(11,.bool (decide (e≠0))),(13,.dead),(14,.agg [.bool p.1,.i p.2.1,.i p.2.2.1,.sl opS p.2.2.2]),(15,.win true paS 15 0 (1:Nat)),(16,.win true paS 16 0 (o.length+(([p]:List paS.D)).length))],blk:=[(5,.var [.bool p.1,.i p.2.1,.i p.2.2.1,.sl opS p.2.2.2]),(15,.row 31 paS ([p]:List paS.D)),(16,.row 31 paS (o++([p]:List paS.D))),(1099511627776,.var [.nils]),(1099511627777,.var [.i e0]),(1099511627778,.var [.win true paS 16 0 (o.length+(([p]:List paS.D)).length)])] })):=by kernel_rfl
theorem q31 (o:List PaT) (e0:Int) (j:Nat) (q:Bool) (Q:AExit->Nat × Bool->PS->Prop) (R:List Item->Nat × Bool->PS->Prop):syE tt G0 [] Tryd.f23.ntmps Y0 Q R .fn 1000 (rfK Tryd.f23 0) (j,q) (⟨[(2,.ptr 2 0),(3,.ptr 3 0),(4,.ptr 4 0)],[(2,.var [.nils]),(3,.var [.i e0]),(4,.var [.win true paS 1086016 0 o.length]),(1086016,.row 31 paS o)]⟩) =
  (Q AExit.ret (j,q) { env:=[(2,.ptr 2 0),(3,.ptr 3 0),(4,.ptr 4 0),(17,.win true paS 1086016 0 o.length)],blk:=[(2,.var [.win true paS 1086016 0 o.length]),(3,.var [.i 0]),(4,.var [.win true paS 1086016 0 o.length]),(1086016,.row 31 paS o)] }):=by kernel_rfl
theorem q30 (e:Int) (j:Nat) (q:Bool) (Q:AExit->Nat × Bool->PS->Prop) (R:List Item->Nat × Bool->PS->Prop):syE tt G0 [] Tryd.f23.ntmps Y0 Q R .fn 1000 (qk3 .ret++rfK Tryd.f23 0) (j,q) (⟨[(2,.ptr 2 0),(3,.ptr 3 0)],[(2,.var [.nils]),(3,.var [.i e])]⟩) =
  (Q AExit.ret (j,q) { env:=[(2,.ptr 2 0),(3,.ptr 3 0)],blk:=[(2,.var [.nils]),(3,.var [.i e])] }):=by kernel_rfl
abbrev yPf (m:Int) (q:List SyT):DL yP:=((cpV q m).1,(cpV q m).2,())
theorem hdPt:hd Tryd.f41 0=.code (.rangeFunc (.tmp 5) #[6] (rfA Tryd.f41 0) (rfB Tryd.f41 0))::rfK Tryd.f41 0:=by kernel_rfl
theorem rndPt:rnd Tryd.f41 0=[.code (rfA Tryd.f41 0),.beginRound,.code (rfB Tryd.f41 0)]:=by kernel_rfl
theorem qkm {m:Int} {lp:Nat} {ys:List (DL yP)} {QL:AExit->Nat × Bool->DI (KP lp)->Prop} (hN:QL .normal (ys.length,false) ((m,()),((),()),())) (hR:∀ j,QL .ret (j,true) ((m,()),((),()),())):∀ (rs:List (List SyT)) (j:Nat),j<=ys.length->ys.drop j=rs.map (yPf m)->(∀ q∈rs,q.length<16777216) ->
  qp0 Tryd.prog G0 41 Tryd.f41.ntmps ⟨lp,yP,ys⟩ [2,3] [6] (KP lp) yS1 (rfA Tryd.f41 0) (rfB Tryd.f41 0) QL (rs.map yL) (j,false) ((m,()),((),()),())
 | [],j,hj,h,_=>by
  have e:=qrb hj h;subst e;exact hN
 | q::rs,j,hj,h,hq=>by
  obtain ⟨h1,h2,h3⟩:=qu5 (y:=yPf m q) (r:=rs.map (yPf m)) h;have k:=qkm (m:=m) (lp:=lp) (ys:=ys) (QL:=QL) hN hR rs (j+1) (by omega) h3 (λ x hx=>hq x (by simp[hx]))
  show GoodE Tryd.prog G0 41 Tryd.f41.ntmps .ready ⟨lp,yP,ys⟩ _ [.code (rfA Tryd.f41 0),.beginRound,.code (rfB Tryd.f41 0)] (j,false) (qle [2,3] [6] (KP lp) yS1 ((m,()),((),()),()) (q,()))
  rw[<- rndPt];refine qdt cxPt (q9u m q j false lp ys _ _) ⟨hq q (by simp),rfl,rfl,h2,λ r=>?_⟩
  cases r with
  | false=>exact qaf (λ _=>⟨[],((m,()),((),()),()),⟨⟨rfl,rfl,trivial⟩,rfl,rfl⟩,hR (j+1)⟩) (λ h=>by cases h)
  | true=>exact qaf (λ h=>by cases h) (λ _=>⟨[],((m,()),((),()),()),⟨⟨rfl,rfl,trivial⟩,rfl,rfl⟩,k⟩)
def bkP (lp:Nat) (x:DI (KP lp)):List (Nat × LB):=[(BIG,.var [.i x.1.1]),(BIG+1,.var [.yl lp])]
theorem q0j {s:List SyT} {l:List SecT} (hs:s.length<16777216):∀ q∈secF s l,q.length<16777216:=λ q hq=>by
 obtain ⟨x,_,rfl⟩:=List.mem_map.1 hq
 show ((s.take _).drop _).length<_
 rw[List.length_drop,List.length_take];omega
theorem qpn {s:List SyT} {n:Nat} (hs:s.length<16777216):∀ (f i:Nat),∀ q∈qh7 s n f i,q.length<16777216
 | 0,_,q,h=>by cases h
 | f+1,i,q,h=>by
  rw[qh7] at h;split at h
  ·rcases List.mem_cons.1 h with rfl | h
   ·show ((s.take _).drop _).length<_
    rw[List.length_drop,List.length_take];omega
   ·exact qpn hs f (i+n) q h
  ·cases h
def zcf:CtrY:=⟨q86,λ x=>qi5 x.1.1.2.2.1.1 x.1.1.2.1.1,yP,λ x=>(secF x.1.1.2.2.1.1 x.1.1.2.1.1).map (yPf x.2.1.1)⟩
theorem q03:HeldY Tryd.prog G0 41 zcf:=HeldY.of (fn:=Tryd.f41) rfl rfl rfl ⟨by decide,by decide⟩ λ ⟨⟨⟨⟨⟩,⟨l,⟨⟩⟩,⟨s,⟨⟩⟩,⟨⟩⟩,⟨⟩⟩,⟨m,⟨⟩⟩,⟨⟩⟩ hp lp=>by
 have hp:qi5 s l:=hp;refine qdt cxPt (q9t s l m lp _ _ _) ?_
 show GoodE Tryd.prog G0 41 Tryd.f41.ntmps .fn ⟨lp,yP,(secF s l).map (yPf m)⟩ (endY ((secF s l).map (yPf m)).length) (hd Tryd.f41 0) (0,false) _
 rw[hdPt];refine GoodE.rangeF (gf:=42) (ct:=zci) (Ko:=KP lp) (xi:=((l,()),((s,()),()))) (x0:=((m,()),((),()),())) (ns1:=[some (BIG+1),some (BIG+2)]) (ns2:=[some (BIG+3),some 3]) (tl:=[(2,.ptr (BIG+3) 0),(3,.ptr 3 0)]) (bkF:=bkP lp) (rF:=[]) (d:=21) (m:=2)
  (by simp) ?_ q8a rfl rfl rfl ?_ hp ⟨rfl,rfl,trivial⟩ rfl ?_ (by decide) ⟨by decide,by decide,rfl⟩ rfl ?_ (by decide) ?_
 ·exact λ args w=>qbk (fn:=Tryd.f42) rfl rfl rfl args w
 ·exact λ c hc=>by cases hc
 ·intro c hc;have hc:c∈[lp=lp]:=hc;rw[List.mem_singleton] at hc;subst hc;rfl
 ·exact λ x hx=>⟨⟨rfl,rfl,trivial⟩,by simp[bkP,rho,lk,BIG],λ p hp hb=>(by
   simp only[bkP,List.mem_cons,List.not_mem_nil,or_false] at hp;rcases hp with rfl | rfl
   ·exact ⟨rfl,rfl⟩
   ·exact ⟨rfl,rfl⟩),by kernel_rfl⟩
 ·refine qkm ?_ (λ j=>?_) (secF s l) 0 (Nat.zero_le _) rfl (q0j hp.1)
  ·have e:GEz 41 Tryd.f41 ⟨lp,yP,(secF s l).map (yPf m)⟩ (endY ((secF s l).map (yPf m)).length) (rfK Tryd.f41 0) (((secF s l).map (yPf m)).length,false) ⟨[],[]⟩:=qdt cxPt (q3u _ false lp _ _ _) (.inr rfl);exact e.only trivial trivial
  ·have e:GEz 41 Tryd.f41 ⟨lp,yP,(secF s l).map (yPf m)⟩ (endY ((secF s l).map (yPf m)).length) (qk3 .ret++rfK Tryd.f41 0) (j,true) ⟨[],[]⟩:=qdt cxPt (q3t j true lp _ _ _) (.inl rfl);exact e.only trivial trivial
def zcg:CtrY:=⟨q87,λ x=>qot x.1.1.2.1.1 x.1.1.2.2.1.1,yP,λ x=>(qbp x.1.1.2.1.1 x.1.1.2.2.1.1).map (yPf x.2.1.1)⟩
theorem q04:HeldY Tryd.prog G0 41 zcg:=HeldY.of (fn:=Tryd.f41) rfl rfl rfl ⟨by decide,by decide⟩ λ ⟨⟨⟨⟨⟩,⟨s,⟨⟩⟩,⟨n,⟨⟩⟩,⟨⟩⟩,⟨⟩⟩,⟨m,⟨⟩⟩,⟨⟩⟩ hp lp=>by
 have hp:qot s n:=hp;refine qdt cxPt (q9v s n m lp _ _ _) ?_
 show GoodE Tryd.prog G0 41 Tryd.f41.ntmps .fn ⟨lp,yP,(qbp s n).map (yPf m)⟩ (endY ((qbp s n).map (yPf m)).length) (hd Tryd.f41 0) (0,false) _
 rw[hdPt];refine GoodE.rangeF (gf:=45) (ct:=zcj) (Ko:=KP lp) (xi:=((s,()),((n,()),()))) (x0:=((m,()),((),()),())) (ns1:=[some (BIG+1),some (BIG+2)]) (ns2:=[some (BIG+3),some 3]) (tl:=[(2,.ptr (BIG+3) 0),(3,.ptr 3 0)]) (bkF:=bkP lp) (rF:=[]) (d:=21) (m:=2)
  (by simp) ?_ q2v rfl rfl rfl ?_ hp ⟨rfl,rfl,trivial⟩ rfl ?_ (by decide) ⟨by decide,by decide,rfl⟩ rfl ?_ (by decide) ?_
 ·exact λ args w=>qbk (fn:=Tryd.f45) rfl rfl rfl args w
 ·exact λ c hc=>by cases hc
 ·intro c hc;have hc:c∈[lp=lp]:=hc;rw[List.mem_singleton] at hc;subst hc;rfl
 ·exact λ x hx=>⟨⟨rfl,rfl,trivial⟩,by simp[bkP,rho,lk,BIG],λ p hp hb=>(by
   simp only[bkP,List.mem_cons,List.not_mem_nil,or_false] at hp;rcases hp with rfl | rfl
   ·exact ⟨rfl,rfl⟩
   ·exact ⟨rfl,rfl⟩),by kernel_rfl⟩
 ·refine qkm ?_ (λ j=>?_) (qbp s n) 0 (Nat.zero_le _) rfl (qpn hp.1 _ _)
  ·have e:GEz 41 Tryd.f41 ⟨lp,yP,(qbp s n).map (yPf m)⟩ (endY ((qbp s n).map (yPf m)).length) (rfK Tryd.f41 0) (((qbp s n).map (yPf m)).length,false) ⟨[],[]⟩:=qdt cxPt (q3u _ false lp _ _ _) (.inr rfl);exact e.only trivial trivial
  ·have e:GEz 41 Tryd.f41 ⟨lp,yP,(qbp s n).map (yPf m)⟩ (endY ((qbp s n).map (yPf m)).length) (qk3 .ret++rfK Tryd.f41 0) (j,true) ⟨[],[]⟩:=qdt cxPt (q3t j true lp _ _ _) (.inl rfl);exact e.only trivial trivial
def colF:List (PaT × Int)->List PaT->List PaT × Int
 | [],o=>(o,0)
 | x::r,o=>match decide (x.2≠0) with
  | true=>([],x.2)
  | false=>colF r (o++[x.1])
abbrev yQ (x:PaT × Int):DL yP:=(x.1,x.2,())
theorem hdCo:hd Tryd.f23 0=.code (.rangeFunc (.tmp 7) #[8,9] (rfA Tryd.f23 0) (rfB Tryd.f23 0))::rfK Tryd.f23 0:=by kernel_rfl
theorem rndCo:rnd Tryd.f23 0=[.code (rfA Tryd.f23 0),.beginRound,.code (rfB Tryd.f23 0)]:=by kernel_rfl
theorem qlg {QL:AExit->Nat × Bool->DI KL->Prop} {g:Nat × Bool} {V:List PaT × Int} (hN:∀ o,V=(o,0)->QL .normal g (((),()),((0,()),((o,()),())))) (hR:∀ e o,e≠0->V=([],e)->QL .ret g (((),()),((e,()),((o,()),())))):∀ (rs:List (PaT × Int)) (o:List PaT),o.length+rs.length<2 ^ 30->colF rs o=V ->
  qp0 Tryd.prog G0 23 Tryd.f23.ntmps Y0 [2,3,4] [8,9] KL yP (rfA Tryd.f23 0) (rfB Tryd.f23 0) QL (rs.map yQ) g (((),()),((0,()),((o,()),())))
 | [],o,_,h=>hN o h.symm
 | (p,e)::rs,o,hl,h=>by
  rw[List.length_cons] at hl
  show GoodE Tryd.prog G0 23 Tryd.f23.ntmps .ready Y0 _ [.code (rfA Tryd.f23 0),.beginRound,.code (rfB Tryd.f23 0)] g (qle [2,3,4] [8,9] KL yP (((),()),((0,()),((o,()),()))) (p,e,()))
  rw[<- rndCo];refine qdt cx0 (zat o 0 p e g.1 g.2 _ _) (qaf (λ h1=>?_) (λ h1=>⟨by simp,rfl,rfl,?_,by decide,?_⟩))
  ·have h1:decide (e≠0)=true:=h1;have hv:V=([],e):=by rw[<- h];simp only[colF,h1]
   exact ⟨[],(((),()),((e,()),((o,()),()))),⟨⟨rfl,rfl,rfl,rfl,trivial⟩,rfl,rfl⟩,hR e o (of_decide_eq_true h1) hv⟩
  ·show o.length+([p]:List PaT).length<2 ^ 30
   simp only[List.length_singleton];omega
  ·have h1:decide (e≠0)=false:=h1;have hv:colF rs (o++[p])=V:=by rw[<- h];simp only[colF,h1]
   have k:=qlg (QL:=QL) (g:=g) (V:=V) hN hR rs (o++[p]) (by rw[List.length_append,List.length_singleton];omega) hv;exact ⟨[(BIG+3,16)],(((),()),((0,()),((o++[p],()),()))),⟨⟨rfl,rfl,by show some (LB.var [SV.win true paS 16 0 (o.length+1)])=some (LB.var [SV.win true paS 16 0 (o++[p]).length]);rw[List.length_append,List.length_singleton],rfl,trivial⟩,rfl,rfl⟩,k⟩
def bkL (x:DI KL):List (Nat × LB):=[(BIG,.var [.nils]),(BIG+1,.var [.i x.2.1.1]),(BIG+2,.var [.win true paS 0 0 x.2.2.1.1.length]),(0,.row 31 paS x.2.2.1.1)]
theorem q4u (Q:List SV->List (Nat × LB)->Prop) (o:List PaT) (g:Nat × Bool):endK tt G0 Tryd.f23.results.toList Q AExit.ret g { env:=[(2,SV.ptr 2 0),(3,SV.ptr 3 0),(4,SV.ptr 4 0),(17,SV.win true paS 1086016 0 o.length)],blk:=[(2,LB.var [SV.win true paS 1086016 0 o.length]),(3,LB.var [SV.int IntKind.i64 0]),(4,LB.var [SV.win true paS 1086016 0 o.length]),(1086016,LB.row 31 paS o)] }=Q [.win true paS 1086016 0 o.length,.i 0] [(2,LB.var [SV.win true paS 1086016 0 o.length]),(3,LB.var [SV.int IntKind.i64 0]),(4,LB.var [SV.win true paS 1086016 0 o.length]),(1086016,LB.row 31 paS o)]:=by kernel_rfl
theorem q4t (Q:List SV->List (Nat × LB)->Prop) (e:Int) (g:Nat × Bool):endK tt G0 Tryd.f23.results.toList Q AExit.ret g { env:=[(2,SV.ptr 2 0),(3,SV.ptr 3 0)],blk:=[(2,LB.var [SV.nils]),(3,LB.var [SV.int IntKind.i64 e])] }=Q [.nils,.i e] [(2,LB.var [SV.nils]),(3,LB.var [SV.int IntKind.i64 e])]:=by kernel_rfl
theorem qpm {s:List SyT} {n:Nat}:∀ (f i:Nat),(qh7 s n f i).length<=f
 | 0,_=>Nat.le_refl _
 | f+1,i=>by
  have:=qpm (s:=s) (n:=n) f (i+n);rw[qh7];split
  ·rw[List.length_cons];omega
  ·simp
theorem qzb {s:List SyT} {n:Int} (h:qot s n):(qbp s n).length<16777216:=by
 have:=qpm (s:=s) (n:=n.toNat) s.length 0;have h1:=h.1;unfold qbp;omega
def ctCoS:CtrI:=⟨[pS],λ x=>qi5 x.1.2.1.1.2.2.1.1 x.1.2.1.1.2.1.1,λ x=>[.win true paS 0 0 (colF ((secF x.1.2.1.1.2.2.1.1 x.1.2.1.1.2.1.1).map (cpV · x.1.2.2.1.1)) []).1.length,.i (colF ((secF x.1.2.1.1.2.2.1.1 x.1.2.1.1.2.1.1).map (cpV · x.1.2.2.1.1)) []).2],λ x=>[(0,.row 31 paS (colF ((secF x.1.2.1.1.2.2.1.1 x.1.2.1.1.2.1.1).map (cpV · x.1.2.2.1.1)) []).1)]⟩
theorem q2s:HeldI Tryd.prog G0 23 ctCoS:=by
 refine HeldI.of cx0 (fn:=Tryd.f23) rfl rfl ⟨by decide,by decide⟩ λ ⟨⟨⟨⟩,⟨⟨⟨⟩,⟨l,⟨⟩⟩,⟨s,⟨⟩⟩,⟨⟩⟩,⟨⟩⟩,⟨m,⟨⟩⟩,⟨⟩⟩,⟨⟩⟩ hp=>?_
 have hpp:qi5 s l:=hp;have hll:=hpp.2.1;refine qe6 cx0 (zas s l m _ _) ?_
 show GoodE Tryd.prog G0 23 Tryd.f23.ntmps .fn Y0 (endK tt G0 Tryd.f23.results.toList (QI ctCoS (((),((((),(l,()),(s,()),()),()),(m,()),())),()))) (hd Tryd.f23 0) (0,false) _
 rw[hdCo];refine GoodE.rangeF (gf:=41) (ct:=zcf) (Ko:=KL) (xi:=((((),(l,()),(s,()),()),()),(m,()),())) (x0:=(((),()),((0,()),(([],()),())))) (ns1:=[some BIG,some (BIG+1),some (BIG+2),some (BIG+3)]) (ns2:=[some 2,some 3,some 4,none]) (tl:=[(2,.ptr 2 0),(3,.ptr 3 0),(4,.ptr 4 0)]) (bkF:=bkL) (rF:=[(0,BIG+3)]) (d:=21) (m:=3)
  (by simp) ?_ q03 rfl rfl rfl ?_ hpp ⟨rfl,rfl,rfl,trivial⟩ rfl ?_ (by decide) ⟨by decide,by decide,rfl⟩ rfl ?_ (by decide) ?_
 ·exact λ args w=>qbk (fn:=Tryd.f41) rfl rfl rfl args w
 ·exact λ c hc=>by cases hc
 ·exact λ c hc=>by cases hc
 ·exact λ x hx=>⟨⟨rfl,rfl,rfl,rfl,trivial⟩,by simp[bkL,rho,lk,BIG],λ p hp hb=>(by
   simp only[bkL,List.mem_cons,List.not_mem_nil,or_false] at hp;rcases hp with rfl | rfl | rfl | rfl
   ·exact ⟨rfl,rfl⟩
   ·exact ⟨rfl,rfl⟩
   ·exact ⟨rfl,rfl⟩
   ·exact absurd hb (show ¬ BIG<=0 by decide)),by kernel_rfl⟩
 ·show qp0 Tryd.prog G0 23 Tryd.f23.ntmps Y0 [2,3,4] [8,9] KL yP _ _ _ ((secF s l).map (yPf m)) _ _
  have hmap:(secF s l).map (yPf m)=((secF s l).map (cpV · m)).map yQ:=by rw[List.map_map];rfl
  rw[hmap];refine qlg (V:=colF ((secF s l).map (cpV · m)) []) (λ o ho=>?_) (λ e o he ho=>?_) _ [] (by show 0+_<_;rw[List.length_map,secF,List.length_map];omega) rfl
  ·have q:GoodE Tryd.prog G0 23 Tryd.f23.ntmps .fn Y0 (endK tt G0 Tryd.f23.results.toList (QI ctCoS (((),((((),(l,()),(s,()),()),()),(m,()),())),()))) (rfK Tryd.f23 0) (0,false) ⟨[(2,.ptr 2 0),(3,.ptr 3 0),(4,.ptr 4 0)],[(2,.var [.nils]),(3,.var [.i 0]),(4,.var [.win true paS 1086016 0 o.length]),(1086016,.row 31 paS o)]⟩:=by
    refine qdt cx0 (q31 o 0 0 false _ _) ?_;rw[q4u];have p0:piOf [(0,1086016)] 0=some 1086016:=by decide
    refine ⟨[(0,1086016)],?_,?_,by decide,λ p hp=>?_⟩
    ·show MtL _ [.win true paS 0 0 (colF ((secF s l).map (cpV · m)) []).1.length,.i (colF ((secF s l).map (cpV · m)) []).2] _
     rw[ho];exact qay (by simp only[Mt];exact .inl ⟨true,1086016,rfl,p0,λ _=>rfl⟩) (qa1 _ _ rfl)
    ·show MtK _ _ [(0,.row 31 paS (colF ((secF s l).map (cpV · m)) []).1)]
     rw[ho];exact ⟨.inl ⟨1086016,_,p0,rfl,rfl⟩,trivial⟩
    ·simp only[List.mem_cons,List.not_mem_nil,or_false] at hp;subst hp;decide
   exact q.only ⟨by kernel_rfl,by kernel_rfl,by kernel_rfl,trivial⟩ ⟨by kernel_rfl,by kernel_rfl,by kernel_rfl,by kernel_rfl,trivial⟩
  ·have q:GoodE Tryd.prog G0 23 Tryd.f23.ntmps .fn Y0 (endK tt G0 Tryd.f23.results.toList (QI ctCoS (((),((((),(l,()),(s,()),()),()),(m,()),())),()))) (qk3 .ret++rfK Tryd.f23 0) (0,false) ⟨[(2,.ptr 2 0),(3,.ptr 3 0)],[(2,.var [.nils]),(3,.var [.i e])]⟩:=by
    refine qdt cx0 (q30 e 0 false _ _) ?_;rw[q4t];refine ⟨[],?_,?_,by simp,by simp⟩
    ·show MtL _ [.win true paS 0 0 (colF ((secF s l).map (cpV · m)) []).1.length,.i (colF ((secF s l).map (cpV · m)) []).2] _
     rw[ho];exact ⟨_,_,rfl,.inr ⟨rfl,rfl,rfl,rfl⟩,qa1 _ _ rfl⟩
    ·show MtK _ _ [(0,.row 31 paS (colF ((secF s l).map (cpV · m)) []).1)]
     rw[ho];exact ⟨.inr ⟨rfl,_,_,rfl,by decide⟩,trivial⟩
   exact q.only ⟨by kernel_rfl,by kernel_rfl,trivial⟩ ⟨by kernel_rfl,by kernel_rfl,trivial⟩
def ctCoK:CtrI:=⟨[pK],λ x=>qot x.1.2.1.1.2.1.1 x.1.2.1.1.2.2.1.1,λ x=>[.win true paS 0 0 (colF ((qbp x.1.2.1.1.2.1.1 x.1.2.1.1.2.2.1.1).map (cpV · x.1.2.2.1.1)) []).1.length,.i (colF ((qbp x.1.2.1.1.2.1.1 x.1.2.1.1.2.2.1.1).map (cpV · x.1.2.2.1.1)) []).2],λ x=>[(0,.row 31 paS (colF ((qbp x.1.2.1.1.2.1.1 x.1.2.1.1.2.2.1.1).map (cpV · x.1.2.2.1.1)) []).1)]⟩
theorem q2t:HeldI Tryd.prog G0 23 ctCoK:=by
 refine HeldI.of cx0 (fn:=Tryd.f23) rfl rfl ⟨by decide,by decide⟩ λ ⟨⟨⟨⟩,⟨⟨⟨⟩,⟨s,⟨⟩⟩,⟨n,⟨⟩⟩,⟨⟩⟩,⟨⟩⟩,⟨m,⟨⟩⟩,⟨⟩⟩,⟨⟩⟩ hp=>?_
 have hpp:qot s n:=hp;have hll:=qzb hpp;refine qe6 cx0 (zau s n m _ _) ?_
 show GoodE Tryd.prog G0 23 Tryd.f23.ntmps .fn Y0 (endK tt G0 Tryd.f23.results.toList (QI ctCoK (((),((((),(s,()),(n,()),()),()),(m,()),())),()))) (hd Tryd.f23 0) (0,false) _
 rw[hdCo];refine GoodE.rangeF (gf:=41) (ct:=zcg) (Ko:=KL) (xi:=((((),(s,()),(n,()),()),()),(m,()),())) (x0:=(((),()),((0,()),(([],()),())))) (ns1:=[some BIG,some (BIG+1),some (BIG+2),some (BIG+3)]) (ns2:=[some 2,some 3,some 4,none]) (tl:=[(2,.ptr 2 0),(3,.ptr 3 0),(4,.ptr 4 0)]) (bkF:=bkL) (rF:=[(0,BIG+3)]) (d:=21) (m:=3)
  (by simp) ?_ q04 rfl rfl rfl ?_ hpp ⟨rfl,rfl,rfl,trivial⟩ rfl ?_ (by decide) ⟨by decide,by decide,rfl⟩ rfl ?_ (by decide) ?_
 ·exact λ args w=>qbk (fn:=Tryd.f41) rfl rfl rfl args w
 ·exact λ c hc=>by cases hc
 ·exact λ c hc=>by cases hc
 ·exact λ x hx=>⟨⟨rfl,rfl,rfl,rfl,trivial⟩,by simp[bkL,rho,lk,BIG],λ p hp hb=>(by
   simp only[bkL,List.mem_cons,List.not_mem_nil,or_false] at hp;rcases hp with rfl | rfl | rfl | rfl
   ·exact ⟨rfl,rfl⟩
   ·exact ⟨rfl,rfl⟩
   ·exact ⟨rfl,rfl⟩
   ·exact absurd hb (show ¬ BIG<=0 by decide)),by kernel_rfl⟩
 ·show qp0 Tryd.prog G0 23 Tryd.f23.ntmps Y0 [2,3,4] [8,9] KL yP _ _ _ ((qbp s n).map (yPf m)) _ _
  have hmap:(qbp s n).map (yPf m)=((qbp s n).map (cpV · m)).map yQ:=by rw[List.map_map];rfl
  rw[hmap];refine qlg (V:=colF ((qbp s n).map (cpV · m)) []) (λ o ho=>?_) (λ e o he ho=>?_) _ [] (by show 0+_<_;rw[List.length_map];omega) rfl
  ·have q:GoodE Tryd.prog G0 23 Tryd.f23.ntmps .fn Y0 (endK tt G0 Tryd.f23.results.toList (QI ctCoK (((),((((),(s,()),(n,()),()),()),(m,()),())),()))) (rfK Tryd.f23 0) (0,false) ⟨[(2,.ptr 2 0),(3,.ptr 3 0),(4,.ptr 4 0)],[(2,.var [.nils]),(3,.var [.i 0]),(4,.var [.win true paS 1086016 0 o.length]),(1086016,.row 31 paS o)]⟩:=by
    refine qdt cx0 (q31 o 0 0 false _ _) ?_;rw[q4u];have p0:piOf [(0,1086016)] 0=some 1086016:=by decide
    refine ⟨[(0,1086016)],?_,?_,by decide,λ p hp=>?_⟩
    ·show MtL _ [.win true paS 0 0 (colF ((qbp s n).map (cpV · m)) []).1.length,.i (colF ((qbp s n).map (cpV · m)) []).2] _
     rw[ho];exact qay (by simp only[Mt];exact .inl ⟨true,1086016,rfl,p0,λ _=>rfl⟩) (qa1 _ _ rfl)
    ·show MtK _ _ [(0,.row 31 paS (colF ((qbp s n).map (cpV · m)) []).1)]
     rw[ho];exact ⟨.inl ⟨1086016,_,p0,rfl,rfl⟩,trivial⟩
    ·simp only[List.mem_cons,List.not_mem_nil,or_false] at hp;subst hp;decide
   exact q.only ⟨by kernel_rfl,by kernel_rfl,by kernel_rfl,trivial⟩ ⟨by kernel_rfl,by kernel_rfl,by kernel_rfl,by kernel_rfl,trivial⟩
  ·have q:GoodE Tryd.prog G0 23 Tryd.f23.ntmps .fn Y0 (endK tt G0 Tryd.f23.results.toList (QI ctCoK (((),((((),(s,()),(n,()),()),()),(m,()),())),()))) (qk3 .ret++rfK Tryd.f23 0) (0,false) ⟨[(2,.ptr 2 0),(3,.ptr 3 0)],[(2,.var [.nils]),(3,.var [.i e])]⟩:=by
    refine qdt cx0 (q30 e 0 false _ _) ?_;rw[q4t];refine ⟨[],?_,?_,by simp,by simp⟩
    ·show MtL _ [.win true paS 0 0 (colF ((qbp s n).map (cpV · m)) []).1.length,.i (colF ((qbp s n).map (cpV · m)) []).2] _
     rw[ho];exact ⟨_,_,rfl,.inr ⟨rfl,rfl,rfl,rfl⟩,qa1 _ _ rfl⟩
    ·show MtK _ _ [(0,.row 31 paS (colF ((qbp s n).map (cpV · m)) []).1)]
     rw[ho];exact ⟨.inr ⟨rfl,_,_,rfl,by decide⟩,trivial⟩
   exact q.only ⟨by kernel_rfl,by kernel_rfl,trivial⟩ ⟨by kernel_rfl,by kernel_rfl,trivial⟩
theorem qsc:Held Tryd.prog G0 21 ⟨[paS],λ _=>True,λ x=>[.sl syS (psV x.1).1,.i (psV x.1).2],λ _=>[]⟩:=by
 have h:=ps_held.frz (λ x _=>by
  show inL 0 (psV x.1).1.length [SV.win true syS 0 0 (psV x.1).1.length,SV.i (psV x.1).2]/\True
  exact ⟨⟨λ _=>by omega,⟨trivial,trivial⟩⟩,trivial⟩)
 refine h.iff rfl (λ x h=>h) (λ x _=>?_) (λ x _=>rfl)
 show [SV.sl syS (psV x.1).1,SV.i (psV x.1).2]=[SV.sl syS (winL syS 0 (psV x.1).1.length (psV x.1).1),SV.i (psV x.1).2]
 rw[winA (e:=syS)]
def ctPsf:Ctr:=⟨[paS],λ _=>True,λ x=>[.sl syS (psV x.1).1,.i (psV x.1).2],λ _=>[]⟩
def CSp:CV:=[(21,.inl ctPsf),(22,.inl (Im.ctVal True)),(25,.inr ctIns),(24,.inr ctPaS),(23,.inr ctCoS)]
theorem cxSp:CxOK Tryd.prog tt G0 CSp:=((((cx0.consI q2s (fn:=Tryd.f23) rfl rfl rfl).consI q09 (fn:=Tryd.f24) rfl rfl rfl).consI q18 (fn:=Tryd.f25) rfl rfl rfl).k Im.val_held (fn:=Tryd.f22)).k qsc (fn:=Tryd.f21)
def CSe:CV:=[(21,.inl ctPsf),(29,.inr ctCk),(24,.inr ctPaK),(23,.inr ctCoK)]
theorem cxSe:CxOK Tryd.prog tt G0 CSe:=(((cx0.consI q2t (fn:=Tryd.f23) rfl rfl rfl).consI q1a (fn:=Tryd.f24) rfl rfl rfl).consI q8x (fn:=Tryd.f29) rfl rfl rfl).k qsc (fn:=Tryd.f21)
abbrev KJ:List AK:=[.dat paS,.ptr [.dat (.sl paS)]]
abbrev fJ:AK:=.fn 47 [] [.ptr [.dat (.sl paS)]]
abbrev gtP (l:List PaT) (i:Nat):PaT:=gt paS l i
def othB (l:List PaT) (p:PaT):Bool:=p.1 != (gtP l 0).1
def ctOth:CtrI:=⟨KJ,λ x=>0<x.2.1.1.length,λ x=>[.bool (othB x.2.1.1 x.1)],λ x=>bkKL 0 KJ x⟩
abbrev slP:Sh:=.sl paS
def ixF (p:PaT->Bool):List PaT->Nat->Int
 | [],_ => -1
 | x::r,i=>match p x with
  | true=>(i:Int)
  | false=>ixF p r (i+1)
abbrev KO:List AK:=[.dat slP,fJ]
def q64 (l b:List PaT):Prop:=0<b.length/\l.length<1000000
def ctIfO:CtrI:=⟨KO,λ x=>q64 x.1 x.2.1.2.1.1,λ x=>[.i (ixF (othB x.2.1.2.1.1) x.1 0)],λ x=>bkKL 0 KO x⟩
set_option maxRecDepth 100000
theorem q9j (p:PaT) (l:List SecT) (Q:QT) (R:RT):sA CSp Tryd.f9 Q R [.code (qad Tryd.f9)] (entry [paS,.sl seS] (p,l,())) =
  (ctPsf.pre (p,())/\bc (decide ((psV p).2≠0)) (Q [.nils,.i (psV p).2] [(2,.var [.bool p.1,.i p.2.1,.i p.2.2.1,.sl opS p.2.2.2])]) ((Im.ctVal True).pre (l,p.2.2.1,())/\bc (!Im.validB l p.2.2.1) (Q [.nils,.i 120] [(2,.var [.bool p.1,.i p.2.1,.i p.2.2.1,.sl opS p.2.2.2])]) (ctIns.pre ((psV p).1,l,())/\ctPaS.pre (((),(l,()),((psV p).1,()),()),p.2.1,())/\ctCoS.pre (((),(((),(l,()),((psV p).1,()),()),()),(p.2.1,()),()),())/\Q [.win true paS 1110592 0 (colF (List.map (λ x=>cpV x p.2.1) (secF (psV p).1 l)) []).1.length,.i (colF (List.map (λ x=>cpV x p.2.1) (secF (psV p).1 l)) []).2] [(2,.var [.bool p.1,.i p.2.1,.i p.2.2.1,.sl opS p.2.2.2]),(1110592,.row 31 paS (colF (List.map (λ x=>cpV x p.2.1) (secF (psV p).1 l)) []).1)]))):=by kernel_rfl
theorem q9n (p:PaT) (n:Int) (Q:QT) (R:RT):sA CSe Tryd.f11 Q R [.code (qad Tryd.f11)] (entry [paS,iI] (p,n,())) =
  (ctPsf.pre (p,())/\bc (decide ((psV p).2≠0)) (Q [.nils,.i (psV p).2] [(2,.var [.bool p.1,.i p.2.1,.i p.2.2.1,.sl opS p.2.2.2])]) (bc (decide (n<1)) (true=true/\Q [.nils,.i 1] [(2,.var [.bool p.1,.i p.2.1,.i p.2.2.1,.sl opS p.2.2.2])]) (bc (bif false then true else decide ((4096:Int)<n)) (Q [.nils,.i 1] [(2,.var [.bool p.1,.i p.2.1,.i p.2.2.1,.sl opS p.2.2.2])]) (ctCk.pre ((psV p).1,n,())/\ctPaK.pre (((),((psV p).1,()),(n,()),()),p.2.1,())/\ctCoK.pre (((),(((),((psV p).1,()),(n,()),()),()),(p.2.1,()),()),())/\Q [.win true paS 1114688 0 (colF (List.map (λ x=>cpV x p.2.1) (qbp (psV p).1 n)) []).1.length,.i (colF (List.map (λ x=>cpV x p.2.1) (qbp (psV p).1 n)) []).2] [(2,.var [.bool p.1,.i p.2.1,.i p.2.2.1,.sl opS p.2.2.2]),(1114688,.row 31 paS (colF (List.map (λ x=>cpV x p.2.1) (qbp (psV p).1 n)) []).1)])))):=by kernel_rfl
theorem q9x (l:List PaT) (li:Bool) (m o:Int) (x:List OpT) (Q:QT) (R:RT):sA [] Tryd.f47 Q R [.code (qad Tryd.f47)] (qb1 KJ ((li,m,o,x),(l,()),())) =
  ((0:Int)<=0/\(0:Int)<(l.length:Int)/\Q [.bool !li == (gtP l (0)).1] [(2,.var [.bool li,.i m,.i o,.sl opS x]),(1099511627776,.var [.sl paS l])]):=by kernel_rfl
theorem zao (l b:List PaT) (Q:QT) (R:RT):sA [(47,.inr ctOth)] Tryd.f63 Q (λ it S=>R it (qaj [0,1,7,8] [BIG] S)) [.code (qad Tryd.f63)] (qb1 KO (l,((),((b,()),())),())) =
  (R (hd Tryd.f63 0) { env:=[(0,.sl paS l),(1,.fn (47:Nat) [] [.ptr 1099511627776 0]),(7,.i (l.length:Int)),(8,.i 0)],blk:=[(1099511627776,.var [.sl paS b])] }):=by kernel_rfl
theorem qvp (l b:List PaT) (i:Nat) (Q:QT) (R:RT):sA [(47,.inr ctOth)] Tryd.f63 Q (λ it S=>R it (qaj [0,1,7,8] [BIG] S)) (hd Tryd.f63 0) ⟨[(0,.sl paS l),(1,.fn 47 [] [.ptr BIG 0]),(7,.i (l.length:Nat)),(8,.i (i:Nat))],[(BIG,.var [.sl paS b])]⟩ =
  (bc (decide ((i:Int)<(l.length:Int))) ((0:Int)<=(i:Int)/\(i:Int)<(l.length:Int)/\ctOth.pre ((gtP l (i:Int).toNat),(b,()),())/\bc (othB b (gtP l (i:Int).toNat)) (Q [.i (i:Int)] [(1099511627776,.var [.sl paS b])]) (R (hd Tryd.f63 0) { env:=[(0,.sl paS l),(1,.fn (47:Nat) [] [.ptr 1099511627776 0]),(7,.i (l.length:Int)),(8,.i (IntKind.i64.wrap ((i:Int)+1)))],blk:=[(1099511627776,.var [.sl paS b])] })) (Q [.i (-1:Int)] [(1099511627776,.var [.sl paS b])])):=by kernel_rfl
theorem za0 (l b:List PaT) (Q:QT) (R:RT):sA [(63,.inr ctIfO)] Tryd.f48 Q R [.code (qad Tryd.f48)] (qb1 KO (l,((),((b,()),())),())) =
  (ctIfO.pre (l,((),(b,()),()),())/\Q [.bool (decide ((0:Int)<=ixF (othB b) l (0:Nat)))] [(1099511627776,.var [.sl paS b])]):=by kernel_rfl
abbrev gI3 (w:List Int) (i:Nat):Int:=gt (Sh.int .i32) w i
def preW (w:List Int):Prop:=∀ j,-2147483648<=gI3 w j/\gI3 w j<2147483648
theorem qq2 {l:List SyT} {m:Int} (h:¬ (szB m=true/\szB l.length=true/\l.all (sOK m)=true)):cpV l m=((false,0,0,[]),60):=by
 unfold cpV;rw[if_pos ?_];by_cases h2:(ofV l m).2=60
 ·exact h2
 ·exact absurd (q4h h2) h
theorem zco {m N:Int}:∀ {l:List OpT} {left i:Int},(chkF m N l left i).2=0\/(chkF m N l left i).2=60
 | [],left,i=>by
  simp only[chkF];split
  ·exact .inr rfl
  ·exact .inl rfl
 | x::l,left,i=>by
  simp only[chkF];split
  ·exact .inr rfl
  ·split
   ·exact .inr rfl
   ·exact zco
theorem qza (p:PaT):(chkV p).2=0\/(chkV p).2=60:=by
 unfold chkV;split
 ·exact zco
 ·exact .inr rfl
section
variable (z:Int) (l4:List (List Int)) (w:List Int) (h6:qqf z l4) (hw:preW w)
include h6 hw
end
def ctOpc:Ctr:=⟨[opS],λ _=>True,λ x=>[.i (cN x.1.1.toNat x.1)],λ _=>[]⟩
set_option maxRecDepth 100000
def qit (x:OpT):List (Nat × LB):=[(1,.var [.i x.1,.i x.2.1,.i x.2.2.1,.u x.2.2.2.1,.sl uB x.2.2.2.2])]
theorem q9y (x:OpT) (Q:QT) (R:RT):sA [] Tryd.f74 Q R [.code (qad Tryd.f74)] (entry [opS] (x,())) =
  (bc (decide (x.1=(2:Int))) (Q [.i (IntKind.i64.wrap ((4:Int)+x.2.2.1))] (qit x)) (bc (decide (x.1=(4:Int))) (Q [.i (IntKind.i64.wrap ((2:Int)+x.2.2.1))] (qit x)) (Q [.i 4] (qit x)))):=by kernel_rfl
theorem q7e (k f n b:Int) (d:List Int) (R:List Item->PS->Prop):sA [] Tryd.f74 (QC ctOpc ((k,f,n,b,d),())) R [.code (qad Tryd.f74)] (entry [opS] ((k,f,n,b,d),())):=by
 have out:∀ c,cN k.toNat ((k,f,n,b,d):OpT)=c->ctOpc.out ((k,f,n,b,d),())=[SV.i c]:=λ c e=>congrArg (λ c=>[SV.i c]) e
 refine (q9y (k,f,n,b,d) _ _).mpr (qaf (λ h=>?_) (λ h=>qaf (λ h2=>?_) (λ h2=>?_)))
 ·have h:k=2:=of_decide_eq_true h;subst h;exact QC.flat (out _ rfl) rfl rfl
 ·have h2:k=4:=of_decide_eq_true h2;subst h2;exact QC.flat (out _ rfl) rfl rfl
 ·have h:¬ k=2:=of_decide_eq_false h;have h2:¬ k=4:=of_decide_eq_false h2;refine QC.flat (out _ ?_) rfl rfl;unfold cN;split
  ·omega
  ·omega
  ·rfl
theorem q1h:Held Tryd.prog G0 74 ctOpc:=Held.run cx0 (fn:=Tryd.f74) rfl rfl ⟨by decide,by decide⟩ λ ⟨⟨k,f,n,b,d⟩,_⟩ _=>q7e k f n b d _
theorem cxOpc:CxOK Tryd.prog tt G0 [(74,.inl ctOpc)]:=cx0.k q1h (fn:=Tryd.f74)
def fokB (k:Int) (s t:SyT) (n:Nat):Bool:=
 if k=1 then (s.1&&(t.1&&decide (t.2.1=IntKind.i64.wrap (s.2.1+(n:Int)))))&&decide (t.2.2=0)
 else if k=2 then s.1&&(t.1&&decide (t.2.1=IntKind.i64.wrap (s.2.1+(n:Int))))
 else if k=3 then !s.1&&(!t.1&&decide (t.2.2=s.2.2))
 else if k=4 then !t.1 else true
def fitR (k:Int) (l:List SyT):Nat->Nat->Nat
 | 0,n=>n
 | f+1,n=>if n<l.length/\fokB k (gtY l 0) (gtY l n) n=true then fitR k l f (n+1) else n
theorem qyr {m:Int} (hm:m<16777216) {k:Int} (hk:kOK k) {l:List SyT} (hr:∀ s∈l,sOK m s=true) {n:Nat} (hn:n<l.length) (hl:l.length<=65536) (h0:0<n->canB k (gtY l 0)=true) :
  (fokB k (gtY l 0) (gtY l n) n=true↔canB k (gtY l n)=true/\(k=1\/k=2->(gtY l n).2.1=(gtY l 0).2.1+n)/\(k=3->(gtY l n).2.2=(gtY l 0).2.2)):=by
 have ok:∀ j,j<l.length->sOK m (gtY l j)=true:=λ j hj=>by rw[qjd hj];exact hr _ (List.getElem_mem hj)
 have k0:=ok 0 (by omega);have kn:=ok n hn;have hz:n=0->gtY l n=gtY l 0:=λ h=>by rw[h]
 generalize gtY l n=t at *;generalize gtY l 0=s at *;have wrapN:s.1=true->IntKind.i64.wrap (s.2.1+(n:Int))=s.2.1+n:=λ o=>by
  have b:=q6u k0 o;exact IntWalk.i64_in _ (by omega)
 have hs:canB k t=true->canB k s=true:=λ h=>by
  rcases Nat.eq_zero_or_pos n with e | e
  ·rw[<- hz e];exact h
  ·exact h0 e
 rcases (show k=1\/k=2\/k=3\/k=4 by unfold kOK at hk;omega) with e | e | e | e
 ·subst e;constructor
  ·intro h;simp[fokB] at h;rw[wrapN h.1.1] at h;exact ⟨by simp[canB,h],λ _=>h.1.2.2,λ q=>by omega⟩
  ·rintro ⟨h1,h2,_⟩;have o:=qj4 (.inl rfl) (hs h1);have:=h2 (.inl rfl);simp[canB] at h1;simp[fokB,wrapN o,o,h1,this]
 ·subst e;constructor
  ·intro h;simp[fokB] at h;rw[wrapN h.1] at h;exact ⟨by simp[canB,h],λ _=>h.2.2,λ q=>by omega⟩
  ·rintro ⟨h1,h2,_⟩;have o:=qj4 (.inr rfl) (hs h1);have:=h2 (.inr rfl);simp[canB] at h1;simp[fokB,wrapN o,o,h1,this]
 ·subst e;constructor
  ·intro h;simp[fokB] at h;exact ⟨by simp[canB,h],λ q=>by omega,λ _=>h.2.2⟩
  ·rintro ⟨h1,_,h3⟩;have o:=hs h1;have:=h3 rfl;simp[canB] at h1 o;simp[fokB,o,h1,this]
 ·subst e;constructor
  ·intro h;simp[fokB] at h;exact ⟨by simp[canB,h],λ q=>by omega,λ q=>by omega⟩
  ·rintro ⟨h1,_,_⟩;simp[canB] at h1;simp[fokB,h1]
theorem q8n {m:Int} (hm:m<16777216) {k:Int} (hk:kOK k) {l:List SyT} (hr:∀ s∈l,sOK m s=true) (hl:l.length<=65536):∀ (f n:Nat),l.length-n<=f->n<=fitN k l->fitR k l f n=fitN k l:=by
 have hi:=qyt hm (k:=k) hr;have hle:=qcy k l;intro f
 induction f with
 | zero=>
  intro n hf hn;rw[fitR];omega
 | succ f ih=>
  intro n hf hn;rw[fitR];by_cases hlt:n<fitN k l
  ·have h:=hi n hlt;rw[if_pos ⟨by omega,(qyr hm hk hr (by omega) hl λ _=>(hi 0 (by omega)).1).2 h⟩];exact ih (n+1) (by omega) (by omega)
  ·have e:n=fitN k l:=by omega
   rw[if_neg ?_]
   ·exact e
   ·rintro ⟨h1,h2⟩;have h:=(qyr hm hk hr h1 hl λ hp=>(hi 0 (by omega)).1).1 h2;have:=q4o hm (k:=k) (n:=n+1) hr (by omega) λ j hj=>by
     rcases Nat.lt_or_ge j n with q | q
     ·exact hi j (by omega)
     ·have:j=n:=by omega
      subst this;exact h
    omega
def xR (k:Int) (n:Nat) (l:List SyT):LiT:=(k,(n:Int),hdC k+eaC k*(n:Int)+cst (l.drop n),1+oct (l.drop n))
def rlt (x c:LiT):Bool:=decide (x.2.2.1<c.2.2.1) || (decide (x.2.2.1=c.2.2.1)&&decide (x.2.2.2<c.2.2.2))
def innS (k:Int) (n:Nat) (l:List SyT) (c:LiT × Bool):LiT × Bool:=if (!c.2 || rlt (xR k n l) c.1)=true then (xR k n l,true) else c
def innR (k:Int) (l:List SyT):Nat->LiT × Bool->LiT × Bool
 | 0,c=>c
 | n+1,c=>innR k l n (innS k (n+1) l c)
def kinR (k:Int) (l:List SyT) (c:LiT × Bool):LiT × Bool:=innR k l (fitN k l) c
def refB (l:List SyT):LiT:=(kinR 4 l (kinR 3 l (kinR 2 l (kinR 1 l (zLi,false))))).1
def prcd (l:List SyT) (k:Int) (n:Nat) (k':Int) (q:Nat):Prop:=kOK k'/\1<=q/\q<=fitN k' l/\(k'<k\/(k'=k/\n<q))
def invR (l:List SyT) (k:Int) (n:Nat) (c:LiT × Bool):Prop:=
 (c=(zLi,false)/\∀ k' q,¬ prcd l k n k' q)\/(c.2=true/\∃ q,prcd l k n c.1.1 q/\c.1=xR c.1.1 q l/\∀ k' r,prcd l k n k' r->keyL c.1.1 q l<=keyL k' r l)
theorem q3p (k:Int) (n:Nat) (l:List SyT):keyL k n l=(wB (xR k n l)*8+k)*1048576-(n:Int):=by
 have e:wB (xR k n l)=(hdC k+eaC k*(n:Int))*4294967296+1+wB (bst (l.drop n)):=by
  show (hdC k+eaC k*(n:Int)+(bst (l.drop n)).2.2.1)*4294967296+(1+(bst (l.drop n)).2.2.2)=_+((bst (l.drop n)).2.2.1*4294967296+(bst (l.drop n)).2.2.2)
  generalize eaC k*(n:Int)=e;omega
 rw[e];rfl
theorem q3o {l:List SyT} (hl:l.length<=65536) (k:Int) (n:Nat):0<=(xR k n l).2.2.2/\(xR k n l).2.2.2<4294967296:=by
 have h:=qpq (l.drop n) (by rw[List.length_drop];omega);rw[List.length_drop] at h;unfold boL at h
 show 0<=1+(bst (l.drop n)).2.2.2/\1+(bst (l.drop n)).2.2.2<4294967296
 omega
theorem rlt_w {x c:LiT} (hx:0<=x.2.2.2/\x.2.2.2<4294967296) (hc:0<=c.2.2.2/\c.2.2.2<4294967296):(rlt x c=true↔wB x<wB c):=by
 unfold rlt wB;simp only[Bool.or_eq_true,Bool.and_eq_true,decide_eq_true_eq];omega
theorem q19 {l:List SyT} (hl:l.length<=65536) {k:Int} (hk:kOK k) {n:Nat} (hn:n+1<=fitN k l) {c:LiT × Bool} (hc:invR l k (n+1) c):invR l k n (innS k (n+1) l c):=by
 have fl:=λ k=>qcy k l
 have me:prcd l k n k (n+1):=⟨hk,by omega,hn,.inr ⟨rfl,by omega⟩⟩;have more:∀ k' q,prcd l k n k' q->prcd l k (n+1) k' q\/(k'=k/\q=n+1):=λ k' q ⟨h1,h2,h3,h4⟩=>by
  rcases h4 with h | h
  ·exact .inl ⟨h1,h2,h3,.inl h⟩
  ·by_cases e:q=n+1
   ·exact .inr ⟨h.1,e⟩
   ·exact .inl ⟨h1,h2,h3,.inr ⟨h.1,by omega⟩⟩
 have less:∀ k' q,prcd l k (n+1) k' q->prcd l k n k' q:=λ k' q ⟨h1,h2,h3,h4⟩=>⟨h1,h2,h3,by omega⟩
 unfold innS;rcases hc with ⟨h1,h2⟩ | ⟨h1,q,h2,h3,h4⟩
 ·subst h1;rw[if_pos (show (!(zLi,false).2 || rlt (xR k (n+1) l) (zLi,false).1)=true from rfl)];refine .inr ⟨rfl,n+1,me,rfl,λ k' r h=>?_⟩;rcases more k' r h with h | ⟨h,h'⟩
  ·exact absurd h (h2 k' r)
  ·subst h;subst h';exact Int.le_refl _
 ·have ek:=q3p c.1.1 q l;have en:=q3p k (n+1) l;rw[<- h3] at ek;have f1:=fl k;have f2:=fl c.1.1;have hlt:=rlt_w (x:=xR k (n+1) l) (c:=c.1) (q3o hl k (n+1)) (by rw[h3];exact q3o hl _ _);obtain ⟨p1,p2,p3,p4⟩:=h2;rw[h1];simp only[Bool.not_true,Bool.false_or];by_cases hb:rlt (xR k (n+1) l) c.1=true
  ·rw[if_pos hb];have hw:=hlt.1 hb;refine .inr ⟨rfl,n+1,me,rfl,λ k' r h=>?_⟩
   show keyL k (n+1) l<=_
   rcases more k' r h with h | ⟨h,h'⟩
   ·have:=h4 k' r h;unfold kOK at hk p1;omega
   ·subst h;subst h';exact Int.le_refl _
  ·rw[if_neg hb];have hw:¬ wB (xR k (n+1) l)<wB c.1:=λ h=>hb (hlt.2 h)
   refine .inr ⟨h1,q,less _ _ ⟨p1,p2,p3,p4⟩,h3,λ k' r h=>?_⟩;rcases more k' r h with h | ⟨h,h'⟩
   ·exact h4 k' r h
   ·subst h;subst h';unfold kOK at hk p1;omega
theorem qsw {l:List SyT} (hl:l.length<=65536) {k:Int} (hk:kOK k):∀ (n:Nat) (c:LiT × Bool),n<=fitN k l->invR l k n c->invR l k 0 (innR k l n c)
 | 0,c,_,h=>h
 | n+1,c,hn,h=>qsw hl hk n _ (by omega) (q19 hl hk hn h)
theorem qj0 {l:List SyT} (hl:l.length<=65536) {k:Int} (hk:kOK k) {c:LiT × Bool} (h:invR l (k-1) 0 c):invR l k 0 (kinR k l c):=by
 refine qsw hl hk _ _ (Nat.le_refl _) ?_;have e:∀ k' q,prcd l k (fitN k l) k' q↔prcd l (k-1) 0 k' q:=λ k' q=>by
  unfold prcd;constructor
  ·rintro ⟨h1,h2,h3,h4⟩;refine ⟨h1,h2,h3,?_⟩;rcases h4 with h | ⟨h,h'⟩
   ·omega
   ·subst h;omega
  ·rintro ⟨h1,h2,h3,h4⟩;exact ⟨h1,h2,h3,by omega⟩
 rcases h with ⟨h1,h2⟩ | ⟨h1,q,h2,h3,h4⟩
 ·exact .inl ⟨h1,λ k' q h=>h2 k' q ((e k' q).1 h)⟩
 ·exact .inr ⟨h1,q,(e _ _).2 h2,h3,λ k' r h=>h4 k' r ((e k' r).1 h)⟩
theorem q6x {l:List SyT} (hl:l.length<=65536):refB l=bst l:=by
 have h0:invR l 0 0 (zLi,false):=.inl ⟨rfl,λ k' q h=>by obtain ⟨h1,h2,h3,h4⟩:=h;unfold kOK at h1;omega⟩;have h1:=qj0 hl (k:=1) (by unfold kOK;omega) h0;have h2:=qj0 hl (k:=2) (by unfold kOK;omega) h1;have h3:=qj0 hl (k:=3) (by unfold kOK;omega) h2;have h4:=qj0 hl (k:=4) (by unfold kOK;omega) h3;have all:∀ k' q,kOK k'->1<=q->q<=fitN k' l->prcd l 4 0 k' q:=λ k' q a b c=>⟨a,b,c,by unfold kOK at a;omega⟩
 show (kinR 4 l (kinR 3 l (kinR 2 l (kinR 1 l (zLi,false))))).1=_
 generalize kinR 4 l (kinR 3 l (kinR 2 l (kinR 1 l (zLi,false))))=c at *;rcases h4 with ⟨q1,q2⟩ | ⟨q1,q,q2,q3,q4⟩
 ·rw[q1]
  cases l with
  | nil=>rfl
  | cons s r=>
   exfalso;rcases qs1 s r with h | h
   ·exact q2 2 1 (all 2 1 (by unfold kOK;omega) (by omega) h)
   ·exact q2 4 1 (all 4 1 (by unfold kOK;omega) (by omega) h)
 ·have hq:l≠[]:=λ h=>by subst h;have:=q2.2.2.1;rw[fitN] at this;have:=q2.2.1;omega
  obtain ⟨u1,u2⟩:=zcq hl q2.1 q2.2.1 q2.2.2.1 λ k' hk' m m1 m2=>q4 k' m (all k' m hk' m1 m2)
  obtain ⟨hb,n,n1,n2,n3,n4,n5,n6⟩:=qtc hl hq;have en:n=q:=by omega
  subst en;rw[u1] at n5;rw[q3];unfold xR;rw[<- n5,<- n6,<- u1]
  show ((bst l).1,(n:Int),(bst l).2.2.1,(bst l).2.2.2)=bst l
  rw[<- u2]
theorem vc_ft (k:Int) (l:List SyT) (Q:QT) (R:RT):sA [] Tryd.f67 Q (λ it S=>R it (qaj [0,1,5] [] S)) [.code (qad Tryd.f67)] (entry [iI,.sl syS] (k,l,())) =
  (R (hd Tryd.f67 0) { env:=[(0,.i k),(1,.sl syS l),(5,.i 0)],blk:=[] }):=by kernel_rfl
def qet (l:List SyT) (n:Nat):List (Nat × LB):=[(6,.var (yI (gtY l (0)))),(7,.var (yI (gtY l (n:Int).toNat)))]
theorem qvu (l:List SyT) (n:Nat) (Q:QT) (R:RT):sA [] Tryd.f67 Q (λ it S=>R it (qaj [0,1,5] [] S)) (hd Tryd.f67 0) ⟨[(0,.i 1),(1,.sl syS l),(5,.i (n:Nat))],[]⟩ =
  (bc (decide ((n:Int)<(l.length:Int))) ((0:Int)<=0/\(0:Int)<(l.length:Int)/\(0:Int)<=(n:Int)/\(n:Int)<(l.length:Int)/\bc (gtY l (0)).1 (bc (bif true then (gtY l (n:Int).toNat).1 else false) (bc (!bif true then decide ((gtY l (n:Int).toNat).2.1=i64.wrap ((gtY l (0)).2.1+(n:Int))) else false) (true=true/\Q [.i (n:Int)] (qet l n)) (bc (decide ((gtY l (n:Int).toNat).2.2≠0)) (Q [.i (n:Int)] (qet l n)) (false=false/\false=false/\false=false/\R (hd Tryd.f67 0) { env:=[(0,.i 1),(1,.sl syS l),(5,.i (i64.wrap ((n:Int)+1)))],blk:=[] }))) (false=false/\true=true/\Q [.i (n:Int)] (qet l n))) (false=false/\false=false/\true=true/\Q [.i (n:Int)] (qet l n))) (Q [.i (n:Int)] [])):=by kernel_rfl
def qg4 (l:List SyT) (n:Nat):List (Nat × LB):=[(6,.var (yI (gtY l (0)))),(7,.var (yI (gtY l (n:Int).toNat)))]
theorem qvt (l:List SyT) (n:Nat) (Q:QT) (R:RT):sA [] Tryd.f67 Q (λ it S=>R it (qaj [0,1,5] [] S)) (hd Tryd.f67 0) ⟨[(0,.i 2),(1,.sl syS l),(5,.i (n:Nat))],[]⟩ =
  (bc (decide ((n:Int)<(l.length:Int))) ((0:Int)<=0/\(0:Int)<(l.length:Int)/\(0:Int)<=(n:Int)/\(n:Int)<(l.length:Int)/\bc (gtY l (0)).1 (bc (bif true then (gtY l (n:Int).toNat).1 else false) (false=false/\bc (bif true then !bif true then decide ((gtY l (n:Int).toNat).2.1=i64.wrap ((gtY l (0)).2.1+(n:Int))) else false else false) (Q [.i (n:Int)] (qg4 l n)) (false=false/\false=false/\R (hd Tryd.f67 0) { env:=[(0,.i 2),(1,.sl syS l),(5,.i (i64.wrap ((n:Int)+1)))],blk:=[] })) (false=false/\false=false/\Q [.i (n:Int)] (qg4 l n))) (false=false/\false=false/\false=false/\Q [.i (n:Int)] (qg4 l n))) (Q [.i (n:Int)] [])):=by kernel_rfl
def qbc (l:List SyT) (n:Nat):List (Nat × LB):=[(6,.var (yI (gtY l (0)))),(7,.var (yI (gtY l (n:Int).toNat)))]
theorem qvs (l:List SyT) (n:Nat) (Q:QT) (R:RT):sA [] Tryd.f67 Q (λ it S=>R it (qaj [0,1,5] [] S)) (hd Tryd.f67 0) ⟨[(0,.i 3),(1,.sl syS l),(5,.i (n:Nat))],[]⟩ =
  (bc (decide ((n:Int)<(l.length:Int))) ((0:Int)<=0/\(0:Int)<(l.length:Int)/\(0:Int)<=(n:Int)/\(n:Int)<(l.length:Int)/\bc (gtY l (0)).1 (bc (bif true then (gtY l (n:Int).toNat).1 else false) (false=false/\false=false/\bc (gtY l (0)).1 (true=true/\true=true/\Q [.i (n:Int)] (qbc l n)) (bc (bif false then true else (gtY l (n:Int).toNat).1) (true=true/\Q [.i (n:Int)] (qbc l n)) (bc (decide ((gtY l (n:Int).toNat).2.2≠(gtY l (0)).2.2)) (Q [.i (n:Int)] (qbc l n)) (false=false/\R (hd Tryd.f67 0) { env:=[(0,.i 3),(1,.sl syS l),(5,.i (i64.wrap ((n:Int)+1)))],blk:=[] })))) (false=false/\false=false/\false=false/\bc (gtY l (0)).1 (true=true/\true=true/\Q [.i (n:Int)] (qbc l n)) (bc (bif false then true else (gtY l (n:Int).toNat).1) (true=true/\Q [.i (n:Int)] (qbc l n)) (bc (decide ((gtY l (n:Int).toNat).2.2≠(gtY l (0)).2.2)) (Q [.i (n:Int)] (qbc l n)) (false=false/\R (hd Tryd.f67 0) { env:=[(0,.i 3),(1,.sl syS l),(5,.i (i64.wrap ((n:Int)+1)))],blk:=[] }))))) (false=false/\false=false/\false=false/\false=false/\bc (gtY l (0)).1 (true=true/\true=true/\Q [.i (n:Int)] (qbc l n)) (bc (bif false then true else (gtY l (n:Int).toNat).1) (true=true/\Q [.i (n:Int)] (qbc l n)) (bc (decide ((gtY l (n:Int).toNat).2.2≠(gtY l (0)).2.2)) (Q [.i (n:Int)] (qbc l n)) (false=false/\R (hd Tryd.f67 0) { env:=[(0,.i 3),(1,.sl syS l),(5,.i (i64.wrap ((n:Int)+1)))],blk:=[] }))))) (Q [.i (n:Int)] [])):=by kernel_rfl
def qg3 (l:List SyT) (n:Nat):List (Nat × LB):=[(6,.var (yI (gtY l (0)))),(7,.var (yI (gtY l (n:Int).toNat)))]
theorem qvr (l:List SyT) (n:Nat) (Q:QT) (R:RT):sA [] Tryd.f67 Q (λ it S=>R it (qaj [0,1,5] [] S)) (hd Tryd.f67 0) ⟨[(0,.i 4),(1,.sl syS l),(5,.i (n:Nat))],[]⟩ =
  (bc (decide ((n:Int)<(l.length:Int))) ((0:Int)<=0/\(0:Int)<(l.length:Int)/\(0:Int)<=(n:Int)/\(n:Int)<(l.length:Int)/\bc (gtY l (0)).1 (bc (bif true then (gtY l (n:Int).toNat).1 else false) (false=false/\false=false/\false=false/\bc (bif true then (gtY l (n:Int).toNat).1 else false) (Q [.i (n:Int)] (qg3 l n)) (R (hd Tryd.f67 0) { env:=[(0,.i 4),(1,.sl syS l),(5,.i (i64.wrap ((n:Int)+1)))],blk:=[] })) (false=false/\false=false/\false=false/\false=false/\bc (bif true then (gtY l (n:Int).toNat).1 else false) (Q [.i (n:Int)] (qg3 l n)) (R (hd Tryd.f67 0) { env:=[(0,.i 4),(1,.sl syS l),(5,.i (i64.wrap ((n:Int)+1)))],blk:=[] }))) (false=false/\false=false/\false=false/\false=false/\false=false/\bc (bif true then (gtY l (n:Int).toNat).1 else false) (Q [.i (n:Int)] (qg3 l n)) (R (hd Tryd.f67 0) { env:=[(0,.i 4),(1,.sl syS l),(5,.i (i64.wrap ((n:Int)+1)))],blk:=[] }))) (Q [.i (n:Int)] [])):=by kernel_rfl
theorem vc_pr (k n:Int) (Q:QT) (R:RT):sA [(74,.inl ctOpc)] Tryd.f68 Q R [.code (qad Tryd.f68)] (entry [iI,iI] (k,n,())) =
  (ctOpc.pre ((k,(0:Int),n,(0:Int),[]),())/\Q [.i (cN k.toNat (k,(0:Int),n,(0:Int),[]))] []):=by kernel_rfl
def zbl (k:Int) (l:List SyT):Prop:=kOK k/\l.length<=65536/\∃ m:Int,m<16777216/\∀ s∈l,sOK m s=true
def ctFt:Ctr:=⟨[iI,.sl syS],λ x=>zbl x.1 x.2.1,λ x=>[.i (fitN x.1 x.2.1:Nat)],λ _=>[]⟩
abbrev FtQ (n:Nat):List SV->List (Nat × LB)->Prop:=λ rs _=>rs=[.i (n:Nat)]
theorem q8l (k:Int) (hk:kOK k) (l:List SyT) (hl:l.length<=65536):∀ (f n:Nat),l.length-n=f->n<=l.length ->
  GD 67 Tryd.f67 (FtQ (fitR k l f n)) (hd Tryd.f67 0) ⟨[(0,.i k),(1,.sl syS l),(5,.i (n:Nat))],[]⟩:=by
 intro f
 induction f with
 | zero=>
  intro n hf hn;rw[fitR];have e:¬ (n:Int)<(l.length:Int):=by omega
  rcases (show k=1\/k=2\/k=3\/k=4 by unfold kOK at hk;omega) with h | h | h | h
  ·subst h;refine qah cx0 (qvu l n _ _) ?_;rw[decide_eq_false e,bc_f]
  ·subst h;refine qah cx0 (qvt l n _ _) ?_;rw[decide_eq_false e,bc_f]
  ·subst h;refine qah cx0 (qvs l n _ _) ?_;rw[decide_eq_false e,bc_f]
  ·subst h;refine qah cx0 (qvr l n _ _) ?_;rw[decide_eq_false e,bc_f]
 | succ f ih=>
  intro n hf hn;have nx:=ih (n+1) (by omega) (by omega);have hlt:n<l.length:=by omega
  have w:IntKind.i64.wrap ((n:Int)+1)=((n+1:Nat):Int):=by rw[IntWalk.i64_in _ (by omega)];omega
  have stop:fokB k (gtY l 0) (gtY l n) n=false->[SV.i (n:Nat)]=[SV.i ((fitR k l (f+1) n:Nat):Int)]:=λ h=>by rw[fitR,if_neg (by rw[h];simp)]
  have go:fokB k (gtY l 0) (gtY l n) n=true->fitR k l (f+1) n=fitR k l f (n+1):=λ h=>by rw[fitR,if_pos ⟨hlt,h⟩]
  have e:decide ((n:Int)<(l.length:Int))=true:=decide_eq_true (by omega);have nk:fokB k (gtY l 0) (gtY l n) n=true->GD 67 Tryd.f67 (FtQ (fitR k l (f+1) n)) (hd Tryd.f67 0) ⟨[(0,.i k),(1,.sl syS l),(5,.i ((n+1:Nat):Int))],[]⟩:=λ h=>by rw[go h];exact nx
  generalize fitR k l (f+1) n=q at *;clear nx ih go;rcases (show k=1\/k=2\/k=3\/k=4 by unfold kOK at hk;omega) with h | h | h | h
  ·subst h;refine qah cx0 (qvu l n _ _) ?_;rw[e,bc_t,Int.toNat_natCast,w];generalize gtY l n=t at *;generalize gtY l 0=s at *;refine ⟨by omega,by omega,by omega,by omega,?_⟩
   repeat' first
    | exact stop (by simp_all [fokB])
    | exact (nk (by simp_all [fokB])).only ⟨rfl,rfl,rfl,trivial⟩ trivial
    | refine ⟨rfl,?_⟩
    | refine qaf (λ h=>?_) (λ h=>?_)
  ·subst h;refine qah cx0 (qvt l n _ _) ?_;rw[e,bc_t,Int.toNat_natCast,w];generalize gtY l n=t at *;generalize gtY l 0=s at *;refine ⟨by omega,by omega,by omega,by omega,?_⟩
   repeat' first
    | exact stop (by simp_all [fokB])
    | exact (nk (by simp_all [fokB])).only ⟨rfl,rfl,rfl,trivial⟩ trivial
    | refine ⟨rfl,?_⟩
    | refine qaf (λ h=>?_) (λ h=>?_)
  ·subst h;refine qah cx0 (qvs l n _ _) ?_;rw[e,bc_t,Int.toNat_natCast,w];generalize gtY l n=t at *;generalize gtY l 0=s at *;refine ⟨by omega,by omega,by omega,by omega,?_⟩
   repeat' first
    | exact stop (by simp_all [fokB])
    | exact (nk (by simp_all [fokB])).only ⟨rfl,rfl,rfl,trivial⟩ trivial
    | refine ⟨rfl,?_⟩
    | refine qaf (λ h=>?_) (λ h=>?_)
  ·subst h;refine qah cx0 (qvr l n _ _) ?_;rw[e,bc_t,Int.toNat_natCast,w];generalize gtY l n=t at *;generalize gtY l 0=s at *;refine ⟨by omega,by omega,by omega,by omega,?_⟩
   repeat' first
    | exact stop (by simp_all [fokB])
    | exact (nk (by simp_all [fokB])).only ⟨rfl,rfl,rfl,trivial⟩ trivial
    | refine ⟨rfl,?_⟩
    | refine qaf (λ h=>?_) (λ h=>?_)
theorem zb7 (k:Int) (l:List SyT) (hp:zbl k l):GD 67 Tryd.f67 (QC ctFt (k,l,())) [.code (qad Tryd.f67)] (entry [iI,.sl syS] (k,l,())):=by
 obtain ⟨hk,hl,m,hm,hr⟩:=hp;have h:=q8l k hk l hl l.length 0 (by omega) (Nat.zero_le _);rw[q8n hm hk hr hl l.length 0 (by omega) (Nat.zero_le _)] at h;exact qah cx0 (vc_ft k l _ _) ((h.post λ rs blk hq=>QC.flat (by rw[hq];rfl) rfl (by rw[hq];rfl)).only ⟨rfl,rfl,rfl,trivial⟩ trivial)
theorem q8m:Held Tryd.prog G0 67 ctFt:=Held.of cx0 (fn:=Tryd.f67) rfl rfl ⟨by decide,by decide⟩ λ ⟨k,l,_⟩ hp=>zb7 k l hp
def q06 (k n:Int):Prop:=kOK k/\0<=n/\n<=65536
def ctPr:Ctr:=⟨[iI,iI],λ x=>q06 x.1 x.2.1,λ x=>[.i (hdC x.1+eaC x.1*x.2.1)],λ _=>[]⟩
theorem zbm {k n:Int} (h:q06 k n):cN k.toNat ((k,0,n,0,[]):OpT)=hdC k+eaC k*n:=by
 obtain ⟨hk,h0,h1⟩:=h;rcases (show k=1\/k=2\/k=3\/k=4 by unfold kOK at hk;omega) with e | e | e | e
 ·subst e;show (4:Int)=hdC 1+eaC 1*_;simp[hdC,eaC]
 ·subst e
  show IntKind.i64.wrap (4+n)=_
  rw[IntWalk.i64_in _ (by omega)];simp[hdC,eaC]
 ·subst e;show (4:Int)=hdC 3+eaC 3*_;simp[hdC,eaC]
 ·subst e
  show IntKind.i64.wrap (2+n)=_
  rw[IntWalk.i64_in _ (by omega)];simp[hdC,eaC]
theorem zbn (k n:Int) (h:q06 k n) (R:List Item->PS->Prop):sA [(74,.inl ctOpc)] Tryd.f68 (QC ctPr (k,n,())) R [.code (qad Tryd.f68)] (entry [iI,iI] (k,n,())):=by
 refine (vc_pr k n _ _).mpr ⟨trivial,?_⟩;rw[zbm h];exact QC.flat rfl rfl rfl
theorem q67:Held Tryd.prog G0 68 ctPr:=Held.run cxOpc (fn:=Tryd.f68) rfl rfl ⟨by decide,by decide⟩ λ ⟨k,n,_⟩ hp=>zbn k n hp _
end Go.Proofs.YtdeacfammdjajaaDoor
