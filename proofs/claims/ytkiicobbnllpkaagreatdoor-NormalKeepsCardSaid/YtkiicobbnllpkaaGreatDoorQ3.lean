/-
  A part of the proof: what pieces of the program give; conditions: those of each theorem.
-/
import Derived.Test.YtkiicobbnllpkaaGreatDoorQ2
import Derived.Test.YtkiicobbnllpkaaGreatDoorHD
import Derived.KernelRfl
import Derived.Test.YtkiicobbnllpkaaGreatDoorQ1
set_option linter.unusedVariables false
set_option linter.unusedSimpArgs false
namespace Go.Proofs.YtkiicobbnllpkaaGreatDoor
open Go.Px Go.Ax
set_option maxRecDepth 100000
def CBs:CV:=[(54,.inl ctBg),(55,.inl ctBet)]
theorem cxBs:CxOK Tryz.prog tt G0 CBs:=(cx0.cons isB_held (fn:=Tryz.f55) rfl rfl rfl).cons beg_held (fn:=Tryz.f54) rfl rfl rfl
abbrev gtL (l:List LiT) (i:Nat):LiT:=gt liS l i
set_option maxRecDepth 100000
theorem vc_bs (l:List SyT) (Q:QT) (R:RT):sy tt G0 CBs Tryz.f41.ntmps Tryz.f41.results.toList Q (fun it S=>R it (keepS [0,3,4,5,6] [4,10] S)) 1000 [.code (bodyOf Tryz.f41)] (entry [.sl syS] (l,())) =
  ((0:Int)≤IntKind.i64.wrap ((l.length:Int)+(1:Int)) ∧
 IntKind.i64.wrap ((l.length:Int)+(1:Int))≤IntKind.i64.wrap ((l.length:Int)+(1:Int)) ∧
 IntKind.i64.wrap ((l.length:Int)+(1:Int))<(2:Int) ^ (24:Nat) ∧
 (↑(32:Nat):Int)*IntKind.i64.wrap ((l.length:Int)+(1:Int))≤(2:Int) ^ (48:Nat) ∧
 R (hd Tryz.f41 0) { env:=[(0,.sl syS l),(3,.win true liS 10 0 (IntKind.i64.wrap ((l.length:Int)+(1:Int))).toNat),(4,.ptr 4 0),(5,.int .i64 (IntKind.i64.wrap ((l.length:Int)-(1:Int))))],blk:=[(4,.var [.arr (5:Nat) liS (Sh.arr (5:Nat) liS).dflt]),(10,.row 91 liS (List.replicate (IntKind.i64.wrap ((l.length:Int)+(1:Int))).toNat liS.dflt))] }):=by kernel_rfl
theorem vc_bsO (l:List SyT) (b bg:List LiT) (i:Int) (Q:QT) (R:RT):sy tt G0 CBs Tryz.f41.ntmps Tryz.f41.results.toList Q (fun it S=>R it (keepS [0,3,4,5,6] [4,10] S)) 1000 (hd Tryz.f41 0) ⟨[(0,.sl syS l),(3,.win true liS 10 0 b.length),(4,.ptr 4 0),(5,.int .i64 i)],[(4,.var [.arr 5 liS bg]),(10,.row 91 liS b)]⟩ =
  (bc (decide ((0:Int)≤i)) (R (hd Tryz.f41 1) { env:=[(0,.sl syS l),(3,.win true liS 10 0 b.length),(4,.ptr 4 0),(5,.int .i64 i),(6,.int .i64 1)],blk:=[(4,.var [.arr (5:Nat) liS bg]),(10,.row 91 liS b)] }) (Q [.win true liS 10 0 b.length] [(4,.var [.arr (5:Nat) liS bg]),(10,.row 91 liS b)])):=by kernel_rfl
theorem vc_bsI (l:List SyT) (b bg:List LiT) (i k:Int) (Q:QT) (R:RT):sy tt G0 CBs Tryz.f41.ntmps Tryz.f41.results.toList Q (fun it S=>R it (keepS [0,3,4,5,6] [4,10] S)) 1000 (hd Tryz.f41 1) ⟨[(0,.sl syS l),(3,.win true liS 10 0 b.length),(4,.ptr 4 0),(5,.int .i64 i),(6,.int .i64 k)],[(4,.var [.arr 5 liS bg]),(10,.row 91 liS b)]⟩ =
  (bc (decide (k≤(4:Int))) ((0:Int)≤i ∧
 i≤(l.length:Int) ∧
 (0:Int)≤IntKind.i64.wrap (i+(1:Int)) ∧
 IntKind.i64.wrap (i+(1:Int))<(b.length:Int) ∧
 0+(IntKind.i64.wrap (i+(1:Int))).toNat<b.length ∧
 (0:Int)≤k ∧
 k<(↑(5:Nat):Int) ∧
 k.toNat<(5:Nat) ∧
 ctBg.pre (k,List.drop i.toNat l,((gtL b (0+(IntKind.i64.wrap (i+(1:Int))).toNat)).2.2),(gtL bg k.toNat),()) ∧
 (0:Int)≤k ∧
 k<(↑(5:Nat):Int) ∧
 k.toNat<(5:Nat) ∧
 (0:Int)≤k ∧
 k<(↑(5:Nat):Int) ∧
 k.toNat<(5:Nat) ∧
 (0:Int)≤i ∧
 i<(b.length:Int) ∧
 0+i.toNat<b.length ∧
 ctBet.pre ((gtL (bg.set k.toNat (begL k (List.drop i.toNat l) ((gtL b (0+(IntKind.i64.wrap (i+(1:Int))).toNat)).2.2) (gtL bg k.toNat))) k.toNat),(gtL b (0+i.toNat)),()) ∧
 bc (betB (gtL (bg.set k.toNat (begL k (List.drop i.toNat l) ((gtL b (0+(IntKind.i64.wrap (i+(1:Int))).toNat)).2.2) (gtL bg k.toNat))) k.toNat) (gtL b (0+i.toNat))) ((0:Int)≤k ∧
 k<(↑(5:Nat):Int) ∧
 k.toNat<(5:Nat) ∧
 (0:Int)≤i ∧
 i<(b.length:Int) ∧
 0+i.toNat<b.length ∧
 R (hd Tryz.f41 1) { env:=[(0,.sl syS l),(3,.win true liS 10 0 b.length),(4,.ptr 4 0),(5,.int .i64 i),(6,.int .i64 (IntKind.i64.wrap (k+(1:Int))))],blk:=[(4,.var [.arr (5:Nat) liS (bg.set k.toNat (begL k (List.drop i.toNat l) ((gtL b (0+(IntKind.i64.wrap (i+(1:Int))).toNat)).2.2) (gtL bg k.toNat)))]),(10,.row 91 liS (b.set (0+i.toNat) (gtL (bg.set k.toNat (begL k (List.drop i.toNat l) ((gtL b (0+(IntKind.i64.wrap (i+(1:Int))).toNat)).2.2) (gtL bg k.toNat))) k.toNat)))] }) (R (hd Tryz.f41 1) { env:=[(0,.sl syS l),(3,.win true liS 10 0 b.length),(4,.ptr 4 0),(5,.int .i64 i),(6,.int .i64 (IntKind.i64.wrap (k+(1:Int))))],blk:=[(4,.var [.arr (5:Nat) liS (bg.set k.toNat (begL k (List.drop i.toNat l) ((gtL b (0+(IntKind.i64.wrap (i+(1:Int))).toNat)).2.2) (gtL bg k.toNat)))]),(10,.row 91 liS b)] })) (R (hd Tryz.f41 0) { env:=[(0,.sl syS l),(3,.win true liS 10 0 b.length),(4,.ptr 4 0),(5,.int .i64 (IntKind.i64.wrap (i-(1:Int)))),(6,.int .i64 k)],blk:=[(4,.var [.arr (5:Nat) liS bg]),(10,.row 91 liS b)] })):=by kernel_rfl
end Go.Proofs.YtkiicobbnllpkaaGreatDoor
namespace Go.Proofs.YtkiicobbnllpkaaGreatDoor
open Go.Px Go.Ax
set_option maxRecDepth 100000
attribute [local irreducible] Go.Px.sy Go.Px.syE
def bT (l:List SyT) (m:Nat):List LiT:=(List.range (l.length+1)).map fun j=>if m≤j then bst (l.drop j) else zLi
theorem bT_len (l:List SyT) (m:Nat):(bT l m).length=l.length+1:=by simp[bT]
theorem bT_set (l:List SyT) (i:Nat) (hi:i≤l.length):bT l i=(bT l (i+1)).set i (bst (l.drop i)):=by
 refine List.ext_getElem? fun j=>?_
 rw[List.getElem?_set]
 by_cases h:i=j
 ·subst h
  rw[if_pos rfl,if_pos (by rw[bT_len];omega)]
  simp[bT,show i<l.length+1 by omega]
 ·rw[if_neg h]
  unfold bT
  by_cases hj:j<l.length+1
  ·simp only[List.getElem?_map,List.getElem?_range hj,Option.map_some]
   by_cases h2:i≤j
   ·rw[if_pos h2,if_pos (by omega)]
   ·rw[if_neg h2,if_neg (by omega)]
  ·simp[show l.length+1≤j by omega]
theorem bT_z (l:List SyT) (i:Nat) (hi:i≤l.length):(bT l (i+1)).set i zLi=bT l (i+1):=by
 refine List.ext_getElem? fun j=>?_
 rw[List.getElem?_set]
 by_cases h:i=j
 ·subst h
  rw[if_pos rfl,if_pos (by rw[bT_len];omega)]
  simp[bT,show i<l.length+1 by omega,show ¬ (i+1≤i) by omega]
 ·rw[if_neg h]
theorem bT_get (l:List SyT) (m j:Nat) (hj:j≤l.length) (hm:m≤j):gtL (bT l m) j=bst (l.drop j):=by
 show ((bT l m)[j]?).getD _=_
 simp[bT,show j<l.length+1 by omega,hm]
theorem bT_rep (l:List SyT):List.replicate (l.length+1) (liS.dflt:LiT)=bT l l.length:=by
 refine List.ext_getElem? fun j=>?_
 by_cases hj:j<l.length+1
 ·simp only[bT,List.getElem?_replicate,List.getElem?_map,List.getElem?_range hj,Option.map_some,if_pos hj]
  by_cases h:l.length≤j
  ·rw[if_pos h,List.drop_eq_nil_of_le h];rfl
  ·rw[if_neg h];rfl
 ·simp[bT,show l.length+1≤j by omega]
def bgL (r:List SyT):List LiT:=[zLi,beg r 1,beg r 2,beg r 3,beg r 4]
def bestsL (l:List SyT):List LiT:=bT l 0
def preBs (l:List SyT):Prop:=l.length≤65536
def ctBs:Ctr:=⟨[.sl syS],fun x=>preBs x.1,fun x=>[.win true liS 0 0 (bestsL x.1).length],fun x=>[.row 91 liS (bestsL x.1)]⟩
section
variable (l:List SyT) (hl:l.length≤65536)
abbrev BQ:List SV→List (Nat × LB)→Prop:=QC ctBs (l,())
abbrev bsO (b bg:List LiT) (i:Int):PS:=⟨[(0,.sl syS l),(3,.win true liS 10 0 b.length),(4,.ptr 4 0),(5,.int .i64 i)],[(4,.var [.arr 5 liS bg]),(10,.row 91 liS b)]⟩
abbrev bsI (b bg:List LiT) (i k:Int):PS:=⟨[(0,.sl syS l),(3,.win true liS 10 0 b.length),(4,.ptr 4 0),(5,.int .i64 i),(6,.int .i64 k)],[(4,.var [.arr 5 liS bg]),(10,.row 91 liS b)]⟩
include hl
theorem bs_step (i:Nat) (hi:i<l.length) (k:Nat) (hk:1≤k∧k≤4) (b bg:List LiT) (hb:b.length=l.length+1) (hbg:bg.length=5) (c:LiT) (h1:gtL b (i+1)=bst (l.drop (i+1))) (hg:gtL bg k=beg (l.drop (i+1)) k)
  (nx:GD 41 Tryz.f41 (BQ l) (hd Tryz.f41 1) (bsI l (b.set i (upd c (beg (l.drop i) k))) (bg.set k (beg (l.drop i) k)) i ((k+1:Nat):Int))) :
  GD 41 Tryz.f41 (BQ l) (hd Tryz.f41 1) (bsI l (b.set i c) bg i (k:Nat)):=by
 have kk:kOK (k:Int):=by unfold kOK;omega
 have hd:l.drop i=l[i]::l.drop (i+1):=List.drop_eq_getElem_cons hi
 have rl:(l.drop (i+1)).length=l.length-(i+1):=List.length_drop ..
 have ra:=ok_all (l.drop (i+1)) (by omega)
 have rb:=bst_bo (l.drop (i+1)) (by omega)
 have eb:begL k (l.drop i) (bst (l.drop (i+1))).2.2 (beg (l.drop (i+1)) k)=beg (l.drop i) k:=by
  rw[hd,beg_cons]
  unfold begL
  rw[gtY_z,gtY_s l[i] (l.drop (i+1)) 0]
 refine sy_goK cxBs (vc_bsI l (b.set i c) bg i k _ _) ?_
 have w1:IntKind.i64.wrap ((i:Int)+1)=((i+1:Nat):Int):=by rw[IntWalk.i64_in _ (by omega)];omega
 have w2:IntKind.i64.wrap ((k:Int)+1)=((k+1:Nat):Int):=by rw[IntWalk.i64_in _ (by omega)];omega
 have g1:gtL (b.set i c) (0+(i+1))=bst (l.drop (i+1)):=by
  rw[← h1,Nat.zero_add]
  show ((b.set i c)[i+1]?).getD _=(b[i+1]?).getD _
  rw[List.getElem?_set_ne (by omega)]
 have g2:∀ x,gtL (bg.set k x) k=x:=fun x=>by
  show ((bg.set k x)[k]?).getD _=_
  rw[List.getElem?_set_self (by omega)];rfl
 have g3:gtL (b.set i c) (0+i)=c:=by
  rw[Nat.zero_add]
  show ((b.set i c)[i]?).getD _=_
  rw[List.getElem?_set_self (by omega)];rfl
 rw[w1,w2,decide_eq_true (show (k:Int)≤4 by omega),bc_t]
 simp only[Int.toNat_natCast]
 rw[g1,hg,eb,g2,g3]
 have pl:(l.drop i).length=l.length-i:=List.length_drop ..
 have pre1:preBg k (l.drop i) (beg (l.drop (i+1)) k):=by
  refine ⟨kk,by omega,?_⟩
  rcases ra.1 k kk with h | ⟨_,n,n1,n2,n3,_⟩
  ·left;rw[h.2];rfl
  ·right
   have:=fitN_le k (l.drop (i+1))
   omega
 have pre2:boB (bst (l.drop (i+1))).2.2 (beg (l.drop (i+1)) k):=by
  unfold boL at rb
  refine ⟨by omega,?_⟩
  rcases ra.1 k kk with h | ⟨_,n,n1,n2,n3,_,_,h⟩
  ·rw[h.2];exact (show 0≤(0:Int)∧(0:Int)<16777216∧0≤(0:Int)∧(0:Int)<16777216 by decide)
  ·have:=fitN_le k (l.drop (i+1))
   unfold boL at h
   omega
 have bl:(b.set i c).length=l.length+1:=by rw[List.length_set];exact hb
 refine ⟨by omega,by omega,by omega,by omega,by omega,by omega,by omega,by omega,⟨pre1,pre2⟩,by omega,by omega,by omega,by omega,by omega,by omega,by omega,by omega,by omega,trivial,bc_of (fun h=>?_) (fun h=>?_)⟩
 ·have eu:upd c (beg (l.drop i) k)=beg (l.drop i) k:=by unfold upd;rw[if_pos h]
  rw[eu] at nx
  refine ⟨by omega,by omega,by omega,by omega,by omega,by omega,?_⟩
  rw[Nat.zero_add,List.set_set]
  exact nx.only ⟨rfl,by simp only[List.length_set];rfl,rfl,rfl,rfl,trivial⟩ ⟨rfl,rfl,trivial⟩
 ·have eu:upd c (beg (l.drop i) k)=c:=by unfold upd;rw[if_neg (by rw[h];decide)]
  rw[eu] at nx
  exact nx.only ⟨rfl,rfl,rfl,rfl,rfl,trivial⟩ ⟨rfl,rfl,trivial⟩
theorem bs_loop:∀ (n:Nat),n≤l.length→GD 41 Tryz.f41 (BQ l) (hd Tryz.f41 0) (bsO l (bT l n) (bgL (l.drop n)) ((n:Int)-1)):=by
 intro n
 induction n with
 | zero=>
  intro hn
  refine sy_goK cxBs (vc_bsO l (bT l 0) (bgL (l.drop 0)) (((0:Nat):Int)-1) _ _) ?_
  rw[decide_eq_false (by omega),bc_f]
  exact qc_row (e:=liS) (et:=91) (a:=10) (xs:=bestsL l) rfl rfl rfl rfl rfl
 | succ n ih=>
  intro hn
  have e:((n+1:Nat):Int)-1=(n:Int):=by omega
  rw[e]
  refine sy_goK cxBs (vc_bsO l (bT l (n+1)) (bgL (l.drop (n+1))) n _ _) ?_
  rw[decide_eq_true (show (0:Int)≤(n:Int) by omega),bc_t]
  have fin:GD 41 Tryz.f41 (BQ l) (hd Tryz.f41 1) (bsI l (bT l n) (bgL (l.drop n)) n 5):=by
   refine sy_goK cxBs (vc_bsI l (bT l n) (bgL (l.drop n)) n 5 _ _) ?_
   rw[decide_eq_false (by omega),bc_f,IntWalk.i64_in ((n:Int)-1) (by omega)]
   exact (ih (by omega)).only ⟨rfl,rfl,rfl,rfl,trivial⟩ ⟨rfl,rfl,trivial⟩
  have hb:=bT_len l (n+1)
  have h1:=bT_get l (n+1) (n+1) (by omega) (Nat.le_refl _)
  rw[bT_set l n (by omega)] at fin
  have hd:l.drop n=l[n]::l.drop (n+1):=List.drop_eq_getElem_cons hn
  have up:bst (l.drop n)=upd (upd (upd (upd zLi (beg (l.drop n) 1)) (beg (l.drop n) 2)) (beg (l.drop n) 3)) (beg (l.drop n) 4):=by rw[hd];rfl
  rw[up] at fin
  have s4:=bs_step l hl n hn 4 ⟨by omega,by omega⟩ (bT l (n+1)) [zLi,beg (l.drop n) 1,beg (l.drop n) 2,beg (l.drop n) 3,beg (l.drop (n+1)) 4] hb rfl _ h1 rfl (fin.only ⟨rfl,by simp only[List.length_set];rfl,rfl,rfl,rfl,trivial⟩ ⟨rfl,rfl,trivial⟩)
  have s3:=bs_step l hl n hn 3 ⟨by omega,by omega⟩ (bT l (n+1)) [zLi,beg (l.drop n) 1,beg (l.drop n) 2,beg (l.drop (n+1)) 3,beg (l.drop (n+1)) 4] hb rfl _ h1 rfl (s4.only ⟨rfl,by simp only[List.length_set];rfl,rfl,rfl,rfl,trivial⟩ ⟨rfl,rfl,trivial⟩)
  have s2:=bs_step l hl n hn 2 ⟨by omega,by omega⟩ (bT l (n+1)) [zLi,beg (l.drop n) 1,beg (l.drop (n+1)) 2,beg (l.drop (n+1)) 3,beg (l.drop (n+1)) 4] hb rfl _ h1 rfl (s3.only ⟨rfl,by simp only[List.length_set];rfl,rfl,rfl,rfl,trivial⟩ ⟨rfl,rfl,trivial⟩)
  have s1:=bs_step l hl n hn 1 ⟨by omega,by omega⟩ (bT l (n+1)) [zLi,beg (l.drop (n+1)) 1,beg (l.drop (n+1)) 2,beg (l.drop (n+1)) 3,beg (l.drop (n+1)) 4] hb rfl zLi h1 rfl (s2.only ⟨rfl,by simp only[List.length_set];rfl,rfl,rfl,rfl,trivial⟩ ⟨rfl,rfl,trivial⟩)
  rw[bT_z l n (by omega)] at s1
  exact s1.only ⟨rfl,rfl,rfl,rfl,rfl,trivial⟩ ⟨rfl,rfl,trivial⟩
theorem bs_run:GD 41 Tryz.f41 (BQ l) [.code (bodyOf Tryz.f41)] (entry [.sl syS] (l,())):=by
 refine sy_goK cxBs (vc_bs l _ _) ?_
 rw[IntWalk.i64_in ((l.length:Int)+1) (by omega),IntWalk.i64_in ((l.length:Int)-1) (by omega)]
 have e:((l.length:Int)+1).toNat=l.length+1:=by omega
 rw[e]
 refine ⟨by omega,by omega,?_,?_,?_⟩
 ·show (l.length:Int)+1<16777216
  omega
 ·show (32:Int)*((l.length:Int)+1)≤281474976710656
  omega
 ·have h:=bs_loop l hl l.length (Nat.le_refl _)
  rw[List.drop_length] at h
  rw[bT_rep l]
  exact h.only ⟨rfl,by rw[bT_len];rfl,rfl,rfl,trivial⟩ ⟨rfl,rfl,trivial⟩
end
theorem bs_held:Held Tryz.prog G0 41 ctBs:=Held.of cxBs (fn:=Tryz.f41) rfl rfl ⟨by decide,by decide⟩ fun ⟨l,_⟩ hp=>bs_run l hp
end Go.Proofs.YtkiicobbnllpkaaGreatDoor
namespace Go.Proofs.YtkiicobbnllpkaaGreatDoor
open Go.Px Go.Ax
set_option maxRecDepth 100000
def CCh:CV:=[(41,.inl ctBs),(42,.inl ctMk)]
theorem cxCh:CxOK Tryz.prog tt G0 CCh:=(cx0.cons mk_held (fn:=Tryz.f42) rfl rfl rfl).cons bs_held (fn:=Tryz.f41) rfl rfl rfl
set_option maxRecDepth 100000
theorem vc_ch (l:List SyT) (Q:QT) (R:RT):sy tt G0 CCh Tryz.f29.ntmps Tryz.f29.results.toList Q (fun it S=>R it (keepS [0,3,4,5] [3,8,14,1032768] S)) 1000 [.code (bodyOf Tryz.f29)] (entry [.sl syS] (l,())) =
  (ctBs.pre (l,()) ∧
 (0:Int)≤(0:Int) ∧
 (0:Int)<(↑(bestsL l).length:Int) ∧
 0+0<(bestsL l).length ∧
 (0:Int)≤(0:Int) ∧
 (0:Int)≤(gtL (bestsL l) (0+0)).2.2.2 ∧
 (gtL (bestsL l) (0+0)).2.2.2<(2:Int) ^ (24:Nat) ∧
 (↑(56:Nat):Int)*(gtL (bestsL l) (0+0)).2.2.2≤(2:Int) ^ (48:Nat) ∧
 R (hd Tryz.f29 0) { env:=[(0,.sl syS l),(3,.win true liS 1032768 0 (bestsL l).length),(4,.win true opS 14 0 (0:Nat)),(5,.int .i64 0)],blk:=[(14,.row 47 opS (List.replicate (0) opS.dflt)),(1032768,.row 91 liS (bestsL l))] }):=by kernel_rfl
theorem vc_chL (l:List SyT) (b:List LiT) (o:List OpT) (a:Nat) (Q:QT) (R:RT):sy tt G0 CCh Tryz.f29.ntmps Tryz.f29.results.toList Q (fun it S=>R it (keepS [0,3,4,5] [14,46,1032768] S)) 1000 (hd Tryz.f29 0) ⟨[(0,.sl syS l),(3,.win true liS 1032768 0 b.length),(4,.win true opS 14 0 o.length),(5,.int .i64 (a:Nat))],[(14,.row 47 opS o),(1032768,.row 91 liS b)]⟩ =
  (bc (decide ((a:Int)<(l.length:Int))) ((0:Int)≤(a:Int) ∧
 (a:Int)<(b.length:Int) ∧
 0+(a:Int).toNat<b.length ∧
 (0:Int)≤(a:Int) ∧
 (a:Int)<(b.length:Int) ∧
 0+(a:Int).toNat<b.length ∧
 (0:Int)≤(a:Int) ∧
 (a:Int)<IntKind.i64.wrap ((a:Int)+(gtL b (0+(a:Int).toNat)).2.1) ∧
 IntKind.i64.wrap ((a:Int)+(gtL b (0+(a:Int).toNat)).2.1)≤IntKind.i64.wrap ((a:Int)+(gtL b (0+(a:Int).toNat)).2.1) ∧
 IntKind.i64.wrap ((a:Int)+(gtL b (0+(a:Int).toNat)).2.1)≤(l.length:Int) ∧
 IntKind.i64.wrap ((a:Int)+(gtL b (0+(a:Int).toNat)).2.1)<(1099511627776:Int) ∧
 ctMk.pre ((gtL b (0+(a:Int).toNat)).1,Px.part l (some (a:Int)) (some (IntKind.i64.wrap ((a:Int)+(gtL b (0+(a:Int).toNat)).2.1))),()) ∧
 0+(1:Nat)≤([(mdK (gtL b (0+(a:Int).toNat)).1 (Px.part l (some (a:Int)) (some (IntKind.i64.wrap ((a:Int)+(gtL b (0+(a:Int).toNat)).2.1)))))]:List opS.D).length ∧
 o.length=o.length ∧
 (0:Nat)=(0:Nat) ∧
 o.length+(([(mdK (gtL b (0+(a:Int).toNat)).1 (Px.part l (some (a:Int)) (some (IntKind.i64.wrap ((a:Int)+(gtL b (0+(a:Int).toNat)).2.1)))))]:List opS.D)).length<(2:Nat) ^ (30:Nat) ∧
 (56:Nat)≤(2:Nat) ^ (10:Nat) ∧
 (0:Int)≤(a:Int) ∧
 (a:Int)<(b.length:Int) ∧
 0+(a:Int).toNat<b.length ∧
 R (hd Tryz.f29 0) { env:=[(0,.sl syS l),(3,.win true liS 1032768 0 b.length),(4,.win true opS 46 0 (o.length+(([(mdK (gtL b (0+(a:Int).toNat)).1 (Px.part l (some (a:Int)) (some (IntKind.i64.wrap ((a:Int)+(gtL b (0+(a:Int).toNat)).2.1)))))]:List opS.D)).length)),(5,.int .i64 (IntKind.i64.wrap ((a:Int)+(gtL b (0+(a:Int).toNat)).2.1)))],blk:=[(46,.row 47 opS (o++([(mdK (gtL b (0+(a:Int).toNat)).1 (Px.part l (some (a:Int)) (some (IntKind.i64.wrap ((a:Int)+(gtL b (0+(a:Int).toNat)).2.1)))))]:List opS.D))),(1032768,.row 91 liS b)] }) (Q [.win true opS 14 0 o.length] [(14,.row 47 opS o),(1032768,.row 91 liS b)])):=by kernel_rfl
theorem vc_chE (l:List SyT) (b:List LiT) (o:List OpT) (a:Nat) (Q:QT) (R:RT):sy tt G0 CCh Tryz.f29.ntmps Tryz.f29.results.toList Q (fun it S=>R it (keepS [0,3,4,5] [14,1032768] S)) 1000 (hd Tryz.f29 0) ⟨[(0,.sl syS l),(4,.sl opS o),(5,.int .i64 (a:Nat))],[]⟩ =
  (bc (decide ((a:Int)<(l.length:Int))) False (Q [.sl opS o] [])):=by kernel_rfl
end Go.Proofs.YtkiicobbnllpkaaGreatDoor
namespace Go.Proofs.YtkiicobbnllpkaaGreatDoor
open Go.Px Go.Ax
set_option maxRecDepth 100000
attribute [local irreducible] Go.Px.sy Go.Px.syE
def ctCh:Ctr:=⟨[.sl syS],fun x=>preBs x.1,fun x=>[.sl opS (chL x.1)],fun _=>[]⟩
theorem part_at (l:List SyT) (a n:Nat):Px.part l (some (a:Int)) (some ((a+n:Nat):Int))=(l.drop a).take n:=by
 simp only[Px.part,Int.toNat_natCast]
 first
  | (rw[List.drop_take];congr 1;omega)
  | (rw[List.take_drop];done)
  | simp[List.drop_take]
section
variable (l:List SyT) (hl:l.length≤65536)
include hl
theorem ch_end (o:List OpT) (a:Nat) (ha:a=l.length):GD 29 Tryz.f29 (OQ o) (hd Tryz.f29 0) ⟨[(0,.sl syS l),(3,.win true liS 1032768 0 (bestsL l).length),(4,.win true opS 14 0 o.length),(5,.int .i64 (a:Nat))],[(14,.row 47 opS o),(1032768,.row 91 liS (bestsL l))]⟩:=by
 have _:=hl
 subst ha
 refine Good.frz (i:=14) (e:=opS) (et:=47) (xs:=o) rfl (fun c hc=>?_) ?_
 ·have hc:c∈[0+o.length≤o.length]:=hc
  rw[List.mem_singleton] at hc;subst hc;omega
 ·have e:GD 29 Tryz.f29 (OQ o) (hd Tryz.f29 0) ⟨[(0,.sl syS l),(4,.sl opS (winL opS 0 o.length o)),(5,.int .i64 (l.length:Nat))],[]⟩:=by
   refine sy_goK cxCh (vc_chE l [] (winL opS 0 o.length o) l.length _ _) ?_
   rw[decide_eq_false (by omega),bc_f,winA]
  exact e.only ⟨rfl,rfl,rfl,trivial⟩ trivial
theorem ch_loop:∀ (f a:Nat) (o:List OpT),l.length-a≤f→a≤l.length→o.length≤a →
  GD 29 Tryz.f29 (OQ (o++chF f (l.drop a))) (hd Tryz.f29 0) ⟨[(0,.sl syS l),(3,.win true liS 1032768 0 (bestsL l).length),(4,.win true opS 14 0 o.length),(5,.int .i64 (a:Nat))],[(14,.row 47 opS o),(1032768,.row 91 liS (bestsL l))]⟩:=by
 intro f
 induction f with
 | zero=>
  intro a o hf ha ho
  rw[chF,List.append_nil]
  exact ch_end l hl o a (by omega)
 | succ f ih=>
  intro a o hf ha ho
  by_cases he:a=l.length
  ·rw[chF,if_pos (List.drop_eq_nil_of_le (by omega)),List.append_nil]
   exact ch_end l hl o a he
  ·have dl:(l.drop a).length=l.length-a:=List.length_drop ..
   have hne:l.drop a≠[]:=fun h=>by rw[h] at dl;simp at dl;omega
   obtain ⟨hb,n,n1,n2,n3,_⟩:=bst_ne (l:=l.drop a) (by omega) hne
   have hfit:=fitN_le (bst (l.drop a)).1 (l.drop a)
   have bl:(bestsL l).length=l.length+1:=bT_len l 0
   have nx:=ih (a+n) (o++[mdK (bst (l.drop a)).1 ((l.drop a).take n)]) (by omega) (by omega) (by rw[List.length_append,List.length_singleton];omega)
   have ec:chF (f+1) (l.drop a)=mdK (bst (l.drop a)).1 ((l.drop a).take n)::chF f (l.drop (a+n)):=by rw[chF,if_neg hne,n1,Int.toNat_natCast,List.drop_drop]
   rw[ec]
   rw[List.append_assoc,List.singleton_append] at nx
   refine sy_goK cxCh (vc_chL l (bestsL l) o a _ _) ?_
   have g1:gtL (bestsL l) (0+a)=bst (l.drop a):=by rw[Nat.zero_add];exact bT_get l 0 a ha (Nat.zero_le _)
   have w:IntKind.i64.wrap ((a:Int)+(n:Int))=((a+n:Nat):Int):=by rw[IntWalk.i64_in _ (by omega)];omega
   rw[decide_eq_true (show (a:Int)<(l.length:Int) by omega),bc_t,Int.toNat_natCast,g1,n1,w,part_at l a n]
   have tl:((l.drop a).take n).length=n:=by rw[List.length_take];omega
   refine ⟨by omega,by omega,by omega,by omega,by omega,by omega,by omega,by omega,by omega,by omega,by omega,(show preMk (bst (l.drop a)).1 ((l.drop a).take n) from ⟨hb,by omega,by omega⟩),Nat.le_refl 1,rfl,rfl,?_,by decide,by omega,by omega,by omega,?_⟩
   ·show o.length+1<2 ^ 30
    omega
   ·exact nx.onlyR [(14,46)] rfl ⟨rfl,rfl,by rw[List.length_append];rfl,rfl,trivial⟩ ⟨rfl,rfl,trivial⟩
theorem ch_run:GD 29 Tryz.f29 (QC ctCh (l,())) [.code (bodyOf Tryz.f29)] (entry [.sl syS] (l,())):=by
 refine sy_goK cxCh (vc_ch l _ _) ?_
 have bl:(bestsL l).length=l.length+1:=bT_len l 0
 have g0:gtL (bestsL l) (0+0)=bst l:=by
  have:=bT_get l 0 0 (Nat.zero_le _) (Nat.le_refl _)
  rw[List.drop_zero] at this
  exact this
 have hb:=bst_bo l hl
 unfold boL at hb
 rw[g0]
 refine ⟨hl,by omega,by omega,by omega,by omega,hb.2.2.1,?_,?_,?_⟩
 ·show (bst l).2.2.2<16777216
  omega
 ·show (56:Int)*(bst l).2.2.2≤281474976710656
  omega
 ·have h:=ch_loop l hl l.length 0 [] (by omega) (Nat.zero_le _) (Nat.zero_le _)
  rw[List.drop_zero,List.nil_append] at h
  exact (h.post fun rs blk hq=>QC.flat (by rw[hq];rfl) rfl (by rw[hq];rfl)).only ⟨rfl,rfl,rfl,rfl,trivial⟩ ⟨rfl,rfl,trivial⟩
end
theorem ch_held:Held Tryz.prog G0 29 ctCh:=Held.of cxCh (fn:=Tryz.f29) rfl rfl ⟨by decide,by decide⟩ fun ⟨l,_⟩ hp=>ch_run l hp
end Go.Proofs.YtkiicobbnllpkaaGreatDoor
namespace Go.Proofs.YtkiicobbnllpkaaGreatDoor
open Go.Px Go.Ax
set_option maxRecDepth 100000
def poV (l:List SyT) (m:Int):PaT × Int:=if 4096<(chL l).length then ((false,0,0,[]),2) else ((false,m,l.length,chL l),0)
def ctPo:Ctr:=⟨[.sl syS,iI],fun x=>preBs x.1,fun x=>[paV (poV x.1 x.2.1).1,.int .i64 (poV x.1 x.2.1).2],fun _=>[]⟩
def cpV (l:List SyT) (m:Int):PaT × Int:=if (ofV l m).2=60 then ((false,0,0,[]),60) else poV l m
def ctCp:Ctr:=⟨[.sl syS,iI],fun x=>List.length x.1<16777216,fun x=>[paV (cpV x.1 x.2.1).1,.int .i64 (cpV x.1 x.2.1).2],fun _=>[]⟩
def foV (p:PaT):PaT × Int:=if (symV p).2=0 then (if (poV (symV p).1 p.2.1).2=0 then ((p.1,(poV (symV p).1 p.2.1).1.2),0) else ((false,0,0,[]),(poV (symV p).1 p.2.1).2)) else ((false,0,0,[]),(symV p).2)
def ctFo:Ctr:=⟨[paS],fun _=>True,fun x=>[paV (foV x.1).1,.int .i64 (foV x.1).2],fun _=>[]⟩
def saV (p q:PaT):Bool:=decide (p.1=q.1)&&(decide (p.2.1=q.2.1)&&(decide ((symV p).2=0)&&(decide ((symV q).2=0)&&decide ((symV p).1=(symV q).1))))
def ctSa:Ctr:=⟨[paS,paS],fun _=>True,fun x=>[.bool (saV x.1 x.2.1)],fun _=>[]⟩
def ctEq:Ctr:=⟨[.sl syS,.sl syS],fun x=>List.length x.1<16777216,fun x=>[.bool (decide ((show List SyT from x.1)=x.2.1))],fun _=>[]⟩
def CPo:CV:=[(29,.inl ctCh)]
theorem cxPo:CxOK Tryz.prog tt G0 CPo:=cx0.cons ch_held (fn:=Tryz.f29) rfl rfl rfl
set_option maxRecDepth 100000
theorem vc_po (l:List SyT) (m:Int) (Q:QT) (R:RT):sy tt G0 CPo Tryz.f19.ntmps Tryz.f19.results.toList Q R 1000 [.code (bodyOf Tryz.f19)] (entry [.sl syS,iI] (l,m,())) =
  (ctCh.pre (l,()) ∧
 bc (decide ((4096:Int)<(↑(chL l).length:Int))) (Q [.agg [.bool false,.int .i64 0,.int .i64 0,.nils],.int .i64 2] [(4,.var [.bool false,.int .i64 0,.int .i64 0,.nils])]) (Q [.agg [.bool false,.int .i64 m,.int .i64 (l.length:Int),.sl opS (chL l)],.int .i64 0] [(4,.var [.bool false,.int .i64 m,.int .i64 (l.length:Int),.sl opS (chL l)])])):=by kernel_rfl
theorem vc_cp (l:List SyT) (m:Int) (Q:QT) (R:RT):sy tt G0 [(25,.inl ctOfA),(19,.inl ctPo)] Tryz.f15.ntmps Tryz.f15.results.toList Q R 1000 [.code (bodyOf Tryz.f15)] (entry [.sl syS,iI] (l,m,())) =
  (ctOfA.pre (l,m,()) ∧
 bc (decide ((ofV l m).2=(60:Int))) (Q [.agg [.bool false,.int .i64 0,.int .i64 0,.nils],.int .i64 (ofV l m).2] [(4,.var [.bool false,.int .i64 0,.int .i64 0,.nils]),(6,.var [.bool (ofV l m).1.1,.int .i64 (ofV l m).1.2.1,.int .i64 (ofV l m).1.2.2.1,.sl opS (ofV l m).1.2.2.2])]) (ctPo.pre (l,m,()) ∧
 Q [.agg [.bool (poV l m).1.1,.int .i64 (poV l m).1.2.1,.int .i64 (poV l m).1.2.2.1,.sl opS (poV l m).1.2.2.2],.int .i64 (poV l m).2] [(4,.var [.bool (poV l m).1.1,.int .i64 (poV l m).1.2.1,.int .i64 (poV l m).1.2.2.1,.sl opS (poV l m).1.2.2.2]),(6,.var [.bool (ofV l m).1.1,.int .i64 (ofV l m).1.2.1,.int .i64 (ofV l m).1.2.2.1,.sl opS (ofV l m).1.2.2.2])])):=by kernel_rfl
theorem vc_fo (li:Bool) (m o:Int) (l:List OpT) (Q:QT) (R:RT):sy tt G0 [(18,.inl ctSym),(19,.inl ctPo)] Tryz.f6.ntmps Tryz.f6.results.toList Q R 1000 [.code (bodyOf Tryz.f6)] (entry [paS] ((li,m,o,l),())) =
  (ctSym.pre ((li,m,o,l),()) ∧
 bc (decide ((symV (li,m,o,l)).2≠(0:Int))) (Q [.agg [.bool false,.int .i64 0,.int .i64 0,.nils],.int .i64 (symV (li,m,o,l)).2] [(1,.var [.bool li,.int .i64 m,.int .i64 o,.sl opS l]),(2,.var [.bool false,.int .i64 0,.int .i64 0,.nils]),(1036864,.row 43 syS (symV (li,m,o,l)).1)]) (0+(symV (li,m,o,l)).1.length≤(symV (li,m,o,l)).1.length ∧
 0+(symV (li,m,o,l)).1.length≤(symV (li,m,o,l)).1.length ∧
 0+(symV (li,m,o,l)).1.length≤(symV (li,m,o,l)).1.length ∧
 0+(symV (li,m,o,l)).1.length≤(symV (li,m,o,l)).1.length ∧
 0+(symV (li,m,o,l)).1.length≤(symV (li,m,o,l)).1.length ∧
 ctPo.pre (winL syS 0 (symV (li,m,o,l)).1.length (symV (li,m,o,l)).1,m,()) ∧
 bc (decide ((poV (winL syS 0 (symV (li,m,o,l)).1.length (symV (li,m,o,l)).1) m).2≠(0:Int))) (Q [.agg [.bool false,.int .i64 0,.int .i64 0,.nils],.int .i64 (poV (winL syS 0 (symV (li,m,o,l)).1.length (symV (li,m,o,l)).1) m).2] [(1,.var [.bool li,.int .i64 m,.int .i64 o,.sl opS l]),(2,.var [.bool false,.int .i64 0,.int .i64 0,.nils]),(6,.var [.bool (poV (winL syS 0 (symV (li,m,o,l)).1.length (symV (li,m,o,l)).1) m).1.1,.int .i64 (poV (winL syS 0 (symV (li,m,o,l)).1.length (symV (li,m,o,l)).1) m).1.2.1,.int .i64 (poV (winL syS 0 (symV (li,m,o,l)).1.length (symV (li,m,o,l)).1) m).1.2.2.1,.sl opS (poV (winL syS 0 (symV (li,m,o,l)).1.length (symV (li,m,o,l)).1) m).1.2.2.2])]) (Q [.agg [.bool li,.int .i64 (poV (winL syS 0 (symV (li,m,o,l)).1.length (symV (li,m,o,l)).1) m).1.2.1,.int .i64 (poV (winL syS 0 (symV (li,m,o,l)).1.length (symV (li,m,o,l)).1) m).1.2.2.1,.sl opS (poV (winL syS 0 (symV (li,m,o,l)).1.length (symV (li,m,o,l)).1) m).1.2.2.2],.int .i64 0] [(1,.var [.bool li,.int .i64 m,.int .i64 o,.sl opS l]),(2,.var [.bool li,.int .i64 (poV (winL syS 0 (symV (li,m,o,l)).1.length (symV (li,m,o,l)).1) m).1.2.1,.int .i64 (poV (winL syS 0 (symV (li,m,o,l)).1.length (symV (li,m,o,l)).1) m).1.2.2.1,.sl opS (poV (winL syS 0 (symV (li,m,o,l)).1.length (symV (li,m,o,l)).1) m).1.2.2.2]),(6,.var [.bool li,.int .i64 (poV (winL syS 0 (symV (li,m,o,l)).1.length (symV (li,m,o,l)).1) m).1.2.1,.int .i64 (poV (winL syS 0 (symV (li,m,o,l)).1.length (symV (li,m,o,l)).1) m).1.2.2.1,.sl opS (poV (winL syS 0 (symV (li,m,o,l)).1.length (symV (li,m,o,l)).1) m).1.2.2.2])]))):=by kernel_rfl
def mem_sa_m0 (li li2:Bool) (m o m2 o2:Int) (l l2:List OpT):List (Nat × LB):=[(2,.var [.bool li,.int .i64 m,.int .i64 o,.sl opS l]),(3,.var [.bool li2,.int .i64 m2,.int .i64 o2,.sl opS l2]),(1090112,.row 43 syS (symV (li,m,o,l)).1),(1118784,.row 43 syS (symV (li2,m2,o2,l2)).1)]
def mem_sa_m1 (li li2:Bool) (m o m2 o2:Int) (l l2:List OpT):List (Nat × LB):=[(2,.var [.bool li,.int .i64 m,.int .i64 o,.sl opS l]),(3,.var [.bool li2,.int .i64 m2,.int .i64 o2,.sl opS l2])]
theorem vc_sa (li li2:Bool) (m o m2 o2:Int) (l l2:List OpT) (Q:QT) (R:RT):sy tt G0 [(18,.inl ctSym),(21,.inl ctEq)] Tryz.f8.ntmps Tryz.f8.results.toList Q R 1000 [.code (bodyOf Tryz.f8)] (entry [paS,paS] ((li,m,o,l),(li2,m2,o2,l2),())) =
  (bc (!li == li2) (true=true ∧
 Q [.bool false] (mem_sa_m1 li li2 m o m2 o2 l l2)) (bc (bif false then true else decide (m≠m2)) (Q [.bool false] (mem_sa_m1 li li2 m o m2 o2 l l2)) (ctSym.pre ((li,m,o,l),()) ∧
 bc (decide ((symV (li,m,o,l)).2≠(0:Int))) (Q [.bool false] [(2,.var [.bool li,.int .i64 m,.int .i64 o,.sl opS l]),(3,.var [.bool li2,.int .i64 m2,.int .i64 o2,.sl opS l2]),(1090112,.row 43 syS (symV (li,m,o,l)).1)]) (ctSym.pre ((li2,m2,o2,l2),()) ∧
 bc (decide ((symV (li2,m2,o2,l2)).2=(0:Int))) (0+(symV (li,m,o,l)).1.length≤(symV (li,m,o,l)).1.length ∧
 0+(symV (li2,m2,o2,l2)).1.length≤(symV (li2,m2,o2,l2)).1.length ∧
 ctEq.pre (winL syS 0 (symV (li,m,o,l)).1.length (symV (li,m,o,l)).1,winL syS 0 (symV (li2,m2,o2,l2)).1.length (symV (li2,m2,o2,l2)).1,()) ∧
 Q [.bool (decide ((have this:=winL syS 0 (symV (li,m,o,l)).1.length (symV (li,m,o,l)).1;this)=winL syS 0 (symV (li2,m2,o2,l2)).1.length (symV (li2,m2,o2,l2)).1))] (mem_sa_m0 li li2 m o m2 o2 l l2)) (false=false ∧
 Q [.bool false] (mem_sa_m0 li li2 m o m2 o2 l l2)))))):=by kernel_rfl
theorem vc_eq (x y:List SyT) (Q:QT) (R:RT):sy tt G0 [] Tryz.f21.ntmps Tryz.f21.results.toList Q (fun it S=>R it (keepS [0,1,11,12,13] [] S)) 1000 [.code (bodyOf Tryz.f21)] (entry [.sl syS,.sl syS] (x,y,())) =
  (bc (decide ((x.length:Int)≠(y.length:Int))) (Q [.bool false] []) (R (hd Tryz.f21 0) { env:=[(0,.sl syS x),(1,.sl syS y),(11,.sl syS x),(12,.int .i64 (x.length:Int)),(13,.int .i64 0)],blk:=[] })):=by kernel_rfl
theorem vc_eqL (x y:List SyT) (i:Nat) (Q:QT) (R:RT):sy tt G0 [] Tryz.f21.ntmps Tryz.f21.results.toList Q (fun it S=>R it (keepS [0,1,11,12,13] [] S)) 1000 (hd Tryz.f21 0) ⟨[(0,.sl syS x),(1,.sl syS y),(11,.sl syS x),(12,.int .i64 x.length),(13,.int .i64 (i:Nat))],[]⟩ =
  (bc (decide ((i:Int)<(x.length:Int))) ((0:Int)≤(i:Int) ∧
 (i:Int)<(x.length:Int) ∧
 (0:Int)≤(i:Int) ∧
 (i:Int)<(y.length:Int) ∧
 bc (!decide ([Cl.cb (gtY x (i:Int).toNat).1,Cl.ci IntKind.i64 (gtY x (i:Int).toNat).2.1,Cl.ci IntKind.u8 (gtY x (i:Int).toNat).2.2]=[Cl.cb (gtY y (i:Int).toNat).1,Cl.ci IntKind.i64 (gtY y (i:Int).toNat).2.1,Cl.ci IntKind.u8 (gtY y (i:Int).toNat).2.2])) (Q [.bool false] []) (R (hd Tryz.f21 0) { env:=[(0,.sl syS x),(1,.sl syS y),(11,.sl syS x),(12,.int .i64 (x.length:Int)),(13,.int .i64 (IntKind.i64.wrap ((i:Int)+(1:Int))))],blk:=[] })) (Q [.bool true] [])):=by kernel_rfl
end Go.Proofs.YtkiicobbnllpkaaGreatDoor
namespace Go.Proofs.YtkiicobbnllpkaaGreatDoor
open Go.Px Go.Ax
set_option maxRecDepth 100000
attribute [local irreducible] Go.Px.sy Go.Px.syE
theorem zero_mt (z:Int):MtL (fun _=>none) [paV (false,0,0,[]),.int .i64 z] [.agg [.bool false,.int .i64 0,.int .i64 0,.nils],.int .i64 z]:=
 ⟨_,_,rfl,⟨_,rfl,_,_,rfl,rfl,_,_,rfl,rfl,_,_,rfl,rfl,_,_,rfl,.inr ⟨rfl,rfl⟩,rfl⟩,_,_,rfl,rfl,rfl⟩
theorem po_run (l:List SyT) (m:Int) (hp:l.length≤65536) (R:List Item→PS→Prop):sy tt G0 CPo Tryz.f19.ntmps Tryz.f19.results.toList (QC ctPo (l,m,())) R 1000 [.code (bodyOf Tryz.f19)] (entry [.sl syS,iI] (l,m,())):=by
 refine (vc_po l m _ _).mpr ⟨hp,bc_of (fun h=>?_) (fun h=>?_)⟩
 ·have h:(4096:Int)<((chL l).length:Int):=of_decide_eq_true h
  have hv:poV l m=((false,0,0,[]),2):=by unfold poV;rw[if_pos (by omega)]
  exact QC.mt (by show MtL _ [paV (poV l m).1,.int .i64 (poV l m).2] _;rw[hv];exact zero_mt _) rfl
 ·have h:¬ (4096:Int)<((chL l).length:Int):=of_decide_eq_false h
  have hv:poV l m=(((false,m,(l.length:Int),chL l):PaT),(0:Int)):=by unfold poV;rw[if_neg (by omega)]
  exact QC.flat (by show [paV (poV l m).1,.int .i64 (poV l m).2]=_;rw[hv];rfl) rfl rfl
theorem po_held:Held Tryz.prog G0 19 ctPo:=Held.run cxPo (fn:=Tryz.f19) rfl rfl ⟨by decide,by decide⟩ fun ⟨l,m,_⟩ hp=>po_run l m hp _
theorem ofV_60 {l:List SyT} {m:Int} (h:(ofV l m).2≠60):szB m=true∧szB l.length=true∧l.all (sOK m)=true:=by
 unfold ofV at h
 split at h
 ·assumption
 ·exact absurd rfl h
theorem szB_le {n:Int} (h:szB n=true):0≤n∧n≤65536:=by simpa [szB] using h
theorem cxCp:CxOK Tryz.prog tt G0 [(25,.inl ctOfA),(19,.inl ctPo)]:=(cx0.cons po_held (fn:=Tryz.f19) rfl rfl rfl).cons ofA_held (fn:=Tryz.f25) rfl rfl rfl
theorem cp_run (l:List SyT) (m:Int) (hp:l.length<16777216) (R:List Item→PS→Prop):sy tt G0 [(25,.inl ctOfA),(19,.inl ctPo)] Tryz.f15.ntmps Tryz.f15.results.toList (QC ctCp (l,m,())) R 1000 [.code (bodyOf Tryz.f15)] (entry [.sl syS,iI] (l,m,())):=by
 refine (vc_cp l m _ _).mpr ⟨hp,bc_of (fun h=>?_) (fun h=>?_)⟩
 ·have h:(ofV l m).2=60:=of_decide_eq_true h
  have hv:cpV l m=((false,0,0,[]),60):=by unfold cpV;rw[if_pos h]
  rw[h]
  exact QC.mt (by show MtL _ [paV (cpV l m).1,.int .i64 (cpV l m).2] _;rw[hv];exact zero_mt _) rfl
 ·have h:¬ (ofV l m).2=60:=of_decide_eq_false h
  have hz:=szB_le (ofV_60 h).2.1
  have hv:cpV l m=poV l m:=by unfold cpV;rw[if_neg h]
  exact ⟨(show l.length≤65536 by omega),QC.flat (by show [paV (cpV l m).1,.int .i64 (cpV l m).2]=_;rw[hv];rfl) rfl rfl⟩
theorem cp_held:Held Tryz.prog G0 15 ctCp:=Held.run cxCp (fn:=Tryz.f15) rfl rfl ⟨by decide,by decide⟩ fun ⟨l,m,_⟩ hp=>cp_run l m hp _
theorem symV_le (p:PaT):(symV p).1.length≤65536:=by
 unfold symV
 split
 ·rename_i h
  obtain ⟨h1,h2,h3,_⟩:=chkV_ok h
  have:=symF_len h1
  show (symF p.2.2.2).length≤65536
  omega
 ·exact Nat.zero_le _
theorem cxFo:CxOK Tryz.prog tt G0 [(18,.inl ctSym),(19,.inl ctPo)]:=(cx0.cons po_held (fn:=Tryz.f19) rfl rfl rfl).cons sym_held (fn:=Tryz.f18) rfl rfl rfl
theorem fo_run (li:Bool) (m o:Int) (l:List OpT) (R:List Item→PS→Prop):sy tt G0 [(18,.inl ctSym),(19,.inl ctPo)] Tryz.f6.ntmps Tryz.f6.results.toList (QC ctFo ((li,m,o,l),())) R 1000 [.code (bodyOf Tryz.f6)] (entry [paS] ((li,m,o,l),())):=by
 refine (vc_fo li m o l _ _).mpr ⟨trivial,bc_of (fun h=>?_) (fun h=>?_)⟩
 ·have h:(symV (li,m,o,l)).2≠0:=of_decide_eq_true h
  have hv:foV (li,m,o,l)=((false,0,0,[]),(symV (li,m,o,l)).2):=by unfold foV;rw[if_neg h]
  exact QC.mt (by show MtL _ [paV (foV (li,m,o,l)).1,.int .i64 (foV (li,m,o,l)).2] _;rw[hv];exact zero_mt _) rfl
 ·have h:¬ (symV (li,m,o,l)).2≠0:=of_decide_eq_false h
  have h:(symV (li,m,o,l)).2=0:=by omega
  rw[winA]
  refine ⟨by omega,by omega,by omega,by omega,by omega,symV_le _,bc_of (fun h2=>?_) (fun h2=>?_)⟩
  ·have h2:(poV (symV (li,m,o,l)).1 m).2≠0:=of_decide_eq_true h2
   have hv:foV (li,m,o,l)=((false,0,0,[]),(poV (symV (li,m,o,l)).1 m).2):=by unfold foV;rw[if_pos h,if_neg h2]
   exact QC.mt (by show MtL _ [paV (foV (li,m,o,l)).1,.int .i64 (foV (li,m,o,l)).2] _;rw[hv];exact zero_mt _) rfl
  ·have h2:¬ (poV (symV (li,m,o,l)).1 m).2≠0:=of_decide_eq_false h2
   have h2:(poV (symV (li,m,o,l)).1 m).2=0:=by omega
   have hv:foV (li,m,o,l)=((li,(poV (symV (li,m,o,l)).1 m).1.2),0):=by unfold foV;rw[if_pos h,if_pos h2]
   exact QC.flat (by show [paV (foV (li,m,o,l)).1,.int .i64 (foV (li,m,o,l)).2]=_;rw[hv];rfl) rfl rfl
theorem fo_held:Held Tryz.prog G0 6 ctFo:=Held.run cxFo (fn:=Tryz.f6) rfl rfl ⟨by decide,by decide⟩ fun ⟨⟨li,m,o,l⟩,_⟩ _=>fo_run li m o l _
theorem eq_loop (x y:List SyT) (hl:x.length<16777216) (he:x.length=y.length):∀ (k i:Nat),x.length-i=k→i≤x.length→x.take i=y.take i →
  GD 21 Tryz.f21 (fun rs _=>rs=[.bool (decide (x=y))]) (hd Tryz.f21 0) ⟨[(0,.sl syS x),(1,.sl syS y),(11,.sl syS x),(12,.int .i64 x.length),(13,.int .i64 (i:Nat))],[]⟩:=by
 intro k
 induction k with
 | zero=>
  intro i hk hi ht
  refine sy_goK cx0 (vc_eqL x y i _ _) ?_
  rw[decide_eq_false (show ¬ (i:Int)<(x.length:Int) by omega),bc_f]
  rw[List.take_of_length_le (by omega),List.take_of_length_le (by omega)] at ht
  show [SV.bool true]=_
  rw[decide_eq_true ht]
 | succ k ih=>
  intro i hk hi ht
  have hx:i<x.length:=by omega
  have hy:i<y.length:=by omega
  refine sy_goK cx0 (vc_eqL x y i _ _) ?_
  rw[decide_eq_true (show (i:Int)<(x.length:Int) by omega),bc_t,Int.toNat_natCast,gtY_at hx,gtY_at hy,IntWalk.i64_in ((i:Int)+1) (by omega)]
  refine ⟨by omega,by omega,by omega,by omega,bc_of (fun h=>?_) (fun h=>?_)⟩
  ·have h:¬ x[i]=y[i]:=fun q=>by
    rw[decide_eq_true (sy_eq.2 q)] at h;cases h
   show [SV.bool false]=_
   rw[decide_eq_false (fun q=>h (by simp only[q]))]
  ·have h:x[i]=y[i]:=by
    rw[Bool.not_eq_false'] at h
    exact sy_eq.1 (of_decide_eq_true h)
   exact (ih (i+1) (by omega) (by omega) (by rw[List.take_succ_eq_append_getElem hx,List.take_succ_eq_append_getElem hy,ht,h])).only ⟨rfl,rfl,rfl,rfl,rfl,trivial⟩ trivial
theorem eq_run (x y:List SyT) (hl:x.length<16777216):GD 21 Tryz.f21 (QC ctEq (x,y,())) [.code (bodyOf Tryz.f21)] (entry [.sl syS,.sl syS] (x,y,())):=by
 refine sy_goK cx0 (vc_eq x y _ _) (bc_of (fun h=>?_) (fun h=>?_))
 ·have h:(x.length:Int)≠(y.length:Int):=of_decide_eq_true h
  refine QC.flat ?_ rfl rfl
  show [SV.bool (decide (x=y))]=_
  rw[decide_eq_false (fun q=>h (by rw[q]))]
 ·have h:¬ (x.length:Int)≠(y.length:Int):=of_decide_eq_false h
  exact ((eq_loop x y hl (by omega) _ 0 rfl (Nat.zero_le _) rfl).post fun rs blk hq=>QC.flat (by rw[hq];rfl) rfl (by rw[hq];rfl)).only ⟨rfl,rfl,rfl,rfl,rfl,trivial⟩ trivial
theorem eq_held:Held Tryz.prog G0 21 ctEq:=Held.of cx0 (fn:=Tryz.f21) rfl rfl ⟨by decide,by decide⟩ fun ⟨x,y,_⟩ hp=>eq_run x y hp
theorem cxSa:CxOK Tryz.prog tt G0 [(18,.inl ctSym),(21,.inl ctEq)]:=(cx0.cons eq_held (fn:=Tryz.f21) rfl rfl rfl).cons sym_held (fn:=Tryz.f18) rfl rfl rfl
theorem sa_run (li li2:Bool) (m o m2 o2:Int) (l l2:List OpT) (R:List Item→PS→Prop):sy tt G0 [(18,.inl ctSym),(21,.inl ctEq)] Tryz.f8.ntmps Tryz.f8.results.toList (QC ctSa ((li,m,o,l),(li2,m2,o2,l2),())) R 1000 [.code (bodyOf Tryz.f8)] (entry [paS,paS] ((li,m,o,l),(li2,m2,o2,l2),())):=by
 have out:∀ b,saV (li,m,o,l) (li2,m2,o2,l2)=b→ctSa.out ((li,m,o,l),(li2,m2,o2,l2),())=[SV.bool b]:=fun b e=>congrArg (fun b=>[SV.bool b]) e
 refine (vc_sa li li2 m o m2 o2 l l2 _ _).mpr (bc_of (fun h=>⟨rfl,?_⟩) (fun h=>bc_of (fun h2=>?_) (fun h2=>⟨trivial,bc_of (fun h3=>?_) (fun h3=>⟨trivial,bc_of (fun h4=>?_) (fun h4=>?_)⟩)⟩)))
 ·have h:¬ li=li2:=by simpa using h
  exact QC.flat (out _ (by unfold saV;rw[decide_eq_false h];rfl)) rfl rfl
 all_goals have h:li=li2:=by simpa using h
 ·have h2:decide (m≠m2)=true:=h2
  have h2:¬ m=m2:=of_decide_eq_true h2
  exact QC.flat (out _ (by unfold saV;rw[decide_eq_true (show (li,m,o,l).1=(li2,m2,o2,l2).1 from h),decide_eq_false (show ¬ (li,m,o,l).2.1=(li2,m2,o2,l2).2.1 from h2)];rfl)) rfl rfl
 all_goals
  have h2:decide (m≠m2)=false:=h2
  have h2:¬ m≠m2:=of_decide_eq_false h2
  have h2:m=m2:=by omega
  have e1:decide ((li,m,o,l).1=(li2,m2,o2,l2).1)=true:=decide_eq_true h
  have e2:decide ((li,m,o,l).2.1=(li2,m2,o2,l2).2.1)=true:=decide_eq_true h2
 ·have h3:(symV (li,m,o,l)).2≠0:=of_decide_eq_true h3
  exact QC.flat (out _ (by unfold saV;rw[e1,e2,decide_eq_false h3];rfl)) rfl rfl
 all_goals
  have h3:¬ (symV (li,m,o,l)).2≠0:=of_decide_eq_false h3
  have h3:(symV (li,m,o,l)).2=0:=by omega
 ·have h4:(symV (li2,m2,o2,l2)).2=0:=of_decide_eq_true h4
  rw[winA,winA]
  refine ⟨by omega,by omega,symV_len _,?_⟩
  exact QC.flat (out _ (by unfold saV;rw[e1,e2,decide_eq_true h3,decide_eq_true h4];rfl)) rfl rfl
 ·have h4:¬ (symV (li2,m2,o2,l2)).2=0:=of_decide_eq_false h4
  refine ⟨rfl,?_⟩
  exact QC.flat (out _ (by unfold saV;rw[e1,e2,decide_eq_true h3,decide_eq_false h4];rfl)) rfl rfl
theorem sa_held:Held Tryz.prog G0 8 ctSa:=Held.run cxSa (fn:=Tryz.f8) rfl rfl ⟨by decide,by decide⟩ fun ⟨⟨li,m,o,l⟩,⟨li2,m2,o2,l2⟩,_⟩ _=>sa_run li li2 m o m2 o2 l l2 _
end Go.Proofs.YtkiicobbnllpkaaGreatDoor
namespace Go.Proofs.YtkiicobbnllpkaaGreatDoor
open Go.Px Go.Ax
set_option maxRecDepth 100000
def ctOld:Ctr:=⟨[iI,uB],fun _=>True,fun x=>[.agg [.bool true,.int .i64 x.1,.int .u8 x.2.1]],fun _=>[]⟩
def litL (x:List Int):List SyT:=x.map fun b=>(false,0,b)
def ctLit:Ctr:=⟨[.sl uB],fun x=>List.length x.1<1000000,fun x=>[.win true syS 0 0 (litL x.1).length],fun x=>[.row 43 syS (litL x.1)]⟩
def fmB (l:List SyT) (o:List OpT):Bool:=decide ((cpV l 4).2=0)&&smB (cpV l 4).1 (false,4,l.length,o)
def ctFm:Ctr:=⟨[.sl syS,.sl opS],fun x=>List.length x.1<1000000,fun x=>[.bool (fmB x.1 x.2.1)],fun _=>[]⟩
def CFm:CV:=[(15,.inl ctCp),(16,.inl ctSm)]
theorem cxFm:CxOK Tryz.prog tt G0 CFm:=(cx0.cons sm_held (fn:=Tryz.f16) rfl rfl rfl).cons cp_held (fn:=Tryz.f15) rfl rfl rfl
set_option maxRecDepth 100000
theorem vc_old (a b:Int) (Q:QT) (R:RT):sy tt G0 [] Tryz.f13.ntmps Tryz.f13.results.toList Q R 1000 [.code (bodyOf Tryz.f13)] (entry [iI,uB] (a,b,())) =
  (Q [.agg [.bool true,.int .i64 a,.int .u8 b]] [(4,.var [.bool true,.int .i64 a,.int .u8 b])]):=by kernel_rfl
theorem vc_lit (x:List Int) (Q:QT) (R:RT):sy tt G0 [] Tryz.f14.ntmps Tryz.f14.results.toList Q (fun it S=>R it (keepS [0,3,4] [5,3] S)) 1000 [.code (bodyOf Tryz.f14)] (entry [.sl uB] (x,())) =
  (R (hd Tryz.f14 0) { env:=[(0,.sl uB x),(3,.win true syS 5 0 (0:Nat)),(4,.int .i64 0)],blk:=[(5,.row 43 syS (List.replicate (0:Nat) syS.dflt))] }):=by kernel_rfl
theorem vc_litL (x:List Int) (o:List SyT) (i:Nat) (Q:QT) (R:RT):sy tt G0 [] Tryz.f14.ntmps Tryz.f14.results.toList Q (fun it S=>R it (keepS [0,3,4] [5,19] S)) 1000 (hd Tryz.f14 0) ⟨[(0,.sl uB x),(3,.win true syS 5 0 o.length),(4,.int .i64 (i:Nat))],[(5,.row 43 syS o)]⟩ =
  (bc (decide ((i:Int)<(x.length:Int))) ((0:Int)≤(i:Int) ∧
 (i:Int)<(x.length:Int) ∧
 0+(1:Nat)≤([(false,(0:Int),gtB x (i:Int).toNat)]:List syS.D).length ∧
 o.length=o.length ∧
 (0:Nat)=(0:Nat) ∧
 o.length+(([(false,(0:Int),gtB x (i:Int).toNat)]:List syS.D)).length<(2:Nat) ^ (30:Nat) ∧
 (24:Nat)≤(2:Nat) ^ (10:Nat) ∧
 R (hd Tryz.f14 0) { env:=[(0,.sl uB x),(3,.win true syS 19 0 (o.length+(([(false,(0:Int),gtB x (i:Int).toNat)]:List syS.D)).length)),(4,.int .i64 (IntKind.i64.wrap ((i:Int)+(1:Int))))],blk:=[(19,.row 43 syS (o++([(false,(0:Int),gtB x (i:Int).toNat)]:List syS.D)))] }) (Q [.win true syS 5 0 o.length] [(5,.row 43 syS o)])):=by kernel_rfl
def mem_fm_m0 (l:List SyT):List (Nat × LB):=[(5,.var [.bool (cpV l (4:Int)).1.1,.int .i64 (cpV l (4:Int)).1.2.1,.int .i64 (cpV l (4:Int)).1.2.2.1,.sl opS (cpV l (4:Int)).1.2.2.2])]
theorem vc_fm (l:List SyT) (o:List OpT) (Q:QT) (R:RT):sy tt G0 CFm Tryz.f12.ntmps Tryz.f12.results.toList Q R 1000 [.code (bodyOf Tryz.f12)] (entry [.sl syS,.sl opS] (l,o,())) =
  (ctCp.pre (l,(4:Int),()) ∧
 bc (decide ((cpV l (4:Int)).2=(0:Int))) (ctSm.pre (((cpV l (4:Int)).1),(false,(4:Int),(l.length:Int),o),()) ∧
 Q [.bool (bif true then smB ((cpV l (4:Int)).1) (false,(4:Int),(l.length:Int),o) else false)] (mem_fm_m0 l)) (false=false ∧
 Q [.bool false] (mem_fm_m0 l))):=by kernel_rfl
end Go.Proofs.YtkiicobbnllpkaaGreatDoor
namespace Go.Proofs.YtkiicobbnllpkaaGreatDoor
open Go.Px Go.Ax
set_option maxRecDepth 100000
attribute [local irreducible] Go.Px.sy Go.Px.syE
theorem old_held:Held Tryz.prog G0 13 ctOld:=Held.run cx0 (fn:=Tryz.f13) rfl rfl ⟨by decide,by decide⟩ fun ⟨a,b,_⟩ _=>(vc_old a b _ _).mpr (QC.flat rfl rfl rfl)
theorem lit_loop (x:List Int) (hx:x.length<1000000):∀ (c i:Nat),x.length-i=c→i≤x.length →
  GD 14 Tryz.f14 (QC ctLit (x,())) (hd Tryz.f14 0) ⟨[(0,.sl uB x),(3,.win true syS 5 0 (litL (x.take i)).length),(4,.int .i64 (i:Nat))],[(5,.row 43 syS (litL (x.take i)))]⟩:=by
 intro c
 induction c with
 | zero=>
  intro i hc hi
  refine sy_goK cx0 (vc_litL x (litL (x.take i)) i _ _) ?_
  rw[decide_eq_false (by omega),bc_f,List.take_of_length_le (by omega)]
  exact qc_row (e:=syS) (et:=43) (a:=5) (xs:=litL x) rfl rfl rfl rfl rfl
 | succ c ih=>
  intro i hc hi
  have hil:i<x.length:=by omega
  have nx:=ih (i+1) (by omega) (by omega)
  have e:litL (x.take (i+1))=litL (x.take i)++[(false,0,x[i])]:=by unfold litL;rw[List.take_succ_eq_append_getElem hil,List.map_append];rfl
  have ll:(litL (x.take i)).length=i:=by simp[litL];omega
  rw[e] at nx
  refine sy_goK cx0 (vc_litL x (litL (x.take i)) i _ _) ?_
  rw[decide_eq_true (show (i:Int)<(x.length:Int) by omega),bc_t,Int.toNat_natCast,gtB_at hil,IntWalk.i64_in ((i:Int)+1) (by omega)]
  refine ⟨by omega,by omega,Nat.le_refl 1,rfl,rfl,?_,by decide,?_⟩
  ·show (litL (x.take i)).length+1<2 ^ 30
   omega
  ·exact nx.onlyR [(5,19)] rfl ⟨rfl,by rw[List.length_append];rfl,rfl,trivial⟩ ⟨rfl,trivial⟩
theorem lit_held:Held Tryz.prog G0 14 ctLit:=Held.of cx0 (fn:=Tryz.f14) rfl rfl ⟨by decide,by decide⟩ fun ⟨x,_⟩ hp=>
 sy_goK cx0 (vc_lit x _ _) ((lit_loop x hp _ 0 rfl (Nat.zero_le _)).only ⟨rfl,rfl,rfl,trivial⟩ ⟨rfl,trivial⟩)
theorem poV_ops (l:List SyT) (m:Int):(poV l m).1.2.2.2.length≤4096:=by
 unfold poV
 split
 ·exact Nat.zero_le _
 ·show (chL l).length≤4096
  omega
theorem cpV_ops (l:List SyT) (m:Int):(cpV l m).1.2.2.2.length≤4096:=by
 unfold cpV
 split
 ·exact Nat.zero_le _
 ·exact poV_ops l m
theorem fm_run (l:List SyT) (o:List OpT) (hl:l.length<1000000) (R:List Item→PS→Prop):sy tt G0 CFm Tryz.f12.ntmps Tryz.f12.results.toList (QC ctFm (l,o,())) R 1000 [.code (bodyOf Tryz.f12)] (entry [.sl syS,.sl opS] (l,o,())):=by
 have out:∀ b,fmB l o=b→ctFm.out (l,o,())=[SV.bool b]:=fun b e=>congrArg (fun b=>[SV.bool b]) e
 refine (vc_fm l o _ _).mpr ⟨(show l.length<16777216 by omega),bc_of (fun h=>⟨?_,?_⟩) (fun h=>⟨rfl,?_⟩)⟩
 ·show (cpV l 4).1.2.2.2.length<1099511627776
  have:=cpV_ops l 4
  omega
 ·exact QC.flat (out _ (by unfold fmB;rw[h];rfl)) rfl rfl
 ·exact QC.flat (out _ (by unfold fmB;rw[h];rfl)) rfl rfl
theorem fm_held:Held Tryz.prog G0 12 ctFm:=Held.run cxFm (fn:=Tryz.f12) rfl rfl ⟨by decide,by decide⟩ fun ⟨l,o,_⟩ hp=>fm_run l o hp _
end Go.Proofs.YtkiicobbnllpkaaGreatDoor
namespace Go.Proofs.YtkiicobbnllpkaaGreatDoor
open Go.Px Go.Ax
set_option maxRecDepth 100000
def CSn:CV:=[(13,.inl ctOld),(14,.inl ctLit),(12,.inl ctFm),(15,.inl ctCp),(6,.inl ctFo),(16,.inl ctSm),(8,.inl ctSa)]
theorem cxSn:CxOK Tryz.prog tt G0 CSn:=((((((cx0.cons sa_held (fn:=Tryz.f8) rfl rfl rfl).cons sm_held (fn:=Tryz.f16) rfl rfl rfl).cons fo_held (fn:=Tryz.f6) rfl rfl rfl).cons cp_held (fn:=Tryz.f15) rfl rfl rfl).cons fm_held (fn:=Tryz.f12) rfl rfl rfl).cons lit_held (fn:=Tryz.f14) rfl rfl rfl).cons old_held (fn:=Tryz.f13) rfl rfl rfl
set_option maxRecDepth 100000
theorem vc_san  (Q:QT) (R:RT):sy tt G0 CSn Tryz.f4.ntmps Tryz.f4.results.toList Q R 1000 [.code (bodyOf Tryz.f4)] (entry [] ()) =
  (ctOld.pre ((0:Int),(0:Int),()) ∧
 ctOld.pre ((1:Int),(0:Int),()) ∧
 ctOld.pre ((2:Int),(0:Int),()) ∧
 0+(3:Nat)≤((((List.replicate (3:Nat) syS.dflt).set (0:Nat) (true,(0:Int),(0:Int))).set (1:Nat) (true,(1:Int),(0:Int))).set (2:Nat) (true,(2:Int),(0:Int))).length ∧
 0+(1:Nat)≤([((1:Int),(0:Int),(3:Int),(0:Int),[])]:List opS.D).length ∧
 ctFm.pre (winL syS (0:Nat) (3:Nat) ((((List.replicate (3:Nat) syS.dflt).set (0:Nat) (true,(0:Int),(0:Int))).set (1:Nat) (true,(1:Int),(0:Int))).set (2:Nat) (true,(2:Int),(0:Int))),([((1:Int),(0:Int),(3:Int),(0:Int),[])]:List opS.D),()) ∧
 ctOld.pre ((0:Int),(0:Int),()) ∧
 ctOld.pre ((1:Int),(1:Int),()) ∧
 ctOld.pre ((2:Int),(0:Int),()) ∧
 0+(3:Nat)≤((((List.replicate (3:Nat) uB.dflt).set (0:Nat) (0:Int)).set (1:Nat) (1:Int)).set (2:Nat) (0:Int)).length ∧
 0+(3:Nat)≤((((List.replicate (3:Nat) uB.dflt).set (0:Nat) (0:Int)).set (1:Nat) (1:Int)).set (2:Nat) (0:Int)).length ∧
 0+(3:Nat)≤((((List.replicate (3:Nat) syS.dflt).set (0:Nat) (true,(0:Int),(0:Int))).set (1:Nat) (true,(1:Int),(1:Int))).set (2:Nat) (true,(2:Int),(0:Int))).length ∧
 0+(1:Nat)≤([((2:Int),(0:Int),(3:Int),(0:Int),winL uB (0:Nat) (3:Nat) ((((List.replicate (3:Nat) uB.dflt).set (0:Nat) (0:Int)).set (1:Nat) (1:Int)).set (2:Nat) (0:Int)))]:List opS.D).length ∧
 ctFm.pre (winL syS (0:Nat) (3:Nat) ((((List.replicate (3:Nat) syS.dflt).set (0:Nat) (true,(0:Int),(0:Int))).set (1:Nat) (true,(1:Int),(1:Int))).set (2:Nat) (true,(2:Int),(0:Int))),([((2:Int),(0:Int),(3:Int),(0:Int),winL uB (0:Nat) (3:Nat) ((((List.replicate (3:Nat) uB.dflt).set (0:Nat) (0:Int)).set (1:Nat) (1:Int)).set (2:Nat) (0:Int)))]:List opS.D),()) ∧
 0+(1:Nat)≤([(5:Int)]:List uB.D).length ∧
 ctLit.pre (([(5:Int)]:List uB.D),()) ∧
 0+(1:Nat)≤([(5:Int)]:List uB.D).length ∧
 0+(1:Nat)≤([(5:Int)]:List uB.D).length ∧
 0+(litL (([(5:Int)]:List uB.D))).length≤(litL (([(5:Int)]:List uB.D))).length ∧
 0+(1:Nat)≤([((4:Int),(0:Int),(1:Int),(0:Int),([(5:Int)]:List uB.D))]:List opS.D).length ∧
 ctFm.pre (winL syS 0 (litL (([(5:Int)]:List uB.D))).length (litL (([(5:Int)]:List uB.D))),([((4:Int),(0:Int),(1:Int),(0:Int),winL uB (0:Nat) (1:Nat) ([(5:Int)]:List uB.D))]:List opS.D),()) ∧
 0+(2:Nat)≤(((List.replicate (2:Nat) uB.dflt).set (0:Nat) (5:Int)).set (1:Nat) (5:Int)).length ∧
 ctLit.pre (winL uB (0:Nat) (2:Nat) (((List.replicate (2:Nat) uB.dflt).set (0:Nat) (5:Int)).set (1:Nat) (5:Int)),()) ∧
 0+(litL (winL uB (0:Nat) (2:Nat) (((List.replicate (2:Nat) uB.dflt).set (0:Nat) (5:Int)).set (1:Nat) (5:Int)))).length≤(litL (winL uB (0:Nat) (2:Nat) (((List.replicate (2:Nat) uB.dflt).set (0:Nat) (5:Int)).set (1:Nat) (5:Int)))).length ∧
 0+(1:Nat)≤([((3:Int),(0:Int),(2:Int),(5:Int),[])]:List opS.D).length ∧
 ctFm.pre (winL syS 0 (litL (winL uB (0:Nat) (2:Nat) (((List.replicate (2:Nat) uB.dflt).set (0:Nat) (5:Int)).set (1:Nat) (5:Int)))).length (litL (winL uB (0:Nat) (2:Nat) (((List.replicate (2:Nat) uB.dflt).set (0:Nat) (5:Int)).set (1:Nat) (5:Int)))),([((3:Int),(0:Int),(2:Int),(5:Int),[])]:List opS.D),()) ∧
 0+(6:Nat)≤(((((((List.replicate (6:Nat) uB.dflt).set (0:Nat) (1:Int)).set (1:Nat) (7:Int)).set (2:Nat) (7:Int)).set (3:Nat) (7:Int)).set (4:Nat) (7:Int)).set (5:Nat) (2:Int)).length ∧
 ctLit.pre (winL uB (0:Nat) (6:Nat) (((((((List.replicate (6:Nat) uB.dflt).set (0:Nat) (1:Int)).set (1:Nat) (7:Int)).set (2:Nat) (7:Int)).set (3:Nat) (7:Int)).set (4:Nat) (7:Int)).set (5:Nat) (2:Int)),()) ∧
 0+(6:Nat)≤(((((((List.replicate (6:Nat) uB.dflt).set (0:Nat) (1:Int)).set (1:Nat) (7:Int)).set (2:Nat) (7:Int)).set (3:Nat) (7:Int)).set (4:Nat) (7:Int)).set (5:Nat) (2:Int)).length ∧
 0+(6:Nat)≤(((((((List.replicate (6:Nat) uB.dflt).set (0:Nat) (1:Int)).set (1:Nat) (7:Int)).set (2:Nat) (7:Int)).set (3:Nat) (7:Int)).set (4:Nat) (7:Int)).set (5:Nat) (2:Int)).length ∧
 0+(litL (winL uB (0:Nat) (6:Nat) (((((((List.replicate (6:Nat) uB.dflt).set (0:Nat) (1:Int)).set (1:Nat) (7:Int)).set (2:Nat) (7:Int)).set (3:Nat) (7:Int)).set (4:Nat) (7:Int)).set (5:Nat) (2:Int)))).length≤(litL (winL uB (0:Nat) (6:Nat) (((((((List.replicate (6:Nat) uB.dflt).set (0:Nat) (1:Int)).set (1:Nat) (7:Int)).set (2:Nat) (7:Int)).set (3:Nat) (7:Int)).set (4:Nat) (7:Int)).set (5:Nat) (2:Int)))).length ∧
 0+(1:Nat)≤([((4:Int),(0:Int),(6:Int),(0:Int),winL uB (0:Nat) (6:Nat) (((((((List.replicate (6:Nat) uB.dflt).set (0:Nat) (1:Int)).set (1:Nat) (7:Int)).set (2:Nat) (7:Int)).set (3:Nat) (7:Int)).set (4:Nat) (7:Int)).set (5:Nat) (2:Int)))]:List opS.D).length ∧
 ctFm.pre (winL syS 0 (litL (winL uB (0:Nat) (6:Nat) (((((((List.replicate (6:Nat) uB.dflt).set (0:Nat) (1:Int)).set (1:Nat) (7:Int)).set (2:Nat) (7:Int)).set (3:Nat) (7:Int)).set (4:Nat) (7:Int)).set (5:Nat) (2:Int)))).length (litL (winL uB (0:Nat) (6:Nat) (((((((List.replicate (6:Nat) uB.dflt).set (0:Nat) (1:Int)).set (1:Nat) (7:Int)).set (2:Nat) (7:Int)).set (3:Nat) (7:Int)).set (4:Nat) (7:Int)).set (5:Nat) (2:Int)))),([((4:Int),(0:Int),(6:Int),(0:Int),winL uB (0:Nat) (6:Nat) (((((((List.replicate (6:Nat) uB.dflt).set (0:Nat) (1:Int)).set (1:Nat) (7:Int)).set (2:Nat) (7:Int)).set (3:Nat) (7:Int)).set (4:Nat) (7:Int)).set (5:Nat) (2:Int)))]:List opS.D),()) ∧
 0+(12:Nat)≤(((((((((((((List.replicate (12:Nat) uB.dflt).set (0:Nat) (1:Int)).set (1:Nat) (7:Int)).set (2:Nat) (7:Int)).set (3:Nat) (7:Int)).set (4:Nat) (7:Int)).set (5:Nat) (7:Int)).set (6:Nat) (7:Int)).set (7:Nat) (7:Int)).set (8:Nat) (7:Int)).set (9:Nat) (7:Int)).set (10:Nat) (7:Int)).set (11:Nat) (7:Int)).length ∧
 ctLit.pre (winL uB (0:Nat) (12:Nat) (((((((((((((List.replicate (12:Nat) uB.dflt).set (0:Nat) (1:Int)).set (1:Nat) (7:Int)).set (2:Nat) (7:Int)).set (3:Nat) (7:Int)).set (4:Nat) (7:Int)).set (5:Nat) (7:Int)).set (6:Nat) (7:Int)).set (7:Nat) (7:Int)).set (8:Nat) (7:Int)).set (9:Nat) (7:Int)).set (10:Nat) (7:Int)).set (11:Nat) (7:Int)),()) ∧
 0+(1:Nat)≤([(1:Int)]:List uB.D).length ∧
 0+(1:Nat)≤([(1:Int)]:List uB.D).length ∧
 0+(litL (winL uB (0:Nat) (12:Nat) (((((((((((((List.replicate (12:Nat) uB.dflt).set (0:Nat) (1:Int)).set (1:Nat) (7:Int)).set (2:Nat) (7:Int)).set (3:Nat) (7:Int)).set (4:Nat) (7:Int)).set (5:Nat) (7:Int)).set (6:Nat) (7:Int)).set (7:Nat) (7:Int)).set (8:Nat) (7:Int)).set (9:Nat) (7:Int)).set (10:Nat) (7:Int)).set (11:Nat) (7:Int)))).length≤(litL (winL uB (0:Nat) (12:Nat) (((((((((((((List.replicate (12:Nat) uB.dflt).set (0:Nat) (1:Int)).set (1:Nat) (7:Int)).set (2:Nat) (7:Int)).set (3:Nat) (7:Int)).set (4:Nat) (7:Int)).set (5:Nat) (7:Int)).set (6:Nat) (7:Int)).set (7:Nat) (7:Int)).set (8:Nat) (7:Int)).set (9:Nat) (7:Int)).set (10:Nat) (7:Int)).set (11:Nat) (7:Int)))).length ∧
 0+(2:Nat)≤(((List.replicate (2:Nat) opS.dflt).set (0:Nat) ((4:Int),(0:Int),(1:Int),(0:Int),([(1:Int)]:List uB.D))).set (1:Nat) ((3:Int),(0:Int),(11:Int),(7:Int),[])).length ∧
 ctFm.pre (winL syS 0 (litL (winL uB (0:Nat) (12:Nat) (((((((((((((List.replicate (12:Nat) uB.dflt).set (0:Nat) (1:Int)).set (1:Nat) (7:Int)).set (2:Nat) (7:Int)).set (3:Nat) (7:Int)).set (4:Nat) (7:Int)).set (5:Nat) (7:Int)).set (6:Nat) (7:Int)).set (7:Nat) (7:Int)).set (8:Nat) (7:Int)).set (9:Nat) (7:Int)).set (10:Nat) (7:Int)).set (11:Nat) (7:Int)))).length (litL (winL uB (0:Nat) (12:Nat) (((((((((((((List.replicate (12:Nat) uB.dflt).set (0:Nat) (1:Int)).set (1:Nat) (7:Int)).set (2:Nat) (7:Int)).set (3:Nat) (7:Int)).set (4:Nat) (7:Int)).set (5:Nat) (7:Int)).set (6:Nat) (7:Int)).set (7:Nat) (7:Int)).set (8:Nat) (7:Int)).set (9:Nat) (7:Int)).set (10:Nat) (7:Int)).set (11:Nat) (7:Int)))),winL opS (0:Nat) (2:Nat) (((List.replicate (2:Nat) opS.dflt).set (0:Nat) ((4:Int),(0:Int),(1:Int),(0:Int),([(1:Int)]:List uB.D))).set (1:Nat) ((3:Int),(0:Int),(11:Int),(7:Int),[])),()) ∧
 ctOld.pre ((4:Int),(0:Int),()) ∧
 0+(1:Nat)≤([(true,(4:Int),(0:Int))]:List syS.D).length ∧
 ctCp.pre (([(true,(4:Int),(0:Int))]:List syS.D),(4:Int),()) ∧
 ctCp.pre ([],(-1:Int),()) ∧
 ctFo.pre ((false,(0:Int),(1:Int),[]),()) ∧
 ctFo.pre ((true,(2:Int),(0:Int),[]),()) ∧
 ctSm.pre (((foV (true,(2:Int),(0:Int),[])).1),(true,(2:Int),(0:Int),[]),()) ∧
 ctSa.pre (((foV (true,(2:Int),(0:Int),[])).1),((foV (true,(2:Int),(0:Int),[])).1),()) ∧
 ctSa.pre (((foV (true,(2:Int),(0:Int),[])).1),(false,(2:Int),(0:Int),[]),()) ∧
 ctSa.pre ((false,(0:Int),(1:Int),[]),(false,(0:Int),(1:Int),[]),()) ∧
 Q [.bool (bif true then !saV (false,(0:Int),(1:Int),[]) (false,(0:Int),(1:Int),[]) else false)] [(4,.var [.bool (cpV (([(true,(4:Int),(0:Int))]:List syS.D)) (4:Int)).1.1,.int .i64 (cpV (([(true,(4:Int),(0:Int))]:List syS.D)) (4:Int)).1.2.1,.int .i64 (cpV (([(true,(4:Int),(0:Int))]:List syS.D)) (4:Int)).1.2.2.1,.sl opS (cpV (([(true,(4:Int),(0:Int))]:List syS.D)) (4:Int)).1.2.2.2]),(6,.var [.bool (cpV [] (-1:Int)).1.1,.int .i64 (cpV [] (-1:Int)).1.2.1,.int .i64 (cpV [] (-1:Int)).1.2.2.1,.sl opS (cpV [] (-1:Int)).1.2.2.2]),(8,.var [.bool (foV (false,(0:Int),(1:Int),[])).1.1,.int .i64 (foV (false,(0:Int),(1:Int),[])).1.2.1,.int .i64 (foV (false,(0:Int),(1:Int),[])).1.2.2.1,.sl opS (foV (false,(0:Int),(1:Int),[])).1.2.2.2]),(10,.var [.bool (foV (true,(2:Int),(0:Int),[])).1.1,.int .i64 (foV (true,(2:Int),(0:Int),[])).1.2.1,.int .i64 (foV (true,(2:Int),(0:Int),[])).1.2.2.1,.sl opS (foV (true,(2:Int),(0:Int),[])).1.2.2.2]),(16,.row 43 syS ((((List.replicate (3:Nat) syS.dflt).set (0:Nat) (true,(0:Int),(0:Int))).set (1:Nat) (true,(1:Int),(0:Int))).set (2:Nat) (true,(2:Int),(0:Int)))),(18,.row 47 opS ([((1:Int),(0:Int),(3:Int),(0:Int),[])]:List opS.D)),(24,.row 43 syS ((((List.replicate (3:Nat) syS.dflt).set (0:Nat) (true,(0:Int),(0:Int))).set (1:Nat) (true,(1:Int),(1:Int))).set (2:Nat) (true,(2:Int),(0:Int)))),(27,.row 47 opS ([((2:Int),(0:Int),(3:Int),(0:Int),winL uB (0:Nat) (3:Nat) ((((List.replicate (3:Nat) uB.dflt).set (0:Nat) (0:Int)).set (1:Nat) (1:Int)).set (2:Nat) (0:Int)))]:List opS.D)),(30,.row 5 uB ([(5:Int)]:List uB.D)),(34,.row 47 opS ([((4:Int),(0:Int),(1:Int),(0:Int),([(5:Int)]:List uB.D))]:List opS.D)),(37,.row 5 uB (((List.replicate (2:Nat) uB.dflt).set (0:Nat) (5:Int)).set (1:Nat) (5:Int))),(40,.row 47 opS ([((3:Int),(0:Int),(2:Int),(5:Int),[])]:List opS.D)),(43,.row 5 uB (((((((List.replicate (6:Nat) uB.dflt).set (0:Nat) (1:Int)).set (1:Nat) (7:Int)).set (2:Nat) (7:Int)).set (3:Nat) (7:Int)).set (4:Nat) (7:Int)).set (5:Nat) (2:Int))),(47,.row 47 opS ([((4:Int),(0:Int),(6:Int),(0:Int),winL uB (0:Nat) (6:Nat) (((((((List.replicate (6:Nat) uB.dflt).set (0:Nat) (1:Int)).set (1:Nat) (7:Int)).set (2:Nat) (7:Int)).set (3:Nat) (7:Int)).set (4:Nat) (7:Int)).set (5:Nat) (2:Int)))]:List opS.D)),(50,.row 5 uB (((((((((((((List.replicate (12:Nat) uB.dflt).set (0:Nat) (1:Int)).set (1:Nat) (7:Int)).set (2:Nat) (7:Int)).set (3:Nat) (7:Int)).set (4:Nat) (7:Int)).set (5:Nat) (7:Int)).set (6:Nat) (7:Int)).set (7:Nat) (7:Int)).set (8:Nat) (7:Int)).set (9:Nat) (7:Int)).set (10:Nat) (7:Int)).set (11:Nat) (7:Int))),(55,.row 47 opS (((List.replicate (2:Nat) opS.dflt).set (0:Nat) ((4:Int),(0:Int),(1:Int),(0:Int),([(1:Int)]:List uB.D))).set (1:Nat) ((3:Int),(0:Int),(11:Int),(7:Int),[]))),(1126976,.row 43 syS (litL (([(5:Int)]:List uB.D)))),(1155648,.row 43 syS (litL (winL uB (0:Nat) (2:Nat) (((List.replicate (2:Nat) uB.dflt).set (0:Nat) (5:Int)).set (1:Nat) (5:Int))))),(1180224,.row 43 syS (litL (winL uB (0:Nat) (6:Nat) (((((((List.replicate (6:Nat) uB.dflt).set (0:Nat) (1:Int)).set (1:Nat) (7:Int)).set (2:Nat) (7:Int)).set (3:Nat) (7:Int)).set (4:Nat) (7:Int)).set (5:Nat) (2:Int))))),(1208896,.row 43 syS (litL (winL uB (0:Nat) (12:Nat) (((((((((((((List.replicate (12:Nat) uB.dflt).set (0:Nat) (1:Int)).set (1:Nat) (7:Int)).set (2:Nat) (7:Int)).set (3:Nat) (7:Int)).set (4:Nat) (7:Int)).set (5:Nat) (7:Int)).set (6:Nat) (7:Int)).set (7:Nat) (7:Int)).set (8:Nat) (7:Int)).set (9:Nat) (7:Int)).set (10:Nat) (7:Int)).set (11:Nat) (7:Int)))))]):=by kernel_rfl
end Go.Proofs.YtkiicobbnllpkaaGreatDoor
namespace Go.Proofs.YtkiicobbnllpkaaGreatDoor
open Go.Px Go.Ax
set_option maxRecDepth 100000
attribute [local irreducible] Go.Px.sy Go.Px.syE
def ctSan:Ctr:=⟨[],fun _=>True,fun _=>[.bool true],fun _=>[]⟩
theorem san_run (R:List Item→PS→Prop):sy tt G0 CSn Tryz.f4.ntmps Tryz.f4.results.toList (QC ctSan ()) R 1000 [.code (bodyOf Tryz.f4)] (entry [] ()):=by
 refine (vc_san _ _).mpr ?_
 repeat' first
  | exact trivial
  | (show List.length _<1000000;decide +kernel)
  | (show List.length _<16777216;decide +kernel)
  | (show List.length _<1099511627776;decide +kernel)
  | decide +kernel
  | refine And.intro ?_ ?_
  | (refine QC.flat ?_ rfl rfl)
  | (refine congrArg (fun b=>[SV.bool b]) ?_;decide +kernel)
theorem san_held:Held Tryz.prog G0 4 ctSan:=Held.run cxSn (fn:=Tryz.f4) rfl rfl ⟨by decide,by decide⟩ fun x _=>san_run _
end Go.Proofs.YtkiicobbnllpkaaGreatDoor
namespace Go.Proofs.YtkiicobbnllpkaaGreatDoor
open Go.Px Go.Ax
set_option maxRecDepth 100000
theorem poV_ok {s:List SyT} {m:Int} (hr:∀ x∈s,sOK m x=true) (h0:0≤m) (h1:m≤65536) (hl:s.length≤4096):poV s m=((false,m,(s.length:Int),chL s),0)∧symF (chL s)=s∧(∀ x∈chL s,isRB x m=true)∧costS (chL s)=cst s∧(chL s).length≤4096 ∧
  (chkV (false,m,(s.length:Int),chL s)).2=0:=by
 obtain ⟨c1,c2,c3,c4⟩:=ch_ok (m:=m) (by omega) s.length s (Nat.le_refl _) (by omega) hr
 have hb:=bst_bo s (by omega)
 unfold boL at hb
 have hlen:(chL s).length≤4096:=by
  show (chF s.length s).length≤4096
  have:oct s=(bst s).2.2.2:=rfl
  omega
 have hs:=symF_len c2
 rw[c1] at hs
 refine ⟨?_,c1,c2,c3,hlen,?_⟩
 ·unfold poV
  rw[if_neg (by omega)]
 ·have:=chkV_of (li:=false) (o:=(s.length:Int)) h0 h1 (by omega) hlen c2 hs.symm
  rw[this]
theorem cost_eq {s:List SyT} {m:Int} (hr:∀ x∈s,sOK m x=true) (h0:0≤m) (h1:m≤65536) (hl:s.length≤4096):costF 0 (chL s)=cst s:=by
 obtain ⟨_,_,c2,c3,c4,_⟩:=poV_ok hr h0 h1 hl
 rw[costF_of c2 (Int.le_refl 0) (by omega),Int.zero_add,c3]
theorem elO_sOK {x:OpT} {m:Int} (h:isRB x m=true) (h0:0≤m) (hm:m<16777216) {k:Nat} (hk:(k:Int)<x.2.2.1):sOK m (elO x.1.toNat x k)=true:=by
 have pp:=isRB_part h ⟨h0,hm⟩
 rcases (isRB_kind h).1 with e | e | e | e
 ·rw[e]
  have pp:=pp (.inl e)
  show sOK m (true,IntKind.i64.wrap (x.2.1+(k:Int)),0)=true
  rw[IntWalk.i64_in _ (by omega)]
  simp[sOK];omega
 ·rw[e]
  have pp:=pp (.inr e)
  show sOK m (true,IntKind.i64.wrap (x.2.1+(k:Int)),gtB x.2.2.2.2 k)=true
  rw[IntWalk.i64_in _ (by omega)]
  simp[sOK];omega
 ·rw[e];rfl
 ·rw[e];rfl
theorem sym_sOK {m:Int} (h0:0≤m) (hm:m<16777216) {l:List OpT} (hr:∀ x∈l,isRB x m=true):∀ s∈symF l,sOK m s=true:=fun s hs=>by
 obtain ⟨x,hx,k,hk,e⟩:=sym_mem hr s hs
 rw[e]
 exact elO_sOK (hr x hx) h0 hm hk
theorem chkV_in {p:PaT} (h:(chkV p).2=0):0≤p.2.1∧p.2.1≤65536:=by
 unfold chkV at h
 split at h
 ·rename_i q;exact szB_le q.1
 ·cases h
theorem fo_ok {p:PaT} (h:(chkV p).2=0) (hs:p.2.2.1≤4096):foV p=((p.1,p.2.1,p.2.2.1,chL (symF p.2.2.2)),0)∧(chkV (p.1,p.2.1,p.2.2.1,chL (symF p.2.2.2))).2=0∧symF (chL (symF p.2.2.2))=symF p.2.2.2∧costF 0 (chL (symF p.2.2.2))=cst (symF p.2.2.2)∧(chL (symF p.2.2.2)).length≤4096:=by
 obtain ⟨hr,hl,ho,hn⟩:=chkV_ok h
 have hi:=chkV_in h
 have sl:=symF_len hr
 have so:=sym_sOK hi.1 (by omega) hr
 obtain ⟨q1,q2,q3,q4,q5,q6⟩:=poV_ok so hi.1 hi.2 (by omega)
 have e:((symF p.2.2.2).length:Int)=p.2.2.1:=by omega
 rw[e] at q1 q6
 have hv:symV p=(symF p.2.2.2,0):=by unfold symV;rw[if_pos h]
 refine ⟨?_,q6,q2,cost_eq so hi.1 hi.2 (by omega),q5⟩
 unfold foV
 rw[hv]
 simp only[q1]
 rfl
theorem sy_ok {p:PaT} (h:(chkV p).2=0):symV p=(symF p.2.2.2,0):=by unfold symV;rw[if_pos h]
theorem sa_val {p q:PaT} (hp:(chkV p).2=0) (hq:(chkV q).2=0):saV p q=true↔p.1=q.1∧p.2.1=q.2.1∧symF p.2.2.2=symF q.2.2.2:=by
 unfold saV
 rw[sy_ok hp,sy_ok hq]
 simp
end Go.Proofs.YtkiicobbnllpkaaGreatDoor
namespace Go.Proofs.YtkiicobbnllpkaaGreatDoor
open Go.Px Go.Ax
set_option maxRecDepth 100000
def CKe:CV:=[(4,.inl ctSan),(5,.inl ctM6),(6,.inl ctFo),(7,.inl ctRi),(8,.inl ctSa),(9,.inl ctCost),(10,.inl ctInp),(11,.inl ctAp)]
theorem cxKe:CxOK Tryz.prog tt G0 CKe:=(((((((cx0.cons ap_held (fn:=Tryz.f11) rfl rfl rfl).cons inp_held (fn:=Tryz.f10) rfl rfl rfl).cons cost_held (fn:=Tryz.f9) rfl rfl rfl).cons sa_held (fn:=Tryz.f8) rfl rfl rfl).cons right_held (fn:=Tryz.f7) rfl rfl rfl).cons fo_held (fn:=Tryz.f6) rfl rfl rfl).cons made6_held (fn:=Tryz.f5) rfl rfl rfl).cons san_held (fn:=Tryz.f4) rfl rfl rfl
set_option maxRecDepth 100000
theorem vc_k2a (z:Int) (l4:List (List Int)) (b:List Int) (Q:List SV→List (Nat × LB)→Prop) (R:List Item→PS→Prop):sy tt G0 CKe Tryz.f3.ntmps Tryz.f3.results.toList Q (fun it S=>R it (keepS [1,4,5,6,7,8] [6,7] S)) 8 [.code (bodyOf Tryz.f3)] (entry [raS,.sl uB] ((z,l4),b,())) =
  (ctSan.pre () ∧
 ctM6.pre ((z,l4),()) ∧
 ctFo.pre ((szV l4 (z % (13:Int))),()) ∧
 R (midI (8:Nat) [] [Item.code (bodyOf Tryz.f3)]) { env:=[((1:Nat),SV.sl uB b),((4:Nat),SV.bool false),((5:Nat),SV.bool true),((6:Nat),SV.ptr (6:Nat) (0:Nat)),((7:Nat),SV.ptr (7:Nat) (0:Nat)),((8:Nat),SV.int IntKind.i64 (foV (szV l4 (z % (13:Int)))).snd)],blk:=[((6:Nat),LB.var [SV.bool (szV l4 (z % (13:Int))).fst,SV.int IntKind.i64 (szV l4 (z % (13:Int))).snd.fst,SV.int IntKind.i64 (szV l4 (z % (13:Int))).snd.snd.fst,SV.sl opS (szV l4 (z % (13:Int))).snd.snd.snd]),((7:Nat),LB.var [SV.bool (foV (szV l4 (z % (13:Int)))).fst.fst,SV.int IntKind.i64 (foV (szV l4 (z % (13:Int)))).fst.snd.fst,SV.int IntKind.i64 (foV (szV l4 (z % (13:Int)))).fst.snd.snd.fst,SV.sl opS (foV (szV l4 (z % (13:Int)))).fst.snd.snd.snd])] }):=by kernel_rfl
theorem vc_k2b (p q:PaT) (e:Int) (b:List Int) (Q:List SV→List (Nat × LB)→Prop) (R:List Item→PS→Prop):sy tt G0 CKe Tryz.f3.ntmps Tryz.f3.results.toList Q R 1000 (midI 8 [] [.code (bodyOf Tryz.f3)]) ⟨[(1,.sl uB b),(4,.bool false),(5,.bool true),(6,.ptr 6 0),(7,.ptr 7 0),(8,.int .i64 e)],[(6,.var [.bool p.1,.int .i64 p.2.1,.int .i64 p.2.2.1,.sl opS p.2.2.2]),(7,.var [.bool q.1,.int .i64 q.2.1,.int .i64 q.2.2.1,.sl opS q.2.2.2])]⟩ =
  (bc (decide (e≠(0:Int))) (true=true ∧
 true=true ∧
 true=true ∧
 true=true ∧
 true=true ∧
 Q [SV.bool false] [((6:Nat),LB.var [SV.bool p.fst,SV.int IntKind.i64 p.snd.fst,SV.int IntKind.i64 p.snd.snd.fst,SV.sl opS p.snd.snd.snd]),((7:Nat),LB.var [SV.bool q.fst,SV.int IntKind.i64 q.snd.fst,SV.int IntKind.i64 q.snd.snd.fst,SV.sl opS q.snd.snd.snd])]) (ctRi.pre (q,()) ∧
 bc (bif false then true else !decide ((chkV q).snd=(0:Int))) (true=true ∧
 true=true ∧
 true=true ∧
 true=true ∧
 Q [SV.bool false] [((6:Nat),LB.var [SV.bool p.fst,SV.int IntKind.i64 p.snd.fst,SV.int IntKind.i64 p.snd.snd.fst,SV.sl opS p.snd.snd.snd]),((7:Nat),LB.var [SV.bool q.fst,SV.int IntKind.i64 q.snd.fst,SV.int IntKind.i64 q.snd.snd.fst,SV.sl opS q.snd.snd.snd])]) (ctSa.pre (p,q,()) ∧
 bc (bif false then true else !saV p q) (true=true ∧
 true=true ∧
 true=true ∧
 Q [SV.bool false] [((6:Nat),LB.var [SV.bool p.fst,SV.int IntKind.i64 p.snd.fst,SV.int IntKind.i64 p.snd.snd.fst,SV.sl opS p.snd.snd.snd]),((7:Nat),LB.var [SV.bool q.fst,SV.int IntKind.i64 q.snd.fst,SV.int IntKind.i64 q.snd.snd.fst,SV.sl opS q.snd.snd.snd])]) (ctCost.pre (q,()) ∧
 ctCost.pre (p,()) ∧
 bc (bif false then true else decide (costF (0:Int) p.snd.snd.snd<costF (0:Int) q.snd.snd.snd)) (true=true ∧
 true=true ∧
 Q [SV.bool false] [((6:Nat),LB.var [SV.bool p.fst,SV.int IntKind.i64 p.snd.fst,SV.int IntKind.i64 p.snd.snd.fst,SV.sl opS p.snd.snd.snd]),((7:Nat),LB.var [SV.bool q.fst,SV.int IntKind.i64 q.snd.fst,SV.int IntKind.i64 q.snd.snd.fst,SV.sl opS q.snd.snd.snd])]) (bc (bif false then true else decide (q.snd.fst≠p.snd.fst)) (true=true ∧
 Q [SV.bool false] [((6:Nat),LB.var [SV.bool p.fst,SV.int IntKind.i64 p.snd.fst,SV.int IntKind.i64 p.snd.snd.fst,SV.sl opS p.snd.snd.snd]),((7:Nat),LB.var [SV.bool q.fst,SV.int IntKind.i64 q.snd.fst,SV.int IntKind.i64 q.snd.snd.fst,SV.sl opS q.snd.snd.snd])]) (bc (bif false then true else decide (q.snd.snd.fst≠p.snd.snd.fst)) (Q [SV.bool false] [((6:Nat),LB.var [SV.bool p.fst,SV.int IntKind.i64 p.snd.fst,SV.int IntKind.i64 p.snd.snd.fst,SV.sl opS p.snd.snd.snd]),((7:Nat),LB.var [SV.bool q.fst,SV.int IntKind.i64 q.snd.fst,SV.int IntKind.i64 q.snd.snd.fst,SV.sl opS q.snd.snd.snd])]) (ctInp.pre (b,p.snd.fst,()) ∧
 0+(inpL b p.snd.fst.toNat).length≤(inpL b p.snd.fst.toNat).length ∧
 ctAp.pre (winL uB (0:Nat) (inpL b p.snd.fst.toNat).length (inpL b p.snd.fst.toNat),p,()) ∧
 0+(inpL b p.snd.fst.toNat).length≤(inpL b p.snd.fst.toNat).length ∧
 ctAp.pre (winL uB (0:Nat) (inpL b p.snd.fst.toNat).length (inpL b p.snd.fst.toNat),q,()) ∧
 bc (decide ((apV (winL uB (0:Nat) (inpL b p.snd.fst.toNat).length (inpL b p.snd.fst.toNat)) p).snd=(0:Int))) (bc (decide ((apV (winL uB (0:Nat) (inpL b p.snd.fst.toNat).length (inpL b p.snd.fst.toNat)) q).snd=(0:Int))) (0+(apV (winL uB (0:Nat) (inpL b p.snd.fst.toNat).length (inpL b p.snd.fst.toNat)) p).fst.length≤(apV (winL uB (0:Nat) (inpL b p.snd.fst.toNat).length (inpL b p.snd.fst.toNat)) p).fst.length ∧
 0+(apV (winL uB (0:Nat) (inpL b p.snd.fst.toNat).length (inpL b p.snd.fst.toNat)) q).fst.length≤(apV (winL uB (0:Nat) (inpL b p.snd.fst.toNat).length (inpL b p.snd.fst.toNat)) q).fst.length ∧
 bc (decide (List.map toB (winL uB (0:Nat) (apV (winL uB (0:Nat) (inpL b p.snd.fst.toNat).length (inpL b p.snd.fst.toNat)) p).fst.length (apV (winL uB (0:Nat) (inpL b p.snd.fst.toNat).length (inpL b p.snd.fst.toNat)) p).fst)=List.map toB (winL uB (0:Nat) (apV (winL uB (0:Nat) (inpL b p.snd.fst.toNat).length (inpL b p.snd.fst.toNat)) q).fst.length (apV (winL uB (0:Nat) (inpL b p.snd.fst.toNat).length (inpL b p.snd.fst.toNat)) q).fst))) (Q [SV.bool true] [((6:Nat),LB.var [SV.bool p.fst,SV.int IntKind.i64 p.snd.fst,SV.int IntKind.i64 p.snd.snd.fst,SV.sl opS p.snd.snd.snd]),((7:Nat),LB.var [SV.bool q.fst,SV.int IntKind.i64 q.snd.fst,SV.int IntKind.i64 q.snd.snd.fst,SV.sl opS q.snd.snd.snd]),((1241664:Nat),LB.row (5:Nat) uB (inpL b p.snd.fst.toNat)),((1258048:Nat),LB.row (5:Nat) uB (apV (winL uB (0:Nat) (inpL b p.snd.fst.toNat).length (inpL b p.snd.fst.toNat)) p).fst),((1282624:Nat),LB.row (5:Nat) uB (apV (winL uB (0:Nat) (inpL b p.snd.fst.toNat).length (inpL b p.snd.fst.toNat)) q).fst)]) (false=false ∧
 Q [SV.bool false] [((6:Nat),LB.var [SV.bool p.fst,SV.int IntKind.i64 p.snd.fst,SV.int IntKind.i64 p.snd.snd.fst,SV.sl opS p.snd.snd.snd]),((7:Nat),LB.var [SV.bool q.fst,SV.int IntKind.i64 q.snd.fst,SV.int IntKind.i64 q.snd.snd.fst,SV.sl opS q.snd.snd.snd]),((1241664:Nat),LB.row (5:Nat) uB (inpL b p.snd.fst.toNat)),((1258048:Nat),LB.row (5:Nat) uB (apV (winL uB (0:Nat) (inpL b p.snd.fst.toNat).length (inpL b p.snd.fst.toNat)) p).fst),((1282624:Nat),LB.row (5:Nat) uB (apV (winL uB (0:Nat) (inpL b p.snd.fst.toNat).length (inpL b p.snd.fst.toNat)) q).fst)])) (false=false ∧
 false=false ∧
 Q [SV.bool false] [((6:Nat),LB.var [SV.bool p.fst,SV.int IntKind.i64 p.snd.fst,SV.int IntKind.i64 p.snd.snd.fst,SV.sl opS p.snd.snd.snd]),((7:Nat),LB.var [SV.bool q.fst,SV.int IntKind.i64 q.snd.fst,SV.int IntKind.i64 q.snd.snd.fst,SV.sl opS q.snd.snd.snd]),((1241664:Nat),LB.row (5:Nat) uB (inpL b p.snd.fst.toNat)),((1258048:Nat),LB.row (5:Nat) uB (apV (winL uB (0:Nat) (inpL b p.snd.fst.toNat).length (inpL b p.snd.fst.toNat)) p).fst),((1282624:Nat),LB.row (5:Nat) uB (apV (winL uB (0:Nat) (inpL b p.snd.fst.toNat).length (inpL b p.snd.fst.toNat)) q).fst)])) (false=false ∧
 false=false ∧
 false=false ∧
 Q [SV.bool false] [((6:Nat),LB.var [SV.bool p.fst,SV.int IntKind.i64 p.snd.fst,SV.int IntKind.i64 p.snd.snd.fst,SV.sl opS p.snd.snd.snd]),((7:Nat),LB.var [SV.bool q.fst,SV.int IntKind.i64 q.snd.fst,SV.int IntKind.i64 q.snd.snd.fst,SV.sl opS q.snd.snd.snd]),((1241664:Nat),LB.row (5:Nat) uB (inpL b p.snd.fst.toNat)),((1258048:Nat),LB.row (5:Nat) uB (apV (winL uB (0:Nat) (inpL b p.snd.fst.toNat).length (inpL b p.snd.fst.toNat)) p).fst),((1282624:Nat),LB.row (5:Nat) uB (apV (winL uB (0:Nat) (inpL b p.snd.fst.toNat).length (inpL b p.snd.fst.toNat)) q).fst)])))))))):=by kernel_rfl
end Go.Proofs.YtkiicobbnllpkaaGreatDoor
namespace Go.Proofs.YtkiicobbnllpkaaGreatDoor
open Go.Px Go.Ax
def u8L (b:List Int):Prop:=∀ j,0≤gtB b j∧gtB b j<256
theorem u8_wf {n:Int} (h:wfD uB n):0≤n∧n<256:=by
 have h:(Lit.int IntKind.u8 n).wf=true:=h
 simp[Lit.wf,IntKind.min,IntKind.max,IntKind.signed,IntKind.bits] at h
 omega
theorem u8_of {l:List Int} (h:∀ x∈l,wfD uB x):u8L l:=fun j=>by
 by_cases hj:j<l.length
 ·rw[gtB_at hj];exact u8_wf (h _ (List.getElem_mem hj))
 ·have:gtB l j=0:=by
   show gt uB _ _=_
   unfold gt
   rw[List.getElem?_eq_none (by omega)];rfl
  rw[this];decide
theorem l4_of {l:List (List Int)} (h:∀ x∈l,wfD a4S x):preL4 l:=fun j=>by
 by_cases hj:j<l.length
 ·have e:gt a4S l j=l[j]:=gtE (e:=a4S) hj
  rw[e]
  exact u8_of (h _ (List.getElem_mem hj)).2
 ·have:gt a4S l j=List.replicate 4 (0:Int):=by
   unfold gt
   rw[List.getElem?_eq_none (by omega)];rfl
  rw[this]
  exact u8_of fun x hx=>by
   rw[List.eq_of_mem_replicate hx];rfl
theorem m6_of {x:Int × List (List Int)} (h:wfD raS x):preM6 x.1 x.2:=⟨u8_wf h.1,l4_of h.2.2,h.2.1⟩
theorem G_get {g:Nat} {x:ABlk} (h:rawG.get g=some x):g=0∧x=.cells costCells 131 2:=by
 unfold rawG T.get at h
 split at h
 ·rename_i e;cases h;exact ⟨e,rfl⟩
 ·split at h <;> (simp[T.get] at h)
theorem hG:Glob G0.raw:=⟨fun g x h=>by rw[(G_get h).1];decide,fun g x h=>by rw[(G_get h).2];decide⟩
abbrev H0:AHeap:=⟨nglob,G0.raw⟩
def Z0:Nat→Option ABlk:=fun g=>rawG.get g
theorem gz0:GZ Z0 G0:=by
 refine ⟨fun g x e=>?_,fun g x e=>e⟩
 simp only[G0,lk] at e
 split at e
 ·rename_i h;subst h;cases e
  refine ⟨by decide,fun ν=>⟨0,0,costCells,131,2,rfl,rfl,by decide,?_⟩⟩
  exact rv_of (.arr 5 coS) costsL ⟨rfl,fun x _=>⟨trivial,trivial⟩⟩
 ·cases e
theorem fro0:Px.Fro G0 H0:=⟨fun i x h=>by rw[(G_get h).2];rfl,fun i x h=>by rw[(G_get h).2];trivial,fun i x h=>by rw[(G_get h).1];decide,gz0⟩
end Go.Proofs.YtkiicobbnllpkaaGreatDoor
namespace Go.Proofs.YtkiicobbnllpkaaGreatDoor
open Go.Px Go.Ax
set_option maxRecDepth 100000
attribute [local irreducible] Go.Px.sy Go.Px.syE
abbrev TQ2:List SV→List (Nat × LB)→Prop:=fun rs _=>rs=[.bool true]
theorem ap_of {old:List Int} {p:PaT} (h:(chkV p).2=0) (hm:p.2.1<16777216) (ho:(old.length:Int)=p.2.1):apV old p=((symF p.2.2.2).map (ruB old),0):=by
 have hk:=chkV_ok h
 have hs:=sy_ok h
 unfold apV
 rw[hs,if_pos rfl]
 unfold plV
 rw[if_pos ho]
 exact runV_of hk.1 hm ho
theorem k2b_run (p q:PaT) (e:Int) (b:List Int) (hf:p.1=false) (h:(chkV p).2=0) (hs:p.2.2.1≤4096) (hn:p.2.2.2.length≤4096) (hq:foV p=(q,e)) :
  GD 3 Tryz.f3 TQ2 (midI 8 [] [.code (bodyOf Tryz.f3)]) ⟨[(1,.sl uB b),(4,.bool false),(5,.bool true),(6,.ptr 6 0),(7,.ptr 7 0),(8,.int .i64 e)],[(6,.var [.bool p.1,.int .i64 p.2.1,.int .i64 p.2.2.1,.sl opS p.2.2.2]),(7,.var [.bool q.1,.int .i64 q.2.1,.int .i64 q.2.2.1,.sl opS q.2.2.2])]⟩:=by
 obtain ⟨a1,a2,a3,a4,a5⟩:=fo_ok h hs
 rw[hq] at a1
 injection a1 with a1 e1
 obtain ⟨hr,hl,ho,_⟩:=chkV_ok h
 have hi:=chkV_in h
 have q2:(chkV q).2=0:=by rw[a1];exact a2
 have qs:symF q.2.2.2=symF p.2.2.2:=by rw[a1];exact a3
 have ql:q.2.2.2.length≤4096:=by rw[a1];exact a5
 have q11:q.1=p.1:=by rw[a1]
 have q21:q.2.1=p.2.1:=by rw[a1]
 have q31:q.2.2.1=p.2.2.1:=by rw[a1]
 have qr:=(chkV_ok q2).1
 have sv:saV p q=true:=(sa_val h q2).2 ⟨q11.symm,q21.symm,qs.symm⟩
 have cq:costF 0 q.2.2.2=cst (symF p.2.2.2):=by rw[a1];exact a4
 have cp:costF 0 p.2.2.2=costS p.2.2.2:=by rw[costF_of hr (Int.le_refl 0) (by omega),Int.zero_add]
 have sl:=symF_len hr
 have ge:=any_ge (m:=p.2.1) (by omega) hi.1 hr (by omega) (sym_sOK hi.1 (by omega) hr)
 have il:((inpL b p.2.1.toNat).length:Int)=p.2.1:=by rw[inpL_len];omega
 have vp:=ap_of h (by omega) il
 have vq:=ap_of q2 (by omega) (old:=inpL b p.2.1.toNat) (by rw[q21];exact il)
 rw[qs] at vq
 refine sy_go cxKe (vc_k2b p q e b _ _) ?_
 have w1:winL uB 0 (inpL b p.2.1.toNat).length (inpL b p.2.1.toNat)=inpL b p.2.1.toNat:=winA (e:=uB) _
 rw[w1,vp,vq,sv,q2,cp,cq,q21,q31]
 refine bc_of (fun h=>absurd e1 (of_decide_eq_true h)) (fun _=>⟨trivial,bc_of (fun h=>by simp at h) (fun _=>⟨trivial,bc_of (fun h=>by simp at h) (fun _=>⟨⟨rights_k14 qr,(show q.2.2.2.length<1099511627776 by omega)⟩,⟨rights_k14 hr,(show p.2.2.2.length<1099511627776 by omega)⟩,bc_of (fun h=>?_) (fun _=>bc_of (fun h=>by simp at h) (fun _=>bc_of (fun h=>by simp at h) (fun _=>⟨(show preI p.2.1 from ⟨hi.1,by omega⟩),by omega,hf,by omega,(show q.1=false by rw[q11];exact hf),?_⟩)))⟩)⟩)⟩)
 ·have h:decide (costS p.2.2.2<cst (symF p.2.2.2))=true:=h
  have h:=of_decide_eq_true h
  omega
 ·refine bc_of (fun _=>bc_of (fun _=>⟨by omega,by omega,bc_of (fun _=>rfl) (fun h=>?_)⟩) (fun h=>?_)) (fun h=>?_)
  ·exact absurd rfl (of_decide_eq_false h)
  ·exact absurd rfl (of_decide_eq_false h)
  ·exact absurd rfl (of_decide_eq_false h)
theorem k2_run (z:Int) (l4:List (List Int)) (b:List Int) (h6:preM6 z l4):GD 3 Tryz.f3 TQ2 [.code (bodyOf Tryz.f3)] (entry [raS,.sl uB] ((z,l4),b,())):=by
 have m0:0≤z % 13∧z % 13<13:=by omega
 have s0:=szV_chk (m:=z % 13) h6.2.1 m0.1 (by omega)
 have s1:(chkV (szV l4 (z % 13))).2=0:=by rw[s0]
 have s2:(szV l4 (z % 13)).2.2.1≤30:=(szO_sum h6.2.1 m0.1).2
 have s3:(szV l4 (z % 13)).2.2.2.length≤6:=szO_len l4 _
 refine sy_goKm cxKe (vc_k2a z l4 b _ _) ⟨trivial,h6,trivial,?_⟩
 exact (k2b_run (szV l4 (z % 13)) _ _ b rfl s1 (by omega) (by omega) rfl).only ⟨rfl,rfl,rfl,rfl,rfl,rfl,trivial⟩ ⟨rfl,rfl,trivial⟩
def ctL2k:Ctr:=⟨[raS,.sl uB],fun x=>preM6 x.1.1 x.1.2,fun _=>[.bool true],fun _=>[]⟩
theorem k2_held:Held Tryz.prog G0 3 ctL2k:=
 Held.of cxKe (fn:=Tryz.f3) rfl rfl ⟨by decide,by decide⟩ fun ⟨⟨z,l4⟩,b,_⟩ hp=>
  (k2_run z l4 b hp).post fun rs blk hq=>QC.flat (by rw[hq];rfl) rfl (by rw[hq];rfl)
end Go.Proofs.YtkiicobbnllpkaaGreatDoor
