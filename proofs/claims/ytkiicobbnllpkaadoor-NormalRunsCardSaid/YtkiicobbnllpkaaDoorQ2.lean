/-
  A part of the proof: what pieces of the program give; conditions: those of each theorem.
-/
import Derived.Test.YtkiicobbnllpkaaDoorQ1
import Derived.Test.YtkiicobbnllpkaaDoorHD
import Derived.KernelRfl
set_option linter.unusedVariables false
set_option linter.unusedSimpArgs false
namespace Go.Proofs.YtkiicobbnllpkaaDoor
open Go.Px Go.Ax
set_option maxRecDepth 100000
def CBs:CV:=[(60,.inl ctBg),(61,.inl ctBet)]
theorem cxBs:CxOK Tryd.prog tt G0 CBs:=(cx0.cons isB_held (fn:=Tryd.f61) rfl rfl rfl).cons beg_held (fn:=Tryd.f60) rfl rfl rfl
abbrev gtL (l:List LiT) (i:Nat):LiT:=gt liS l i
set_option maxRecDepth 100000
theorem vc_bs (l:List SyT) (Q:QT) (R:RT):sy tt G0 CBs Tryd.f57.ntmps Tryd.f57.results.toList Q (fun it S=>R it (keepS [0,3,4,5,6] [4,10] S)) 1000 [.code (bodyOf Tryd.f57)] (entry [.sl syS] (l,())) =
  ((0:Int)≤IntKind.i64.wrap ((l.length:Int)+(1:Int)) ∧
 IntKind.i64.wrap ((l.length:Int)+(1:Int))≤IntKind.i64.wrap ((l.length:Int)+(1:Int)) ∧
 IntKind.i64.wrap ((l.length:Int)+(1:Int))<(2:Int) ^ (24:Nat) ∧
 (↑(32:Nat):Int) * IntKind.i64.wrap ((l.length:Int)+(1:Int))≤(2:Int) ^ (48:Nat) ∧
 R (hd Tryd.f57 0) { env:=[(0,.sl syS l),(3,.win true liS 10 0 (IntKind.i64.wrap ((l.length:Int)+(1:Int))).toNat),(4,.ptr 4 0),(5,.int .i64 (IntKind.i64.wrap ((l.length:Int) - (1:Int))))],blk:=[(4,.var [.arr (5:Nat) liS (Sh.arr (5:Nat) liS).dflt]),(10,.row 104 liS (List.replicate (IntKind.i64.wrap ((l.length:Int)+(1:Int))).toNat liS.dflt))] }):=by kernel_rfl
theorem vc_bsO (l:List SyT) (b bg:List LiT) (i:Int) (Q:QT) (R:RT):sy tt G0 CBs Tryd.f57.ntmps Tryd.f57.results.toList Q (fun it S=>R it (keepS [0,3,4,5,6] [4,10] S)) 1000 (hd Tryd.f57 0) ⟨[(0,.sl syS l),(3,.win true liS 10 0 b.length),(4,.ptr 4 0),(5,.int .i64 i)],[(4,.var [.arr 5 liS bg]),(10,.row 104 liS b)]⟩ =
  (bc (decide ((0:Int)≤i)) (R (hd Tryd.f57 1) { env:=[(0,.sl syS l),(3,.win true liS 10 0 b.length),(4,.ptr 4 0),(5,.int .i64 i),(6,.int .i64 1)],blk:=[(4,.var [.arr (5:Nat) liS bg]),(10,.row 104 liS b)] }) (Q [.win true liS 10 0 b.length] [(4,.var [.arr (5:Nat) liS bg]),(10,.row 104 liS b)])):=by kernel_rfl
theorem vc_bsI (l:List SyT) (b bg:List LiT) (i k:Int) (Q:QT) (R:RT):sy tt G0 CBs Tryd.f57.ntmps Tryd.f57.results.toList Q (fun it S=>R it (keepS [0,3,4,5,6] [4,10] S)) 1000 (hd Tryd.f57 1) ⟨[(0,.sl syS l),(3,.win true liS 10 0 b.length),(4,.ptr 4 0),(5,.int .i64 i),(6,.int .i64 k)],[(4,.var [.arr 5 liS bg]),(10,.row 104 liS b)]⟩ =
  (bc (decide (k≤(4:Int))) ((0:Int)≤i ∧
 i≤(l.length:Int) ∧
 (0:Int)≤IntKind.i64.wrap (i+(1:Int)) ∧
 IntKind.i64.wrap (i+(1:Int))<(b.length:Int) ∧
 0+(IntKind.i64.wrap (i+(1:Int))).toNat<b.length ∧
 (0:Int)≤k ∧
 k<(↑(5:Nat):Int) ∧
 k.toNat<(5:Nat) ∧
 ctBg.pre (k,List.drop i.toNat l,((gtL b (0+(IntKind.i64.wrap (i+(1:Int))).toNat)).2.2),(gtL bg k.toNat),()) ∧
 (0:Int)≤k ∧
 k<(↑(5:Nat):Int) ∧
 k.toNat<(5:Nat) ∧
 (0:Int)≤k ∧
 k<(↑(5:Nat):Int) ∧
 k.toNat<(5:Nat) ∧
 (0:Int)≤i ∧
 i<(b.length:Int) ∧
 0+i.toNat<b.length ∧
 ctBet.pre ((gtL (bg.set k.toNat (begL k (List.drop i.toNat l) ((gtL b (0+(IntKind.i64.wrap (i+(1:Int))).toNat)).2.2) (gtL bg k.toNat))) k.toNat),(gtL b (0+i.toNat)),()) ∧
 bc (betB (gtL (bg.set k.toNat (begL k (List.drop i.toNat l) ((gtL b (0+(IntKind.i64.wrap (i+(1:Int))).toNat)).2.2) (gtL bg k.toNat))) k.toNat) (gtL b (0+i.toNat))) ((0:Int)≤k ∧
 k<(↑(5:Nat):Int) ∧
 k.toNat<(5:Nat) ∧
 (0:Int)≤i ∧
 i<(b.length:Int) ∧
 0+i.toNat<b.length ∧
 R (hd Tryd.f57 1) { env:=[(0,.sl syS l),(3,.win true liS 10 0 b.length),(4,.ptr 4 0),(5,.int .i64 i),(6,.int .i64 (IntKind.i64.wrap (k+(1:Int))))],blk:=[(4,.var [.arr (5:Nat) liS (bg.set k.toNat (begL k (List.drop i.toNat l) ((gtL b (0+(IntKind.i64.wrap (i+(1:Int))).toNat)).2.2) (gtL bg k.toNat)))]),(10,.row 104 liS (b.set (0+i.toNat) (gtL (bg.set k.toNat (begL k (List.drop i.toNat l) ((gtL b (0+(IntKind.i64.wrap (i+(1:Int))).toNat)).2.2) (gtL bg k.toNat))) k.toNat)))] }) (R (hd Tryd.f57 1) { env:=[(0,.sl syS l),(3,.win true liS 10 0 b.length),(4,.ptr 4 0),(5,.int .i64 i),(6,.int .i64 (IntKind.i64.wrap (k+(1:Int))))],blk:=[(4,.var [.arr (5:Nat) liS (bg.set k.toNat (begL k (List.drop i.toNat l) ((gtL b (0+(IntKind.i64.wrap (i+(1:Int))).toNat)).2.2) (gtL bg k.toNat)))]),(10,.row 104 liS b)] })) (R (hd Tryd.f57 0) { env:=[(0,.sl syS l),(3,.win true liS 10 0 b.length),(4,.ptr 4 0),(5,.int .i64 (IntKind.i64.wrap (i - (1:Int)))),(6,.int .i64 k)],blk:=[(4,.var [.arr (5:Nat) liS bg]),(10,.row 104 liS b)] })):=by kernel_rfl
end Go.Proofs.YtkiicobbnllpkaaDoor
namespace Go.Proofs.YtkiicobbnllpkaaDoor
open Go.Px Go.Ax
set_option maxRecDepth 100000
attribute [local irreducible] Go.Px.sy Go.Px.syE
def bT (l:List SyT) (m:Nat):List LiT:=(List.range (l.length+1)).map fun j=>if m≤j then bst (l.drop j) else zLi
theorem bT_len (l:List SyT) (m:Nat):(bT l m).length=l.length+1:=by simp [bT]
theorem bT_set (l:List SyT) (i:Nat) (hi:i≤l.length):bT l i=(bT l (i+1)).set i (bst (l.drop i)):=by
 refine List.ext_getElem? fun j=>?_
 rw [List.getElem?_set]
 by_cases h:i=j
 ·subst h
  rw [if_pos rfl,if_pos (by rw [bT_len];omega)]
  simp [bT,show i<l.length+1 by omega]
 ·rw [if_neg h]
  unfold bT
  by_cases hj:j<l.length+1
  ·simp only [List.getElem?_map,List.getElem?_range hj,Option.map_some]
   by_cases h2:i≤j
   ·rw [if_pos h2,if_pos (by omega)]
   ·rw [if_neg h2,if_neg (by omega)]
  ·simp [show l.length+1≤j by omega]
theorem bT_z (l:List SyT) (i:Nat) (hi:i≤l.length):(bT l (i+1)).set i zLi=bT l (i+1):=by
 refine List.ext_getElem? fun j=>?_
 rw [List.getElem?_set]
 by_cases h:i=j
 ·subst h
  rw [if_pos rfl,if_pos (by rw [bT_len];omega)]
  simp [bT,show i<l.length+1 by omega,show ¬ (i+1≤i) by omega]
 ·rw [if_neg h]
theorem bT_get (l:List SyT) (m j:Nat) (hj:j≤l.length) (hm:m≤j):gtL (bT l m) j=bst (l.drop j):=by
 show ((bT l m)[j]?).getD _=_
 simp [bT,show j<l.length+1 by omega,hm]
theorem bT_rep (l:List SyT):List.replicate (l.length+1) (liS.dflt:LiT)=bT l l.length:=by
 refine List.ext_getElem? fun j=>?_
 by_cases hj:j<l.length+1
 ·simp only [bT,List.getElem?_replicate,List.getElem?_map,List.getElem?_range hj,Option.map_some,if_pos hj]
  by_cases h:l.length≤j
  ·rw [if_pos h,List.drop_eq_nil_of_le h];rfl
  ·rw [if_neg h];rfl
 ·simp [bT,show l.length+1≤j by omega]
def bgL (r:List SyT):List LiT:=[zLi,beg r 1,beg r 2,beg r 3,beg r 4]
def bestsL (l:List SyT):List LiT:=bT l 0
def preBs (l:List SyT):Prop:=l.length≤65536
def ctBs:Ctr:=⟨[.sl syS],fun x=>preBs x.1,fun x=>[.win true liS 0 0 (bestsL x.1).length],fun x=>[.row 104 liS (bestsL x.1)]⟩
section
variable (l:List SyT) (hl:l.length≤65536)
abbrev BQ:List SV→List (Nat × LB)→Prop:=QC ctBs (l,())
abbrev bsO (b bg:List LiT) (i:Int):PS:=⟨[(0,.sl syS l),(3,.win true liS 10 0 b.length),(4,.ptr 4 0),(5,.int .i64 i)],[(4,.var [.arr 5 liS bg]),(10,.row 104 liS b)]⟩
abbrev bsI (b bg:List LiT) (i k:Int):PS:=⟨[(0,.sl syS l),(3,.win true liS 10 0 b.length),(4,.ptr 4 0),(5,.int .i64 i),(6,.int .i64 k)],[(4,.var [.arr 5 liS bg]),(10,.row 104 liS b)]⟩
include hl
theorem bs_step (i:Nat) (hi:i<l.length) (k:Nat) (hk:1≤k∧k≤4) (b bg:List LiT) (hb:b.length=l.length+1) (hbg:bg.length=5) (c:LiT) (h1:gtL b (i+1)=bst (l.drop (i+1))) (hg:gtL bg k=beg (l.drop (i+1)) k)
  (nx:GD 57 Tryd.f57 (BQ l) (hd Tryd.f57 1) (bsI l (b.set i (upd c (beg (l.drop i) k))) (bg.set k (beg (l.drop i) k)) i ((k+1:Nat):Int))) :
  GD 57 Tryd.f57 (BQ l) (hd Tryd.f57 1) (bsI l (b.set i c) bg i (k:Nat)):=by
 have kk:kOK (k:Int):=by unfold kOK;omega
 have hd:l.drop i=l[i]::l.drop (i+1):=List.drop_eq_getElem_cons hi
 have rl:(l.drop (i+1)).length=l.length - (i+1):=List.length_drop ..
 have ra:=ok_all (l.drop (i+1)) (by omega)
 have rb:=bst_bo (l.drop (i+1)) (by omega)
 have eb:begL k (l.drop i) (bst (l.drop (i+1))).2.2 (beg (l.drop (i+1)) k)=beg (l.drop i) k:=by
  rw [hd,beg_cons]
  unfold begL
  rw [gtY_z,gtY_s l[i] (l.drop (i+1)) 0]
 refine sy_goK cxBs (vc_bsI l (b.set i c) bg i k _ _) ?_
 have w1:IntKind.i64.wrap ((i:Int)+1)=((i+1:Nat):Int):=by rw [IntWalk.i64_in _ (by omega)];omega
 have w2:IntKind.i64.wrap ((k:Int)+1)=((k+1:Nat):Int):=by rw [IntWalk.i64_in _ (by omega)];omega
 have g1:gtL (b.set i c) (0+(i+1))=bst (l.drop (i+1)):=by
  rw [← h1,Nat.zero_add]
  show ((b.set i c)[i+1]?).getD _=(b[i+1]?).getD _
  rw [List.getElem?_set_ne (by omega)]
 have g2:∀ x,gtL (bg.set k x) k=x:=fun x=>by
  show ((bg.set k x)[k]?).getD _=_
  rw [List.getElem?_set_self (by omega)];rfl
 have g3:gtL (b.set i c) (0+i)=c:=by
  rw [Nat.zero_add]
  show ((b.set i c)[i]?).getD _=_
  rw [List.getElem?_set_self (by omega)];rfl
 rw [w1,w2,decide_eq_true (show (k:Int)≤4 by omega),bc_t]
 simp only [Int.toNat_natCast]
 rw [g1,hg,eb,g2,g3]
 have pl:(l.drop i).length=l.length - i:=List.length_drop ..
 have pre1:preBg k (l.drop i) (beg (l.drop (i+1)) k):=by
  refine ⟨kk,by omega,?_⟩
  rcases ra.1 k kk with h | ⟨_,n,n1,n2,n3,_⟩
  ·left;rw [h.2];rfl
  ·right
   have:=fitN_le k (l.drop (i+1))
   omega
 have pre2:boB (bst (l.drop (i+1))).2.2 (beg (l.drop (i+1)) k):=by
  unfold boL at rb
  refine ⟨by omega,?_⟩
  rcases ra.1 k kk with h | ⟨_,n,n1,n2,n3,_,_,h⟩
  ·rw [h.2];exact (show 0≤(0:Int)∧(0:Int)<16777216∧0≤(0:Int)∧(0:Int)<16777216 by decide)
  ·have:=fitN_le k (l.drop (i+1))
   unfold boL at h
   omega
 have bl:(b.set i c).length=l.length+1:=by rw [List.length_set];exact hb
 refine ⟨by omega,by omega,by omega,by omega,by omega,by omega,by omega,by omega,⟨pre1,pre2⟩,by omega,by omega,by omega,by omega,by omega,by omega,by omega,by omega,by omega,trivial,bc_of (fun h=>?_) (fun h=>?_)⟩
 ·have eu:upd c (beg (l.drop i) k)=beg (l.drop i) k:=by unfold upd;rw [if_pos h]
  rw [eu] at nx
  refine ⟨by omega,by omega,by omega,by omega,by omega,by omega,?_⟩
  rw [Nat.zero_add,List.set_set]
  exact nx.only ⟨rfl,by simp only [List.length_set];rfl,rfl,rfl,rfl,trivial⟩ ⟨rfl,rfl,trivial⟩
 ·have eu:upd c (beg (l.drop i) k)=c:=by unfold upd;rw [if_neg (by rw [h];decide)]
  rw [eu] at nx
  exact nx.only ⟨rfl,rfl,rfl,rfl,rfl,trivial⟩ ⟨rfl,rfl,trivial⟩
theorem bs_loop:∀ (n:Nat),n≤l.length→GD 57 Tryd.f57 (BQ l) (hd Tryd.f57 0) (bsO l (bT l n) (bgL (l.drop n)) ((n:Int) - 1)):=by
 intro n
 induction n with
 | zero=>
  intro hn
  refine sy_goK cxBs (vc_bsO l (bT l 0) (bgL (l.drop 0)) (((0:Nat):Int) - 1) _ _) ?_
  rw [decide_eq_false (by omega),bc_f]
  exact qc_row (e:=liS) (et:=104) (a:=10) (xs:=bestsL l) rfl rfl rfl rfl rfl
 | succ n ih=>
  intro hn
  have e:((n+1:Nat):Int) - 1=(n:Int):=by omega
  rw [e]
  refine sy_goK cxBs (vc_bsO l (bT l (n+1)) (bgL (l.drop (n+1))) n _ _) ?_
  rw [decide_eq_true (show (0:Int)≤(n:Int) by omega),bc_t]
  have fin:GD 57 Tryd.f57 (BQ l) (hd Tryd.f57 1) (bsI l (bT l n) (bgL (l.drop n)) n 5):=by
   refine sy_goK cxBs (vc_bsI l (bT l n) (bgL (l.drop n)) n 5 _ _) ?_
   rw [decide_eq_false (by omega),bc_f,IntWalk.i64_in ((n:Int) - 1) (by omega)]
   exact (ih (by omega)).only ⟨rfl,rfl,rfl,rfl,trivial⟩ ⟨rfl,rfl,trivial⟩
  have hb:=bT_len l (n+1)
  have h1:=bT_get l (n+1) (n+1) (by omega) (Nat.le_refl _)
  rw [bT_set l n (by omega)] at fin
  have hd:l.drop n=l[n]::l.drop (n+1):=List.drop_eq_getElem_cons hn
  have up:bst (l.drop n)=upd (upd (upd (upd zLi (beg (l.drop n) 1)) (beg (l.drop n) 2)) (beg (l.drop n) 3)) (beg (l.drop n) 4):=by rw [hd];rfl
  rw [up] at fin
  have s4:=bs_step l hl n hn 4 ⟨by omega,by omega⟩ (bT l (n+1)) [zLi,beg (l.drop n) 1,beg (l.drop n) 2,beg (l.drop n) 3,beg (l.drop (n+1)) 4] hb rfl _ h1 rfl (fin.only ⟨rfl,by simp only [List.length_set];rfl,rfl,rfl,rfl,trivial⟩ ⟨rfl,rfl,trivial⟩)
  have s3:=bs_step l hl n hn 3 ⟨by omega,by omega⟩ (bT l (n+1)) [zLi,beg (l.drop n) 1,beg (l.drop n) 2,beg (l.drop (n+1)) 3,beg (l.drop (n+1)) 4] hb rfl _ h1 rfl (s4.only ⟨rfl,by simp only [List.length_set];rfl,rfl,rfl,rfl,trivial⟩ ⟨rfl,rfl,trivial⟩)
  have s2:=bs_step l hl n hn 2 ⟨by omega,by omega⟩ (bT l (n+1)) [zLi,beg (l.drop n) 1,beg (l.drop (n+1)) 2,beg (l.drop (n+1)) 3,beg (l.drop (n+1)) 4] hb rfl _ h1 rfl (s3.only ⟨rfl,by simp only [List.length_set];rfl,rfl,rfl,rfl,trivial⟩ ⟨rfl,rfl,trivial⟩)
  have s1:=bs_step l hl n hn 1 ⟨by omega,by omega⟩ (bT l (n+1)) [zLi,beg (l.drop (n+1)) 1,beg (l.drop (n+1)) 2,beg (l.drop (n+1)) 3,beg (l.drop (n+1)) 4] hb rfl zLi h1 rfl (s2.only ⟨rfl,by simp only [List.length_set];rfl,rfl,rfl,rfl,trivial⟩ ⟨rfl,rfl,trivial⟩)
  rw [bT_z l n (by omega)] at s1
  exact s1.only ⟨rfl,rfl,rfl,rfl,rfl,trivial⟩ ⟨rfl,rfl,trivial⟩
theorem bs_run:GD 57 Tryd.f57 (BQ l) [.code (bodyOf Tryd.f57)] (entry [.sl syS] (l,())):=by
 refine sy_goK cxBs (vc_bs l _ _) ?_
 rw [IntWalk.i64_in ((l.length:Int)+1) (by omega),IntWalk.i64_in ((l.length:Int) - 1) (by omega)]
 have e:((l.length:Int)+1).toNat=l.length+1:=by omega
 rw [e]
 refine ⟨by omega,by omega,?_,?_,?_⟩
 ·show (l.length:Int)+1<16777216
  omega
 ·show (32:Int) * ((l.length:Int)+1)≤281474976710656
  omega
 ·have h:=bs_loop l hl l.length (Nat.le_refl _)
  rw [List.drop_length] at h
  rw [bT_rep l]
  exact h.only ⟨rfl,by rw [bT_len];rfl,rfl,rfl,trivial⟩ ⟨rfl,rfl,trivial⟩
end
theorem bs_held:Held Tryd.prog G0 57 ctBs:=Held.of cxBs (fn:=Tryd.f57) rfl rfl ⟨by decide,by decide⟩ fun ⟨l,_⟩ hp=>bs_run l hp
end Go.Proofs.YtkiicobbnllpkaaDoor
namespace Go.Proofs.YtkiicobbnllpkaaDoor
open Go.Px Go.Ax
set_option maxRecDepth 100000
def CCh:CV:=[(57,.inl ctBs),(58,.inl ctMk)]
theorem cxCh:CxOK Tryd.prog tt G0 CCh:=(cx0.cons mk_held (fn:=Tryd.f58) rfl rfl rfl).cons bs_held (fn:=Tryd.f57) rfl rfl rfl
set_option maxRecDepth 100000
theorem vc_ch (l:List SyT) (Q:QT) (R:RT):sy tt G0 CCh Tryd.f50.ntmps Tryd.f50.results.toList Q (fun it S=>R it (keepS [0,3,4,5] [3,8,14,1032768] S)) 1000 [.code (bodyOf Tryd.f50)] (entry [.sl syS] (l,())) =
  (ctBs.pre (l,()) ∧
 (0:Int)≤(0:Int) ∧
 (0:Int)<(↑(bestsL l).length:Int) ∧
 0+0<(bestsL l).length ∧
 (0:Int)≤(0:Int) ∧
 (0:Int)≤(gtL (bestsL l) (0+0)).2.2.2 ∧
 (gtL (bestsL l) (0+0)).2.2.2<(2:Int) ^ (24:Nat) ∧
 (↑(56:Nat):Int) * (gtL (bestsL l) (0+0)).2.2.2≤(2:Int) ^ (48:Nat) ∧
 R (hd Tryd.f50 0) { env:=[(0,.sl syS l),(3,.win true liS 1032768 0 (bestsL l).length),(4,.win true opS 14 0 (0:Nat)),(5,.int .i64 0)],blk:=[(14,.row 55 opS (List.replicate (0) opS.dflt)),(1032768,.row 104 liS (bestsL l))] }):=by kernel_rfl
theorem vc_chL (l:List SyT) (b:List LiT) (o:List OpT) (a:Nat) (Q:QT) (R:RT):sy tt G0 CCh Tryd.f50.ntmps Tryd.f50.results.toList Q (fun it S=>R it (keepS [0,3,4,5] [14,46,1032768] S)) 1000 (hd Tryd.f50 0) ⟨[(0,.sl syS l),(3,.win true liS 1032768 0 b.length),(4,.win true opS 14 0 o.length),(5,.int .i64 (a:Nat))],[(14,.row 55 opS o),(1032768,.row 104 liS b)]⟩ =
  (bc (decide ((a:Int)<(l.length:Int))) ((0:Int)≤(a:Int) ∧
 (a:Int)<(b.length:Int) ∧
 0+(a:Int).toNat<b.length ∧
 (0:Int)≤(a:Int) ∧
 (a:Int)<(b.length:Int) ∧
 0+(a:Int).toNat<b.length ∧
 (0:Int)≤(a:Int) ∧
 (a:Int)<IntKind.i64.wrap ((a:Int)+(gtL b (0+(a:Int).toNat)).2.1) ∧
 IntKind.i64.wrap ((a:Int)+(gtL b (0+(a:Int).toNat)).2.1)≤IntKind.i64.wrap ((a:Int)+(gtL b (0+(a:Int).toNat)).2.1) ∧
 IntKind.i64.wrap ((a:Int)+(gtL b (0+(a:Int).toNat)).2.1)≤(l.length:Int) ∧
 IntKind.i64.wrap ((a:Int)+(gtL b (0+(a:Int).toNat)).2.1)<(1099511627776:Int) ∧
 ctMk.pre ((gtL b (0+(a:Int).toNat)).1,Px.part l (some (a:Int)) (some (IntKind.i64.wrap ((a:Int)+(gtL b (0+(a:Int).toNat)).2.1))),()) ∧
 0+(1:Nat)≤([(mdK (gtL b (0+(a:Int).toNat)).1 (Px.part l (some (a:Int)) (some (IntKind.i64.wrap ((a:Int)+(gtL b (0+(a:Int).toNat)).2.1)))))]:List opS.D).length ∧
 o.length=o.length ∧
 (0:Nat)=(0:Nat) ∧
 o.length+(([(mdK (gtL b (0+(a:Int).toNat)).1 (Px.part l (some (a:Int)) (some (IntKind.i64.wrap ((a:Int)+(gtL b (0+(a:Int).toNat)).2.1)))))]:List opS.D)).length<(2:Nat) ^ (30:Nat) ∧
 (56:Nat)≤(2:Nat) ^ (10:Nat) ∧
 (0:Int)≤(a:Int) ∧
 (a:Int)<(b.length:Int) ∧
 0+(a:Int).toNat<b.length ∧
 R (hd Tryd.f50 0) { env:=[(0,.sl syS l),(3,.win true liS 1032768 0 b.length),(4,.win true opS 46 0 (o.length+(([(mdK (gtL b (0+(a:Int).toNat)).1 (Px.part l (some (a:Int)) (some (IntKind.i64.wrap ((a:Int)+(gtL b (0+(a:Int).toNat)).2.1)))))]:List opS.D)).length)),(5,.int .i64 (IntKind.i64.wrap ((a:Int)+(gtL b (0+(a:Int).toNat)).2.1)))],blk:=[(46,.row 55 opS (o++([(mdK (gtL b (0+(a:Int).toNat)).1 (Px.part l (some (a:Int)) (some (IntKind.i64.wrap ((a:Int)+(gtL b (0+(a:Int).toNat)).2.1)))))]:List opS.D))),(1032768,.row 104 liS b)] }) (Q [.win true opS 14 0 o.length] [(14,.row 55 opS o),(1032768,.row 104 liS b)])):=by kernel_rfl
theorem vc_chE (l:List SyT) (b:List LiT) (o:List OpT) (a:Nat) (Q:QT) (R:RT):sy tt G0 CCh Tryd.f50.ntmps Tryd.f50.results.toList Q (fun it S=>R it (keepS [0,3,4,5] [14,1032768] S)) 1000 (hd Tryd.f50 0) ⟨[(0,.sl syS l),(4,.sl opS o),(5,.int .i64 (a:Nat))],[]⟩ =
  (bc (decide ((a:Int)<(l.length:Int))) False (Q [.sl opS o] [])):=by kernel_rfl
end Go.Proofs.YtkiicobbnllpkaaDoor
namespace Go.Proofs.YtkiicobbnllpkaaDoor
open Go.Px Go.Ax
set_option maxRecDepth 100000
attribute [local irreducible] Go.Px.sy Go.Px.syE
def ctCh:Ctr:=⟨[.sl syS],fun x=>preBs x.1,fun x=>[.sl opS (chL x.1)],fun _=>[]⟩
theorem part_at (l:List SyT) (a n:Nat):Px.part l (some (a:Int)) (some ((a+n:Nat):Int))=(l.drop a).take n:=by
 simp only [Px.part,Int.toNat_natCast]
 first
  | (rw [List.drop_take];congr 1;omega)
  | (rw [List.take_drop];done)
  | simp [List.drop_take]
section
variable (l:List SyT) (hl:l.length≤65536)
include hl
theorem ch_end (o:List OpT) (a:Nat) (ha:a=l.length):GD 50 Tryd.f50 (OQ o) (hd Tryd.f50 0) ⟨[(0,.sl syS l),(3,.win true liS 1032768 0 (bestsL l).length),(4,.win true opS 14 0 o.length),(5,.int .i64 (a:Nat))],[(14,.row 55 opS o),(1032768,.row 104 liS (bestsL l))]⟩:=by
 have _:=hl
 subst ha
 refine Good.frz (i:=14) (e:=opS) (et:=55) (xs:=o) rfl (fun c hc=>?_) ?_
 ·have hc:c∈[0+o.length≤o.length]:=hc
  rw [List.mem_singleton] at hc;subst hc;omega
 ·have e:GD 50 Tryd.f50 (OQ o) (hd Tryd.f50 0) ⟨[(0,.sl syS l),(4,.sl opS (winL opS 0 o.length o)),(5,.int .i64 (l.length:Nat))],[]⟩:=by
   refine sy_goK cxCh (vc_chE l [] (winL opS 0 o.length o) l.length _ _) ?_
   rw [decide_eq_false (by omega),bc_f,winA]
  exact e.only ⟨rfl,rfl,rfl,trivial⟩ trivial
theorem ch_loop:∀ (f a:Nat) (o:List OpT),l.length - a≤f→a≤l.length→o.length≤a →
  GD 50 Tryd.f50 (OQ (o++chF f (l.drop a))) (hd Tryd.f50 0) ⟨[(0,.sl syS l),(3,.win true liS 1032768 0 (bestsL l).length),(4,.win true opS 14 0 o.length),(5,.int .i64 (a:Nat))],[(14,.row 55 opS o),(1032768,.row 104 liS (bestsL l))]⟩:=by
 intro f
 induction f with
 | zero=>
  intro a o hf ha ho
  rw [chF,List.append_nil]
  exact ch_end l hl o a (by omega)
 | succ f ih=>
  intro a o hf ha ho
  by_cases he:a=l.length
  ·rw [chF,if_pos (List.drop_eq_nil_of_le (by omega)),List.append_nil]
   exact ch_end l hl o a he
  ·have dl:(l.drop a).length=l.length - a:=List.length_drop ..
   have hne:l.drop a≠[]:=fun h=>by rw [h] at dl;simp at dl;omega
   obtain ⟨hb,n,n1,n2,n3,_⟩:=bst_ne (l:=l.drop a) (by omega) hne
   have hfit:=fitN_le (bst (l.drop a)).1 (l.drop a)
   have bl:(bestsL l).length=l.length+1:=bT_len l 0
   have nx:=ih (a+n) (o++[mdK (bst (l.drop a)).1 ((l.drop a).take n)]) (by omega) (by omega) (by rw [List.length_append,List.length_singleton];omega)
   have ec:chF (f+1) (l.drop a)=mdK (bst (l.drop a)).1 ((l.drop a).take n)::chF f (l.drop (a+n)):=by rw [chF,if_neg hne,n1,Int.toNat_natCast,List.drop_drop]
   rw [ec]
   rw [List.append_assoc,List.singleton_append] at nx
   refine sy_goK cxCh (vc_chL l (bestsL l) o a _ _) ?_
   have g1:gtL (bestsL l) (0+a)=bst (l.drop a):=by rw [Nat.zero_add];exact bT_get l 0 a ha (Nat.zero_le _)
   have w:IntKind.i64.wrap ((a:Int)+(n:Int))=((a+n:Nat):Int):=by rw [IntWalk.i64_in _ (by omega)];omega
   rw [decide_eq_true (show (a:Int)<(l.length:Int) by omega),bc_t,Int.toNat_natCast,g1,n1,w,part_at l a n]
   have tl:((l.drop a).take n).length=n:=by rw [List.length_take];omega
   refine ⟨by omega,by omega,by omega,by omega,by omega,by omega,by omega,by omega,by omega,by omega,by omega,(show preMk (bst (l.drop a)).1 ((l.drop a).take n) from ⟨hb,by omega,by omega⟩),Nat.le_refl 1,rfl,rfl,?_,by decide,by omega,by omega,by omega,?_⟩
   ·show o.length+1<2 ^ 30
    omega
   ·exact nx.onlyR [(14,46)] rfl ⟨rfl,rfl,by rw [List.length_append];rfl,rfl,trivial⟩ ⟨rfl,rfl,trivial⟩
theorem ch_run:GD 50 Tryd.f50 (QC ctCh (l,())) [.code (bodyOf Tryd.f50)] (entry [.sl syS] (l,())):=by
 refine sy_goK cxCh (vc_ch l _ _) ?_
 have bl:(bestsL l).length=l.length+1:=bT_len l 0
 have g0:gtL (bestsL l) (0+0)=bst l:=by
  have:=bT_get l 0 0 (Nat.zero_le _) (Nat.le_refl _)
  rw [List.drop_zero] at this
  exact this
 have hb:=bst_bo l hl
 unfold boL at hb
 rw [g0]
 refine ⟨hl,by omega,by omega,by omega,by omega,hb.2.2.1,?_,?_,?_⟩
 ·show (bst l).2.2.2<16777216
  omega
 ·show (56:Int) * (bst l).2.2.2≤281474976710656
  omega
 ·have h:=ch_loop l hl l.length 0 [] (by omega) (Nat.zero_le _) (Nat.zero_le _)
  rw [List.drop_zero,List.nil_append] at h
  exact (h.post fun rs blk hq=>QC.flat (by rw [hq];rfl) rfl (by rw [hq];rfl)).only ⟨rfl,rfl,rfl,rfl,trivial⟩ ⟨rfl,rfl,trivial⟩
end
theorem ch_held:Held Tryd.prog G0 50 ctCh:=Held.of cxCh (fn:=Tryd.f50) rfl rfl ⟨by decide,by decide⟩ fun ⟨l,_⟩ hp=>ch_run l hp
end Go.Proofs.YtkiicobbnllpkaaDoor
namespace Go.Proofs.YtkiicobbnllpkaaDoor
open Go.Px Go.Ax
set_option maxRecDepth 100000
def poV (l:List SyT) (m:Int):PaT × Int:=if 4096<(chL l).length then ((false,0,0,[]),2) else ((false,m,l.length,chL l),0)
def ctPo:Ctr:=⟨[.sl syS,iI],fun x=>preBs x.1,fun x=>[paV (poV x.1 x.2.1).1,.int .i64 (poV x.1 x.2.1).2],fun _=>[]⟩
def cpV (l:List SyT) (m:Int):PaT × Int:=if (ofV l m).2=60 then ((false,0,0,[]),60) else poV l m
def ctCp:Ctr:=⟨[.sl syS,iI],fun x=>List.length x.1<16777216,fun x=>[paV (cpV x.1 x.2.1).1,.int .i64 (cpV x.1 x.2.1).2],fun _=>[]⟩
def foV (p:PaT):PaT × Int:=if (symV p).2=0 then (if (poV (symV p).1 p.2.1).2=0 then ((p.1,(poV (symV p).1 p.2.1).1.2),0) else ((false,0,0,[]),(poV (symV p).1 p.2.1).2)) else ((false,0,0,[]),(symV p).2)
def ctFo:Ctr:=⟨[paS],fun _=>True,fun x=>[paV (foV x.1).1,.int .i64 (foV x.1).2],fun _=>[]⟩
def saV (p q:PaT):Bool:=decide (p.1=q.1) && (decide (p.2.1=q.2.1) && (decide ((symV p).2=0) && (decide ((symV q).2=0) && decide ((symV p).1=(symV q).1))))
def ctSa:Ctr:=⟨[paS,paS],fun _=>True,fun x=>[.bool (saV x.1 x.2.1)],fun _=>[]⟩
def ctEq:Ctr:=⟨[.sl syS,.sl syS],fun x=>List.length x.1<16777216,fun x=>[.bool (decide ((show List SyT from x.1)=x.2.1))],fun _=>[]⟩
def CPo:CV:=[(50,.inl ctCh)]
theorem cxPo:CxOK Tryd.prog tt G0 CPo:=cx0.cons ch_held (fn:=Tryd.f50) rfl rfl rfl
set_option maxRecDepth 100000
theorem vc_po (l:List SyT) (m:Int) (Q:QT) (R:RT):sy tt G0 CPo Tryd.f32.ntmps Tryd.f32.results.toList Q R 1000 [.code (bodyOf Tryd.f32)] (entry [.sl syS,iI] (l,m,())) =
  (ctCh.pre (l,()) ∧
 bc (decide ((4096:Int)<(↑(chL l).length:Int))) (Q [.agg [.bool false,.int .i64 0,.int .i64 0,.nils],.int .i64 2] [(4,.var [.bool false,.int .i64 0,.int .i64 0,.nils])]) (Q [.agg [.bool false,.int .i64 m,.int .i64 (l.length:Int),.sl opS (chL l)],.int .i64 0] [(4,.var [.bool false,.int .i64 m,.int .i64 (l.length:Int),.sl opS (chL l)])])):=by kernel_rfl
theorem vc_cp (l:List SyT) (m:Int) (Q:QT) (R:RT):sy tt G0 [(20,.inl ctOfA),(32,.inl ctPo)] Tryd.f15.ntmps Tryd.f15.results.toList Q R 1000 [.code (bodyOf Tryd.f15)] (entry [.sl syS,iI] (l,m,())) =
  (ctOfA.pre (l,m,()) ∧
 bc (decide ((ofV l m).2=(60:Int))) (Q [.agg [.bool false,.int .i64 0,.int .i64 0,.nils],.int .i64 (ofV l m).2] [(4,.var [.bool false,.int .i64 0,.int .i64 0,.nils]),(6,.var [.bool (ofV l m).1.1,.int .i64 (ofV l m).1.2.1,.int .i64 (ofV l m).1.2.2.1,.sl opS (ofV l m).1.2.2.2])]) (ctPo.pre (l,m,()) ∧
 Q [.agg [.bool (poV l m).1.1,.int .i64 (poV l m).1.2.1,.int .i64 (poV l m).1.2.2.1,.sl opS (poV l m).1.2.2.2],.int .i64 (poV l m).2] [(4,.var [.bool (poV l m).1.1,.int .i64 (poV l m).1.2.1,.int .i64 (poV l m).1.2.2.1,.sl opS (poV l m).1.2.2.2]),(6,.var [.bool (ofV l m).1.1,.int .i64 (ofV l m).1.2.1,.int .i64 (ofV l m).1.2.2.1,.sl opS (ofV l m).1.2.2.2])])):=by kernel_rfl
theorem vc_fo (li:Bool) (m o:Int) (l:List OpT) (Q:QT) (R:RT):sy tt G0 [(31,.inl ctSym),(32,.inl ctPo)] Tryd.f13.ntmps Tryd.f13.results.toList Q R 1000 [.code (bodyOf Tryd.f13)] (entry [paS] ((li,m,o,l),())) =
  (ctSym.pre ((li,m,o,l),()) ∧
 bc (decide ((symV (li,m,o,l)).2≠(0:Int))) (Q [.agg [.bool false,.int .i64 0,.int .i64 0,.nils],.int .i64 (symV (li,m,o,l)).2] [(1,.var [.bool li,.int .i64 m,.int .i64 o,.sl opS l]),(2,.var [.bool false,.int .i64 0,.int .i64 0,.nils]),(1036864,.row 52 syS (symV (li,m,o,l)).1)]) (0+(symV (li,m,o,l)).1.length≤(symV (li,m,o,l)).1.length ∧
 0+(symV (li,m,o,l)).1.length≤(symV (li,m,o,l)).1.length ∧
 0+(symV (li,m,o,l)).1.length≤(symV (li,m,o,l)).1.length ∧
 0+(symV (li,m,o,l)).1.length≤(symV (li,m,o,l)).1.length ∧
 0+(symV (li,m,o,l)).1.length≤(symV (li,m,o,l)).1.length ∧
 ctPo.pre (winL syS 0 (symV (li,m,o,l)).1.length (symV (li,m,o,l)).1,m,()) ∧
 bc (decide ((poV (winL syS 0 (symV (li,m,o,l)).1.length (symV (li,m,o,l)).1) m).2≠(0:Int))) (Q [.agg [.bool false,.int .i64 0,.int .i64 0,.nils],.int .i64 (poV (winL syS 0 (symV (li,m,o,l)).1.length (symV (li,m,o,l)).1) m).2] [(1,.var [.bool li,.int .i64 m,.int .i64 o,.sl opS l]),(2,.var [.bool false,.int .i64 0,.int .i64 0,.nils]),(6,.var [.bool (poV (winL syS 0 (symV (li,m,o,l)).1.length (symV (li,m,o,l)).1) m).1.1,.int .i64 (poV (winL syS 0 (symV (li,m,o,l)).1.length (symV (li,m,o,l)).1) m).1.2.1,.int .i64 (poV (winL syS 0 (symV (li,m,o,l)).1.length (symV (li,m,o,l)).1) m).1.2.2.1,.sl opS (poV (winL syS 0 (symV (li,m,o,l)).1.length (symV (li,m,o,l)).1) m).1.2.2.2])]) (Q [.agg [.bool li,.int .i64 (poV (winL syS 0 (symV (li,m,o,l)).1.length (symV (li,m,o,l)).1) m).1.2.1,.int .i64 (poV (winL syS 0 (symV (li,m,o,l)).1.length (symV (li,m,o,l)).1) m).1.2.2.1,.sl opS (poV (winL syS 0 (symV (li,m,o,l)).1.length (symV (li,m,o,l)).1) m).1.2.2.2],.int .i64 0] [(1,.var [.bool li,.int .i64 m,.int .i64 o,.sl opS l]),(2,.var [.bool li,.int .i64 (poV (winL syS 0 (symV (li,m,o,l)).1.length (symV (li,m,o,l)).1) m).1.2.1,.int .i64 (poV (winL syS 0 (symV (li,m,o,l)).1.length (symV (li,m,o,l)).1) m).1.2.2.1,.sl opS (poV (winL syS 0 (symV (li,m,o,l)).1.length (symV (li,m,o,l)).1) m).1.2.2.2]),(6,.var [.bool li,.int .i64 (poV (winL syS 0 (symV (li,m,o,l)).1.length (symV (li,m,o,l)).1) m).1.2.1,.int .i64 (poV (winL syS 0 (symV (li,m,o,l)).1.length (symV (li,m,o,l)).1) m).1.2.2.1,.sl opS (poV (winL syS 0 (symV (li,m,o,l)).1.length (symV (li,m,o,l)).1) m).1.2.2.2])]))):=by kernel_rfl
def mem_sa_m0 (li li2:Bool) (m o m2 o2:Int) (l l2:List OpT):List (Nat × LB):=[(2,.var [.bool li,.int .i64 m,.int .i64 o,.sl opS l]),(3,.var [.bool li2,.int .i64 m2,.int .i64 o2,.sl opS l2]),(1090112,.row 52 syS (symV (li,m,o,l)).1),(1118784,.row 52 syS (symV (li2,m2,o2,l2)).1)]
def mem_sa_m1 (li li2:Bool) (m o m2 o2:Int) (l l2:List OpT):List (Nat × LB):=[(2,.var [.bool li,.int .i64 m,.int .i64 o,.sl opS l]),(3,.var [.bool li2,.int .i64 m2,.int .i64 o2,.sl opS l2])]
theorem vc_sa (li li2:Bool) (m o m2 o2:Int) (l l2:List OpT) (Q:QT) (R:RT):sy tt G0 [(31,.inl ctSym),(37,.inl ctEq)] Tryd.f18.ntmps Tryd.f18.results.toList Q R 1000 [.code (bodyOf Tryd.f18)] (entry [paS,paS] ((li,m,o,l),(li2,m2,o2,l2),())) =
  (bc (!li == li2) (true=true ∧
 Q [.bool false] (mem_sa_m1 li li2 m o m2 o2 l l2)) (bc (bif false then true else decide (m≠m2)) (Q [.bool false] (mem_sa_m1 li li2 m o m2 o2 l l2)) (ctSym.pre ((li,m,o,l),()) ∧
 bc (decide ((symV (li,m,o,l)).2≠(0:Int))) (Q [.bool false] [(2,.var [.bool li,.int .i64 m,.int .i64 o,.sl opS l]),(3,.var [.bool li2,.int .i64 m2,.int .i64 o2,.sl opS l2]),(1090112,.row 52 syS (symV (li,m,o,l)).1)]) (ctSym.pre ((li2,m2,o2,l2),()) ∧
 bc (decide ((symV (li2,m2,o2,l2)).2=(0:Int))) (0+(symV (li,m,o,l)).1.length≤(symV (li,m,o,l)).1.length ∧
 0+(symV (li2,m2,o2,l2)).1.length≤(symV (li2,m2,o2,l2)).1.length ∧
 ctEq.pre (winL syS 0 (symV (li,m,o,l)).1.length (symV (li,m,o,l)).1,winL syS 0 (symV (li2,m2,o2,l2)).1.length (symV (li2,m2,o2,l2)).1,()) ∧
 Q [.bool (decide ((have this:=winL syS 0 (symV (li,m,o,l)).1.length (symV (li,m,o,l)).1;this)=winL syS 0 (symV (li2,m2,o2,l2)).1.length (symV (li2,m2,o2,l2)).1))] (mem_sa_m0 li li2 m o m2 o2 l l2)) (false=false ∧
 Q [.bool false] (mem_sa_m0 li li2 m o m2 o2 l l2)))))):=by kernel_rfl
theorem vc_eq (x y:List SyT) (Q:QT) (R:RT):sy tt G0 [] Tryd.f37.ntmps Tryd.f37.results.toList Q (fun it S=>R it (keepS [0,1,11,12,13] [] S)) 1000 [.code (bodyOf Tryd.f37)] (entry [.sl syS,.sl syS] (x,y,())) =
  (bc (decide ((x.length:Int)≠(y.length:Int))) (Q [.bool false] []) (R (hd Tryd.f37 0) { env:=[(0,.sl syS x),(1,.sl syS y),(11,.sl syS x),(12,.int .i64 (x.length:Int)),(13,.int .i64 0)],blk:=[] })):=by kernel_rfl
theorem vc_eqL (x y:List SyT) (i:Nat) (Q:QT) (R:RT):sy tt G0 [] Tryd.f37.ntmps Tryd.f37.results.toList Q (fun it S=>R it (keepS [0,1,11,12,13] [] S)) 1000 (hd Tryd.f37 0) ⟨[(0,.sl syS x),(1,.sl syS y),(11,.sl syS x),(12,.int .i64 x.length),(13,.int .i64 (i:Nat))],[]⟩ =
  (bc (decide ((i:Int)<(x.length:Int))) ((0:Int)≤(i:Int) ∧
 (i:Int)<(x.length:Int) ∧
 (0:Int)≤(i:Int) ∧
 (i:Int)<(y.length:Int) ∧
 bc (!decide ([Cl.cb (gtY x (i:Int).toNat).1,Cl.ci IntKind.i64 (gtY x (i:Int).toNat).2.1,Cl.ci IntKind.u8 (gtY x (i:Int).toNat).2.2]=[Cl.cb (gtY y (i:Int).toNat).1,Cl.ci IntKind.i64 (gtY y (i:Int).toNat).2.1,Cl.ci IntKind.u8 (gtY y (i:Int).toNat).2.2])) (Q [.bool false] []) (R (hd Tryd.f37 0) { env:=[(0,.sl syS x),(1,.sl syS y),(11,.sl syS x),(12,.int .i64 (x.length:Int)),(13,.int .i64 (IntKind.i64.wrap ((i:Int)+(1:Int))))],blk:=[] })) (Q [.bool true] [])):=by kernel_rfl
end Go.Proofs.YtkiicobbnllpkaaDoor
namespace Go.Proofs.YtkiicobbnllpkaaDoor
open Go.Px Go.Ax
set_option maxRecDepth 100000
attribute [local irreducible] Go.Px.sy Go.Px.syE
theorem zero_mt (z:Int):MtL (fun _=>none) [paV (false,0,0,[]),.int .i64 z] [.agg [.bool false,.int .i64 0,.int .i64 0,.nils],.int .i64 z]:=
 ⟨_,_,rfl,⟨_,rfl,_,_,rfl,rfl,_,_,rfl,rfl,_,_,rfl,rfl,_,_,rfl,.inr ⟨rfl,rfl⟩,rfl⟩,_,_,rfl,rfl,rfl⟩
theorem po_run (l:List SyT) (m:Int) (hp:l.length≤65536) (R:List Item→PS→Prop):sy tt G0 CPo Tryd.f32.ntmps Tryd.f32.results.toList (QC ctPo (l,m,())) R 1000 [.code (bodyOf Tryd.f32)] (entry [.sl syS,iI] (l,m,())):=by
 refine (vc_po l m _ _).mpr ⟨hp,bc_of (fun h=>?_) (fun h=>?_)⟩
 ·have h:(4096:Int)<((chL l).length:Int):=of_decide_eq_true h
  have hv:poV l m=((false,0,0,[]),2):=by unfold poV;rw [if_pos (by omega)]
  exact QC.mt (by show MtL _ [paV (poV l m).1,.int .i64 (poV l m).2] _;rw [hv];exact zero_mt _) rfl
 ·have h:¬ (4096:Int)<((chL l).length:Int):=of_decide_eq_false h
  have hv:poV l m=(((false,m,(l.length:Int),chL l):PaT),(0:Int)):=by unfold poV;rw [if_neg (by omega)]
  exact QC.flat (by show [paV (poV l m).1,.int .i64 (poV l m).2]=_;rw [hv];rfl) rfl rfl
theorem po_held:Held Tryd.prog G0 32 ctPo:=Held.run cxPo (fn:=Tryd.f32) rfl rfl ⟨by decide,by decide⟩ fun ⟨l,m,_⟩ hp=>po_run l m hp _
theorem ofV_60 {l:List SyT} {m:Int} (h:(ofV l m).2≠60):szB m=true∧szB l.length=true∧l.all (sOK m)=true:=by
 unfold ofV at h
 split at h
 ·assumption
 ·exact absurd rfl h
theorem ofV_60' {l:List SyT} {m:Int} (h:szB m=true∧szB l.length=true∧l.all (sOK m)=true):(ofV l m).2≠60:=by
 unfold ofV
 rw [if_pos h]
 split
 ·exact (show (2:Int)≠60 by decide)
 ·exact (show (0:Int)≠60 by decide)
theorem szB_le {n:Int} (h:szB n=true):0≤n∧n≤65536:=by simpa [szB] using h
theorem cxCp:CxOK Tryd.prog tt G0 [(20,.inl ctOfA),(32,.inl ctPo)]:=(cx0.cons po_held (fn:=Tryd.f32) rfl rfl rfl).cons ofA_held (fn:=Tryd.f20) rfl rfl rfl
theorem cp_run (l:List SyT) (m:Int) (hp:l.length<16777216) (R:List Item→PS→Prop):sy tt G0 [(20,.inl ctOfA),(32,.inl ctPo)] Tryd.f15.ntmps Tryd.f15.results.toList (QC ctCp (l,m,())) R 1000 [.code (bodyOf Tryd.f15)] (entry [.sl syS,iI] (l,m,())):=by
 refine (vc_cp l m _ _).mpr ⟨hp,bc_of (fun h=>?_) (fun h=>?_)⟩
 ·have h:(ofV l m).2=60:=of_decide_eq_true h
  have hv:cpV l m=((false,0,0,[]),60):=by unfold cpV;rw [if_pos h]
  rw [h]
  exact QC.mt (by show MtL _ [paV (cpV l m).1,.int .i64 (cpV l m).2] _;rw [hv];exact zero_mt _) rfl
 ·have h:¬ (ofV l m).2=60:=of_decide_eq_false h
  have hz:=szB_le (ofV_60 h).2.1
  have hv:cpV l m=poV l m:=by unfold cpV;rw [if_neg h]
  exact ⟨(show l.length≤65536 by omega),QC.flat (by show [paV (cpV l m).1,.int .i64 (cpV l m).2]=_;rw [hv];rfl) rfl rfl⟩
theorem cp_held:Held Tryd.prog G0 15 ctCp:=Held.run cxCp (fn:=Tryd.f15) rfl rfl ⟨by decide,by decide⟩ fun ⟨l,m,_⟩ hp=>cp_run l m hp _
theorem symV_le (p:PaT):(symV p).1.length≤65536:=by
 unfold symV
 split
 ·rename_i h
  obtain ⟨h1,h2,h3,_⟩:=chkV_ok h
  have:=symF_len h1
  show (symF p.2.2.2).length≤65536
  omega
 ·exact Nat.zero_le _
theorem cxFo:CxOK Tryd.prog tt G0 [(31,.inl ctSym),(32,.inl ctPo)]:=(cx0.cons po_held (fn:=Tryd.f32) rfl rfl rfl).cons sym_held (fn:=Tryd.f31) rfl rfl rfl
theorem fo_run (li:Bool) (m o:Int) (l:List OpT) (R:List Item→PS→Prop):sy tt G0 [(31,.inl ctSym),(32,.inl ctPo)] Tryd.f13.ntmps Tryd.f13.results.toList (QC ctFo ((li,m,o,l),())) R 1000 [.code (bodyOf Tryd.f13)] (entry [paS] ((li,m,o,l),())):=by
 refine (vc_fo li m o l _ _).mpr ⟨trivial,bc_of (fun h=>?_) (fun h=>?_)⟩
 ·have h:(symV (li,m,o,l)).2≠0:=of_decide_eq_true h
  have hv:foV (li,m,o,l)=((false,0,0,[]),(symV (li,m,o,l)).2):=by unfold foV;rw [if_neg h]
  exact QC.mt (by show MtL _ [paV (foV (li,m,o,l)).1,.int .i64 (foV (li,m,o,l)).2] _;rw [hv];exact zero_mt _) rfl
 ·have h:¬ (symV (li,m,o,l)).2≠0:=of_decide_eq_false h
  have h:(symV (li,m,o,l)).2=0:=by omega
  rw [winA]
  refine ⟨by omega,by omega,by omega,by omega,by omega,symV_le _,bc_of (fun h2=>?_) (fun h2=>?_)⟩
  ·have h2:(poV (symV (li,m,o,l)).1 m).2≠0:=of_decide_eq_true h2
   have hv:foV (li,m,o,l)=((false,0,0,[]),(poV (symV (li,m,o,l)).1 m).2):=by unfold foV;rw [if_pos h,if_neg h2]
   exact QC.mt (by show MtL _ [paV (foV (li,m,o,l)).1,.int .i64 (foV (li,m,o,l)).2] _;rw [hv];exact zero_mt _) rfl
  ·have h2:¬ (poV (symV (li,m,o,l)).1 m).2≠0:=of_decide_eq_false h2
   have h2:(poV (symV (li,m,o,l)).1 m).2=0:=by omega
   have hv:foV (li,m,o,l)=((li,(poV (symV (li,m,o,l)).1 m).1.2),0):=by unfold foV;rw [if_pos h,if_pos h2]
   exact QC.flat (by show [paV (foV (li,m,o,l)).1,.int .i64 (foV (li,m,o,l)).2]=_;rw [hv];rfl) rfl rfl
theorem fo_held:Held Tryd.prog G0 13 ctFo:=Held.run cxFo (fn:=Tryd.f13) rfl rfl ⟨by decide,by decide⟩ fun ⟨⟨li,m,o,l⟩,_⟩ _=>fo_run li m o l _
theorem eq_loop (x y:List SyT) (hl:x.length<16777216) (he:x.length=y.length):∀ (k i:Nat),x.length - i=k→i≤x.length→x.take i=y.take i →
  GD 37 Tryd.f37 (fun rs _=>rs=[.bool (decide (x=y))]) (hd Tryd.f37 0) ⟨[(0,.sl syS x),(1,.sl syS y),(11,.sl syS x),(12,.int .i64 x.length),(13,.int .i64 (i:Nat))],[]⟩:=by
 intro k
 induction k with
 | zero=>
  intro i hk hi ht
  refine sy_goK cx0 (vc_eqL x y i _ _) ?_
  rw [decide_eq_false (show ¬ (i:Int)<(x.length:Int) by omega),bc_f]
  rw [List.take_of_length_le (by omega),List.take_of_length_le (by omega)] at ht
  show [SV.bool true]=_
  rw [decide_eq_true ht]
 | succ k ih=>
  intro i hk hi ht
  have hx:i<x.length:=by omega
  have hy:i<y.length:=by omega
  refine sy_goK cx0 (vc_eqL x y i _ _) ?_
  rw [decide_eq_true (show (i:Int)<(x.length:Int) by omega),bc_t,Int.toNat_natCast,gtY_at hx,gtY_at hy,IntWalk.i64_in ((i:Int)+1) (by omega)]
  refine ⟨by omega,by omega,by omega,by omega,bc_of (fun h=>?_) (fun h=>?_)⟩
  ·have h:¬ x[i]=y[i]:=fun q=>by
    rw [decide_eq_true (sy_eq.2 q)] at h;cases h
   show [SV.bool false]=_
   rw [decide_eq_false (fun q=>h (by simp only [q]))]
  ·have h:x[i]=y[i]:=by
    rw [Bool.not_eq_false'] at h
    exact sy_eq.1 (of_decide_eq_true h)
   exact (ih (i+1) (by omega) (by omega) (by rw [List.take_succ_eq_append_getElem hx,List.take_succ_eq_append_getElem hy,ht,h])).only ⟨rfl,rfl,rfl,rfl,rfl,trivial⟩ trivial
theorem eq_run (x y:List SyT) (hl:x.length<16777216):GD 37 Tryd.f37 (QC ctEq (x,y,())) [.code (bodyOf Tryd.f37)] (entry [.sl syS,.sl syS] (x,y,())):=by
 refine sy_goK cx0 (vc_eq x y _ _) (bc_of (fun h=>?_) (fun h=>?_))
 ·have h:(x.length:Int)≠(y.length:Int):=of_decide_eq_true h
  refine QC.flat ?_ rfl rfl
  show [SV.bool (decide (x=y))]=_
  rw [decide_eq_false (fun q=>h (by rw [q]))]
 ·have h:¬ (x.length:Int)≠(y.length:Int):=of_decide_eq_false h
  exact ((eq_loop x y hl (by omega) _ 0 rfl (Nat.zero_le _) rfl).post fun rs blk hq=>QC.flat (by rw [hq];rfl) rfl (by rw [hq];rfl)).only ⟨rfl,rfl,rfl,rfl,rfl,trivial⟩ trivial
theorem eq_held:Held Tryd.prog G0 37 ctEq:=Held.of cx0 (fn:=Tryd.f37) rfl rfl ⟨by decide,by decide⟩ fun ⟨x,y,_⟩ hp=>eq_run x y hp
theorem cxSa:CxOK Tryd.prog tt G0 [(31,.inl ctSym),(37,.inl ctEq)]:=(cx0.cons eq_held (fn:=Tryd.f37) rfl rfl rfl).cons sym_held (fn:=Tryd.f31) rfl rfl rfl
theorem sa_run (li li2:Bool) (m o m2 o2:Int) (l l2:List OpT) (R:List Item→PS→Prop):sy tt G0 [(31,.inl ctSym),(37,.inl ctEq)] Tryd.f18.ntmps Tryd.f18.results.toList (QC ctSa ((li,m,o,l),(li2,m2,o2,l2),())) R 1000 [.code (bodyOf Tryd.f18)] (entry [paS,paS] ((li,m,o,l),(li2,m2,o2,l2),())):=by
 have out:∀ b,saV (li,m,o,l) (li2,m2,o2,l2)=b→ctSa.out ((li,m,o,l),(li2,m2,o2,l2),())=[SV.bool b]:=fun b e=>congrArg (fun b=>[SV.bool b]) e
 refine (vc_sa li li2 m o m2 o2 l l2 _ _).mpr (bc_of (fun h=>⟨rfl,?_⟩) (fun h=>bc_of (fun h2=>?_) (fun h2=>⟨trivial,bc_of (fun h3=>?_) (fun h3=>⟨trivial,bc_of (fun h4=>?_) (fun h4=>?_)⟩)⟩)))
 ·have h:¬ li=li2:=by simpa using h
  exact QC.flat (out _ (by unfold saV;rw [decide_eq_false h];rfl)) rfl rfl
 all_goals have h:li=li2:=by simpa using h
 ·have h2:decide (m≠m2)=true:=h2
  have h2:¬ m=m2:=of_decide_eq_true h2
  exact QC.flat (out _ (by unfold saV;rw [decide_eq_true (show (li,m,o,l).1=(li2,m2,o2,l2).1 from h),decide_eq_false (show ¬ (li,m,o,l).2.1=(li2,m2,o2,l2).2.1 from h2)];rfl)) rfl rfl
 all_goals
  have h2:decide (m≠m2)=false:=h2
  have h2:¬ m≠m2:=of_decide_eq_false h2
  have h2:m=m2:=by omega
  have e1:decide ((li,m,o,l).1=(li2,m2,o2,l2).1)=true:=decide_eq_true h
  have e2:decide ((li,m,o,l).2.1=(li2,m2,o2,l2).2.1)=true:=decide_eq_true h2
 ·have h3:(symV (li,m,o,l)).2≠0:=of_decide_eq_true h3
  exact QC.flat (out _ (by unfold saV;rw [e1,e2,decide_eq_false h3];rfl)) rfl rfl
 all_goals
  have h3:¬ (symV (li,m,o,l)).2≠0:=of_decide_eq_false h3
  have h3:(symV (li,m,o,l)).2=0:=by omega
 ·have h4:(symV (li2,m2,o2,l2)).2=0:=of_decide_eq_true h4
  rw [winA,winA]
  refine ⟨by omega,by omega,symV_len _,?_⟩
  exact QC.flat (out _ (by unfold saV;rw [e1,e2,decide_eq_true h3,decide_eq_true h4];rfl)) rfl rfl
 ·have h4:¬ (symV (li2,m2,o2,l2)).2=0:=of_decide_eq_false h4
  refine ⟨rfl,?_⟩
  exact QC.flat (out _ (by unfold saV;rw [e1,e2,decide_eq_true h3,decide_eq_false h4];rfl)) rfl rfl
theorem sa_held:Held Tryd.prog G0 18 ctSa:=Held.run cxSa (fn:=Tryd.f18) rfl rfl ⟨by decide,by decide⟩ fun ⟨⟨li,m,o,l⟩,⟨li2,m2,o2,l2⟩,_⟩ _=>sa_run li li2 m o m2 o2 l l2 _
end Go.Proofs.YtkiicobbnllpkaaDoor
namespace Go.Proofs.YtkiicobbnllpkaaDoor
open Go.Px Go.Ax
set_option maxRecDepth 100000
def ctOld:Ctr:=⟨[iI,uB],fun _=>True,fun x=>[.agg [.bool true,.int .i64 x.1,.int .u8 x.2.1]],fun _=>[]⟩
def litL (x:List Int):List SyT:=x.map fun b=>(false,0,b)
def ctLit:Ctr:=⟨[.sl uB],fun x=>List.length x.1<1000000,fun x=>[.win true syS 0 0 (litL x.1).length],fun x=>[.row 52 syS (litL x.1)]⟩
def fmB (l:List SyT) (o:List OpT):Bool:=decide ((cpV l 4).2=0) && smB (cpV l 4).1 (false,4,l.length,o)
def ctFm:Ctr:=⟨[.sl syS,.sl opS],fun x=>List.length x.1<1000000,fun x=>[.bool (fmB x.1 x.2.1)],fun _=>[]⟩
def CFm:CV:=[(15,.inl ctCp),(17,.inl ctSm)]
theorem cxFm:CxOK Tryd.prog tt G0 CFm:=(cx0.cons sm_held (fn:=Tryd.f17) rfl rfl rfl).cons cp_held (fn:=Tryd.f15) rfl rfl rfl
set_option maxRecDepth 100000
theorem vc_old (a b:Int) (Q:QT) (R:RT):sy tt G0 [] Tryd.f25.ntmps Tryd.f25.results.toList Q R 1000 [.code (bodyOf Tryd.f25)] (entry [iI,uB] (a,b,())) =
  (Q [.agg [.bool true,.int .i64 a,.int .u8 b]] [(4,.var [.bool true,.int .i64 a,.int .u8 b])]):=by kernel_rfl
theorem vc_lit (x:List Int) (Q:QT) (R:RT):sy tt G0 [] Tryd.f29.ntmps Tryd.f29.results.toList Q (fun it S=>R it (keepS [0,3,4] [5,3] S)) 1000 [.code (bodyOf Tryd.f29)] (entry [.sl uB] (x,())) =
  (R (hd Tryd.f29 0) { env:=[(0,.sl uB x),(3,.win true syS 5 0 (0:Nat)),(4,.int .i64 0)],blk:=[(5,.row 52 syS (List.replicate (0:Nat) syS.dflt))] }):=by kernel_rfl
theorem vc_litL (x:List Int) (o:List SyT) (i:Nat) (Q:QT) (R:RT):sy tt G0 [] Tryd.f29.ntmps Tryd.f29.results.toList Q (fun it S=>R it (keepS [0,3,4] [5,19] S)) 1000 (hd Tryd.f29 0) ⟨[(0,.sl uB x),(3,.win true syS 5 0 o.length),(4,.int .i64 (i:Nat))],[(5,.row 52 syS o)]⟩ =
  (bc (decide ((i:Int)<(x.length:Int))) ((0:Int)≤(i:Int) ∧
 (i:Int)<(x.length:Int) ∧
 0+(1:Nat)≤([(false,(0:Int),gtB x (i:Int).toNat)]:List syS.D).length ∧
 o.length=o.length ∧
 (0:Nat)=(0:Nat) ∧
 o.length+(([(false,(0:Int),gtB x (i:Int).toNat)]:List syS.D)).length<(2:Nat) ^ (30:Nat) ∧
 (24:Nat)≤(2:Nat) ^ (10:Nat) ∧
 R (hd Tryd.f29 0) { env:=[(0,.sl uB x),(3,.win true syS 19 0 (o.length+(([(false,(0:Int),gtB x (i:Int).toNat)]:List syS.D)).length)),(4,.int .i64 (IntKind.i64.wrap ((i:Int)+(1:Int))))],blk:=[(19,.row 52 syS (o++([(false,(0:Int),gtB x (i:Int).toNat)]:List syS.D)))] }) (Q [.win true syS 5 0 o.length] [(5,.row 52 syS o)])):=by kernel_rfl
def mem_fm_m0 (l:List SyT):List (Nat × LB):=[(5,.var [.bool (cpV l (4:Int)).1.1,.int .i64 (cpV l (4:Int)).1.2.1,.int .i64 (cpV l (4:Int)).1.2.2.1,.sl opS (cpV l (4:Int)).1.2.2.2])]
theorem vc_fm (l:List SyT) (o:List OpT) (Q:QT) (R:RT):sy tt G0 CFm Tryd.f28.ntmps Tryd.f28.results.toList Q R 1000 [.code (bodyOf Tryd.f28)] (entry [.sl syS,.sl opS] (l,o,())) =
  (ctCp.pre (l,(4:Int),()) ∧
 bc (decide ((cpV l (4:Int)).2=(0:Int))) (ctSm.pre (((cpV l (4:Int)).1.1,(cpV l (4:Int)).1.2.1,(cpV l (4:Int)).1.2.2.1,(cpV l (4:Int)).1.2.2.2),(false,(4:Int),(l.length:Int),o),()) ∧
 Q [.bool (bif true then smB ((cpV l (4:Int)).1.1,(cpV l (4:Int)).1.2.1,(cpV l (4:Int)).1.2.2.1,(cpV l (4:Int)).1.2.2.2) (false,(4:Int),(l.length:Int),o) else false)] (mem_fm_m0 l)) (false=false ∧
 Q [.bool false] (mem_fm_m0 l))):=by kernel_rfl
end Go.Proofs.YtkiicobbnllpkaaDoor
namespace Go.Proofs.YtkiicobbnllpkaaDoor
open Go.Px Go.Ax
set_option maxRecDepth 100000
attribute [local irreducible] Go.Px.sy Go.Px.syE
theorem old_held:Held Tryd.prog G0 25 ctOld:=Held.run cx0 (fn:=Tryd.f25) rfl rfl ⟨by decide,by decide⟩ fun ⟨a,b,_⟩ _=>(vc_old a b _ _).mpr (QC.flat rfl rfl rfl)
theorem lit_loop (x:List Int) (hx:x.length<1000000):∀ (c i:Nat),x.length - i=c→i≤x.length →
  GD 29 Tryd.f29 (QC ctLit (x,())) (hd Tryd.f29 0) ⟨[(0,.sl uB x),(3,.win true syS 5 0 (litL (x.take i)).length),(4,.int .i64 (i:Nat))],[(5,.row 52 syS (litL (x.take i)))]⟩:=by
 intro c
 induction c with
 | zero=>
  intro i hc hi
  refine sy_goK cx0 (vc_litL x (litL (x.take i)) i _ _) ?_
  rw [decide_eq_false (by omega),bc_f,List.take_of_length_le (by omega)]
  exact qc_row (e:=syS) (et:=52) (a:=5) (xs:=litL x) rfl rfl rfl rfl rfl
 | succ c ih=>
  intro i hc hi
  have hil:i<x.length:=by omega
  have nx:=ih (i+1) (by omega) (by omega)
  have e:litL (x.take (i+1))=litL (x.take i)++[(false,0,x[i])]:=by unfold litL;rw [List.take_succ_eq_append_getElem hil,List.map_append];rfl
  have ll:(litL (x.take i)).length=i:=by simp [litL];omega
  rw [e] at nx
  refine sy_goK cx0 (vc_litL x (litL (x.take i)) i _ _) ?_
  rw [decide_eq_true (show (i:Int)<(x.length:Int) by omega),bc_t,Int.toNat_natCast,gtB_at hil,IntWalk.i64_in ((i:Int)+1) (by omega)]
  refine ⟨by omega,by omega,Nat.le_refl 1,rfl,rfl,?_,by decide,?_⟩
  ·show (litL (x.take i)).length+1<2 ^ 30
   omega
  ·exact nx.onlyR [(5,19)] rfl ⟨rfl,by rw [List.length_append];rfl,rfl,trivial⟩ ⟨rfl,trivial⟩
theorem lit_held:Held Tryd.prog G0 29 ctLit:=Held.of cx0 (fn:=Tryd.f29) rfl rfl ⟨by decide,by decide⟩ fun ⟨x,_⟩ hp=>
 sy_goK cx0 (vc_lit x _ _) ((lit_loop x hp _ 0 rfl (Nat.zero_le _)).only ⟨rfl,rfl,rfl,trivial⟩ ⟨rfl,trivial⟩)
theorem poV_ops (l:List SyT) (m:Int):(poV l m).1.2.2.2.length≤4096:=by
 unfold poV
 split
 ·exact Nat.zero_le _
 ·show (chL l).length≤4096
  omega
theorem cpV_ops (l:List SyT) (m:Int):(cpV l m).1.2.2.2.length≤4096:=by
 unfold cpV
 split
 ·exact Nat.zero_le _
 ·exact poV_ops l m
theorem fm_run (l:List SyT) (o:List OpT) (hl:l.length<1000000) (R:List Item→PS→Prop):sy tt G0 CFm Tryd.f28.ntmps Tryd.f28.results.toList (QC ctFm (l,o,())) R 1000 [.code (bodyOf Tryd.f28)] (entry [.sl syS,.sl opS] (l,o,())):=by
 have out:∀ b,fmB l o=b→ctFm.out (l,o,())=[SV.bool b]:=fun b e=>congrArg (fun b=>[SV.bool b]) e
 refine (vc_fm l o _ _).mpr ⟨(show l.length<16777216 by omega),bc_of (fun h=>⟨?_,?_⟩) (fun h=>⟨rfl,?_⟩)⟩
 ·show (cpV l 4).1.2.2.2.length<1099511627776
  have:=cpV_ops l 4
  omega
 ·exact QC.flat (out _ (by unfold fmB;rw [h];rfl)) rfl rfl
 ·exact QC.flat (out _ (by unfold fmB;rw [h];rfl)) rfl rfl
theorem fm_held:Held Tryd.prog G0 28 ctFm:=Held.run cxFm (fn:=Tryd.f28) rfl rfl ⟨by decide,by decide⟩ fun ⟨l,o,_⟩ hp=>fm_run l o hp _
end Go.Proofs.YtkiicobbnllpkaaDoor
namespace Go.Proofs.YtkiicobbnllpkaaDoor
open Go.Px Go.Ax
set_option maxRecDepth 100000
def CSn:CV:=[(25,.inl ctOld),(29,.inl ctLit),(28,.inl ctFm),(15,.inl ctCp),(13,.inl ctFo),(17,.inl ctSm),(18,.inl ctSa)]
theorem cxSn:CxOK Tryd.prog tt G0 CSn:=((((((cx0.cons sa_held (fn:=Tryd.f18) rfl rfl rfl).cons sm_held (fn:=Tryd.f17) rfl rfl rfl).cons fo_held (fn:=Tryd.f13) rfl rfl rfl).cons cp_held (fn:=Tryd.f15) rfl rfl rfl).cons fm_held (fn:=Tryd.f28) rfl rfl rfl).cons lit_held (fn:=Tryd.f29) rfl rfl rfl).cons old_held (fn:=Tryd.f25) rfl rfl rfl
set_option maxRecDepth 100000
theorem vc_san  (Q:QT) (R:RT):sy tt G0 CSn Tryd.f10.ntmps Tryd.f10.results.toList Q R 1000 [.code (bodyOf Tryd.f10)] (entry [] ()) =
  (ctOld.pre ((0:Int),(0:Int),()) ∧
 ctOld.pre ((1:Int),(0:Int),()) ∧
 ctOld.pre ((2:Int),(0:Int),()) ∧
 0+(3:Nat)≤((((List.replicate (3:Nat) syS.dflt).set (0:Nat) (true,(0:Int),(0:Int))).set (1:Nat) (true,(1:Int),(0:Int))).set (2:Nat) (true,(2:Int),(0:Int))).length ∧
 0+(1:Nat)≤([((1:Int),(0:Int),(3:Int),(0:Int),[])]:List opS.D).length ∧
 ctFm.pre (winL syS (0:Nat) (3:Nat) ((((List.replicate (3:Nat) syS.dflt).set (0:Nat) (true,(0:Int),(0:Int))).set (1:Nat) (true,(1:Int),(0:Int))).set (2:Nat) (true,(2:Int),(0:Int))),([((1:Int),(0:Int),(3:Int),(0:Int),[])]:List opS.D),()) ∧
 ctOld.pre ((0:Int),(0:Int),()) ∧
 ctOld.pre ((1:Int),(1:Int),()) ∧
 ctOld.pre ((2:Int),(0:Int),()) ∧
 0+(3:Nat)≤((((List.replicate (3:Nat) uB.dflt).set (0:Nat) (0:Int)).set (1:Nat) (1:Int)).set (2:Nat) (0:Int)).length ∧
 0+(3:Nat)≤((((List.replicate (3:Nat) uB.dflt).set (0:Nat) (0:Int)).set (1:Nat) (1:Int)).set (2:Nat) (0:Int)).length ∧
 0+(3:Nat)≤((((List.replicate (3:Nat) syS.dflt).set (0:Nat) (true,(0:Int),(0:Int))).set (1:Nat) (true,(1:Int),(1:Int))).set (2:Nat) (true,(2:Int),(0:Int))).length ∧
 0+(1:Nat)≤([((2:Int),(0:Int),(3:Int),(0:Int),winL uB (0:Nat) (3:Nat) ((((List.replicate (3:Nat) uB.dflt).set (0:Nat) (0:Int)).set (1:Nat) (1:Int)).set (2:Nat) (0:Int)))]:List opS.D).length ∧
 ctFm.pre (winL syS (0:Nat) (3:Nat) ((((List.replicate (3:Nat) syS.dflt).set (0:Nat) (true,(0:Int),(0:Int))).set (1:Nat) (true,(1:Int),(1:Int))).set (2:Nat) (true,(2:Int),(0:Int))),([((2:Int),(0:Int),(3:Int),(0:Int),winL uB (0:Nat) (3:Nat) ((((List.replicate (3:Nat) uB.dflt).set (0:Nat) (0:Int)).set (1:Nat) (1:Int)).set (2:Nat) (0:Int)))]:List opS.D),()) ∧
 0+(1:Nat)≤([(5:Int)]:List uB.D).length ∧
 ctLit.pre (([(5:Int)]:List uB.D),()) ∧
 0+(1:Nat)≤([(5:Int)]:List uB.D).length ∧
 0+(1:Nat)≤([(5:Int)]:List uB.D).length ∧
 0+(litL (([(5:Int)]:List uB.D))).length≤(litL (([(5:Int)]:List uB.D))).length ∧
 0+(1:Nat)≤([((4:Int),(0:Int),(1:Int),(0:Int),([(5:Int)]:List uB.D))]:List opS.D).length ∧
 ctFm.pre (winL syS 0 (litL (([(5:Int)]:List uB.D))).length (litL (([(5:Int)]:List uB.D))),([((4:Int),(0:Int),(1:Int),(0:Int),winL uB (0:Nat) (1:Nat) ([(5:Int)]:List uB.D))]:List opS.D),()) ∧
 0+(2:Nat)≤(((List.replicate (2:Nat) uB.dflt).set (0:Nat) (5:Int)).set (1:Nat) (5:Int)).length ∧
 ctLit.pre (winL uB (0:Nat) (2:Nat) (((List.replicate (2:Nat) uB.dflt).set (0:Nat) (5:Int)).set (1:Nat) (5:Int)),()) ∧
 0+(litL (winL uB (0:Nat) (2:Nat) (((List.replicate (2:Nat) uB.dflt).set (0:Nat) (5:Int)).set (1:Nat) (5:Int)))).length≤(litL (winL uB (0:Nat) (2:Nat) (((List.replicate (2:Nat) uB.dflt).set (0:Nat) (5:Int)).set (1:Nat) (5:Int)))).length ∧
 0+(1:Nat)≤([((3:Int),(0:Int),(2:Int),(5:Int),[])]:List opS.D).length ∧
 ctFm.pre (winL syS 0 (litL (winL uB (0:Nat) (2:Nat) (((List.replicate (2:Nat) uB.dflt).set (0:Nat) (5:Int)).set (1:Nat) (5:Int)))).length (litL (winL uB (0:Nat) (2:Nat) (((List.replicate (2:Nat) uB.dflt).set (0:Nat) (5:Int)).set (1:Nat) (5:Int)))),([((3:Int),(0:Int),(2:Int),(5:Int),[])]:List opS.D),()) ∧
 0+(6:Nat)≤(((((((List.replicate (6:Nat) uB.dflt).set (0:Nat) (1:Int)).set (1:Nat) (7:Int)).set (2:Nat) (7:Int)).set (3:Nat) (7:Int)).set (4:Nat) (7:Int)).set (5:Nat) (2:Int)).length ∧
 ctLit.pre (winL uB (0:Nat) (6:Nat) (((((((List.replicate (6:Nat) uB.dflt).set (0:Nat) (1:Int)).set (1:Nat) (7:Int)).set (2:Nat) (7:Int)).set (3:Nat) (7:Int)).set (4:Nat) (7:Int)).set (5:Nat) (2:Int)),()) ∧
 0+(6:Nat)≤(((((((List.replicate (6:Nat) uB.dflt).set (0:Nat) (1:Int)).set (1:Nat) (7:Int)).set (2:Nat) (7:Int)).set (3:Nat) (7:Int)).set (4:Nat) (7:Int)).set (5:Nat) (2:Int)).length ∧
 0+(6:Nat)≤(((((((List.replicate (6:Nat) uB.dflt).set (0:Nat) (1:Int)).set (1:Nat) (7:Int)).set (2:Nat) (7:Int)).set (3:Nat) (7:Int)).set (4:Nat) (7:Int)).set (5:Nat) (2:Int)).length ∧
 0+(litL (winL uB (0:Nat) (6:Nat) (((((((List.replicate (6:Nat) uB.dflt).set (0:Nat) (1:Int)).set (1:Nat) (7:Int)).set (2:Nat) (7:Int)).set (3:Nat) (7:Int)).set (4:Nat) (7:Int)).set (5:Nat) (2:Int)))).length≤(litL (winL uB (0:Nat) (6:Nat) (((((((List.replicate (6:Nat) uB.dflt).set (0:Nat) (1:Int)).set (1:Nat) (7:Int)).set (2:Nat) (7:Int)).set (3:Nat) (7:Int)).set (4:Nat) (7:Int)).set (5:Nat) (2:Int)))).length ∧
 0+(1:Nat)≤([((4:Int),(0:Int),(6:Int),(0:Int),winL uB (0:Nat) (6:Nat) (((((((List.replicate (6:Nat) uB.dflt).set (0:Nat) (1:Int)).set (1:Nat) (7:Int)).set (2:Nat) (7:Int)).set (3:Nat) (7:Int)).set (4:Nat) (7:Int)).set (5:Nat) (2:Int)))]:List opS.D).length ∧
 ctFm.pre (winL syS 0 (litL (winL uB (0:Nat) (6:Nat) (((((((List.replicate (6:Nat) uB.dflt).set (0:Nat) (1:Int)).set (1:Nat) (7:Int)).set (2:Nat) (7:Int)).set (3:Nat) (7:Int)).set (4:Nat) (7:Int)).set (5:Nat) (2:Int)))).length (litL (winL uB (0:Nat) (6:Nat) (((((((List.replicate (6:Nat) uB.dflt).set (0:Nat) (1:Int)).set (1:Nat) (7:Int)).set (2:Nat) (7:Int)).set (3:Nat) (7:Int)).set (4:Nat) (7:Int)).set (5:Nat) (2:Int)))),([((4:Int),(0:Int),(6:Int),(0:Int),winL uB (0:Nat) (6:Nat) (((((((List.replicate (6:Nat) uB.dflt).set (0:Nat) (1:Int)).set (1:Nat) (7:Int)).set (2:Nat) (7:Int)).set (3:Nat) (7:Int)).set (4:Nat) (7:Int)).set (5:Nat) (2:Int)))]:List opS.D),()) ∧
 0+(12:Nat)≤(((((((((((((List.replicate (12:Nat) uB.dflt).set (0:Nat) (1:Int)).set (1:Nat) (7:Int)).set (2:Nat) (7:Int)).set (3:Nat) (7:Int)).set (4:Nat) (7:Int)).set (5:Nat) (7:Int)).set (6:Nat) (7:Int)).set (7:Nat) (7:Int)).set (8:Nat) (7:Int)).set (9:Nat) (7:Int)).set (10:Nat) (7:Int)).set (11:Nat) (7:Int)).length ∧
 ctLit.pre (winL uB (0:Nat) (12:Nat) (((((((((((((List.replicate (12:Nat) uB.dflt).set (0:Nat) (1:Int)).set (1:Nat) (7:Int)).set (2:Nat) (7:Int)).set (3:Nat) (7:Int)).set (4:Nat) (7:Int)).set (5:Nat) (7:Int)).set (6:Nat) (7:Int)).set (7:Nat) (7:Int)).set (8:Nat) (7:Int)).set (9:Nat) (7:Int)).set (10:Nat) (7:Int)).set (11:Nat) (7:Int)),()) ∧
 0+(1:Nat)≤([(1:Int)]:List uB.D).length ∧
 0+(1:Nat)≤([(1:Int)]:List uB.D).length ∧
 0+(litL (winL uB (0:Nat) (12:Nat) (((((((((((((List.replicate (12:Nat) uB.dflt).set (0:Nat) (1:Int)).set (1:Nat) (7:Int)).set (2:Nat) (7:Int)).set (3:Nat) (7:Int)).set (4:Nat) (7:Int)).set (5:Nat) (7:Int)).set (6:Nat) (7:Int)).set (7:Nat) (7:Int)).set (8:Nat) (7:Int)).set (9:Nat) (7:Int)).set (10:Nat) (7:Int)).set (11:Nat) (7:Int)))).length≤(litL (winL uB (0:Nat) (12:Nat) (((((((((((((List.replicate (12:Nat) uB.dflt).set (0:Nat) (1:Int)).set (1:Nat) (7:Int)).set (2:Nat) (7:Int)).set (3:Nat) (7:Int)).set (4:Nat) (7:Int)).set (5:Nat) (7:Int)).set (6:Nat) (7:Int)).set (7:Nat) (7:Int)).set (8:Nat) (7:Int)).set (9:Nat) (7:Int)).set (10:Nat) (7:Int)).set (11:Nat) (7:Int)))).length ∧
 0+(2:Nat)≤(((List.replicate (2:Nat) opS.dflt).set (0:Nat) ((4:Int),(0:Int),(1:Int),(0:Int),([(1:Int)]:List uB.D))).set (1:Nat) ((3:Int),(0:Int),(11:Int),(7:Int),[])).length ∧
 ctFm.pre (winL syS 0 (litL (winL uB (0:Nat) (12:Nat) (((((((((((((List.replicate (12:Nat) uB.dflt).set (0:Nat) (1:Int)).set (1:Nat) (7:Int)).set (2:Nat) (7:Int)).set (3:Nat) (7:Int)).set (4:Nat) (7:Int)).set (5:Nat) (7:Int)).set (6:Nat) (7:Int)).set (7:Nat) (7:Int)).set (8:Nat) (7:Int)).set (9:Nat) (7:Int)).set (10:Nat) (7:Int)).set (11:Nat) (7:Int)))).length (litL (winL uB (0:Nat) (12:Nat) (((((((((((((List.replicate (12:Nat) uB.dflt).set (0:Nat) (1:Int)).set (1:Nat) (7:Int)).set (2:Nat) (7:Int)).set (3:Nat) (7:Int)).set (4:Nat) (7:Int)).set (5:Nat) (7:Int)).set (6:Nat) (7:Int)).set (7:Nat) (7:Int)).set (8:Nat) (7:Int)).set (9:Nat) (7:Int)).set (10:Nat) (7:Int)).set (11:Nat) (7:Int)))),winL opS (0:Nat) (2:Nat) (((List.replicate (2:Nat) opS.dflt).set (0:Nat) ((4:Int),(0:Int),(1:Int),(0:Int),([(1:Int)]:List uB.D))).set (1:Nat) ((3:Int),(0:Int),(11:Int),(7:Int),[])),()) ∧
 ctOld.pre ((4:Int),(0:Int),()) ∧
 0+(1:Nat)≤([(true,(4:Int),(0:Int))]:List syS.D).length ∧
 ctCp.pre (([(true,(4:Int),(0:Int))]:List syS.D),(4:Int),()) ∧
 ctCp.pre ([],(-1:Int),()) ∧
 ctFo.pre ((false,(0:Int),(1:Int),[]),()) ∧
 ctFo.pre ((true,(2:Int),(0:Int),[]),()) ∧
 ctSm.pre (((foV (true,(2:Int),(0:Int),[])).1.1,(foV (true,(2:Int),(0:Int),[])).1.2.1,(foV (true,(2:Int),(0:Int),[])).1.2.2.1,(foV (true,(2:Int),(0:Int),[])).1.2.2.2),(true,(2:Int),(0:Int),[]),()) ∧
 ctSa.pre (((foV (true,(2:Int),(0:Int),[])).1.1,(foV (true,(2:Int),(0:Int),[])).1.2.1,(foV (true,(2:Int),(0:Int),[])).1.2.2.1,(foV (true,(2:Int),(0:Int),[])).1.2.2.2),((foV (true,(2:Int),(0:Int),[])).1.1,(foV (true,(2:Int),(0:Int),[])).1.2.1,(foV (true,(2:Int),(0:Int),[])).1.2.2.1,(foV (true,(2:Int),(0:Int),[])).1.2.2.2),()) ∧
 ctSa.pre (((foV (true,(2:Int),(0:Int),[])).1.1,(foV (true,(2:Int),(0:Int),[])).1.2.1,(foV (true,(2:Int),(0:Int),[])).1.2.2.1,(foV (true,(2:Int),(0:Int),[])).1.2.2.2),(false,(2:Int),(0:Int),[]),()) ∧
 ctSa.pre ((false,(0:Int),(1:Int),[]),(false,(0:Int),(1:Int),[]),()) ∧
 Q [.bool (bif true then !saV (false,(0:Int),(1:Int),[]) (false,(0:Int),(1:Int),[]) else false)] [(4,.var [.bool (cpV (([(true,(4:Int),(0:Int))]:List syS.D)) (4:Int)).1.1,.int .i64 (cpV (([(true,(4:Int),(0:Int))]:List syS.D)) (4:Int)).1.2.1,.int .i64 (cpV (([(true,(4:Int),(0:Int))]:List syS.D)) (4:Int)).1.2.2.1,.sl opS (cpV (([(true,(4:Int),(0:Int))]:List syS.D)) (4:Int)).1.2.2.2]),(6,.var [.bool (cpV [] (-1:Int)).1.1,.int .i64 (cpV [] (-1:Int)).1.2.1,.int .i64 (cpV [] (-1:Int)).1.2.2.1,.sl opS (cpV [] (-1:Int)).1.2.2.2]),(8,.var [.bool (foV (false,(0:Int),(1:Int),[])).1.1,.int .i64 (foV (false,(0:Int),(1:Int),[])).1.2.1,.int .i64 (foV (false,(0:Int),(1:Int),[])).1.2.2.1,.sl opS (foV (false,(0:Int),(1:Int),[])).1.2.2.2]),(10,.var [.bool (foV (true,(2:Int),(0:Int),[])).1.1,.int .i64 (foV (true,(2:Int),(0:Int),[])).1.2.1,.int .i64 (foV (true,(2:Int),(0:Int),[])).1.2.2.1,.sl opS (foV (true,(2:Int),(0:Int),[])).1.2.2.2]),(16,.row 52 syS ((((List.replicate (3:Nat) syS.dflt).set (0:Nat) (true,(0:Int),(0:Int))).set (1:Nat) (true,(1:Int),(0:Int))).set (2:Nat) (true,(2:Int),(0:Int)))),(18,.row 55 opS ([((1:Int),(0:Int),(3:Int),(0:Int),[])]:List opS.D)),(24,.row 52 syS ((((List.replicate (3:Nat) syS.dflt).set (0:Nat) (true,(0:Int),(0:Int))).set (1:Nat) (true,(1:Int),(1:Int))).set (2:Nat) (true,(2:Int),(0:Int)))),(27,.row 55 opS ([((2:Int),(0:Int),(3:Int),(0:Int),winL uB (0:Nat) (3:Nat) ((((List.replicate (3:Nat) uB.dflt).set (0:Nat) (0:Int)).set (1:Nat) (1:Int)).set (2:Nat) (0:Int)))]:List opS.D)),(30,.row 5 uB ([(5:Int)]:List uB.D)),(34,.row 55 opS ([((4:Int),(0:Int),(1:Int),(0:Int),([(5:Int)]:List uB.D))]:List opS.D)),(37,.row 5 uB (((List.replicate (2:Nat) uB.dflt).set (0:Nat) (5:Int)).set (1:Nat) (5:Int))),(40,.row 55 opS ([((3:Int),(0:Int),(2:Int),(5:Int),[])]:List opS.D)),(43,.row 5 uB (((((((List.replicate (6:Nat) uB.dflt).set (0:Nat) (1:Int)).set (1:Nat) (7:Int)).set (2:Nat) (7:Int)).set (3:Nat) (7:Int)).set (4:Nat) (7:Int)).set (5:Nat) (2:Int))),(47,.row 55 opS ([((4:Int),(0:Int),(6:Int),(0:Int),winL uB (0:Nat) (6:Nat) (((((((List.replicate (6:Nat) uB.dflt).set (0:Nat) (1:Int)).set (1:Nat) (7:Int)).set (2:Nat) (7:Int)).set (3:Nat) (7:Int)).set (4:Nat) (7:Int)).set (5:Nat) (2:Int)))]:List opS.D)),(50,.row 5 uB (((((((((((((List.replicate (12:Nat) uB.dflt).set (0:Nat) (1:Int)).set (1:Nat) (7:Int)).set (2:Nat) (7:Int)).set (3:Nat) (7:Int)).set (4:Nat) (7:Int)).set (5:Nat) (7:Int)).set (6:Nat) (7:Int)).set (7:Nat) (7:Int)).set (8:Nat) (7:Int)).set (9:Nat) (7:Int)).set (10:Nat) (7:Int)).set (11:Nat) (7:Int))),(55,.row 55 opS (((List.replicate (2:Nat) opS.dflt).set (0:Nat) ((4:Int),(0:Int),(1:Int),(0:Int),([(1:Int)]:List uB.D))).set (1:Nat) ((3:Int),(0:Int),(11:Int),(7:Int),[]))),(1126976,.row 52 syS (litL (([(5:Int)]:List uB.D)))),(1155648,.row 52 syS (litL (winL uB (0:Nat) (2:Nat) (((List.replicate (2:Nat) uB.dflt).set (0:Nat) (5:Int)).set (1:Nat) (5:Int))))),(1180224,.row 52 syS (litL (winL uB (0:Nat) (6:Nat) (((((((List.replicate (6:Nat) uB.dflt).set (0:Nat) (1:Int)).set (1:Nat) (7:Int)).set (2:Nat) (7:Int)).set (3:Nat) (7:Int)).set (4:Nat) (7:Int)).set (5:Nat) (2:Int))))),(1208896,.row 52 syS (litL (winL uB (0:Nat) (12:Nat) (((((((((((((List.replicate (12:Nat) uB.dflt).set (0:Nat) (1:Int)).set (1:Nat) (7:Int)).set (2:Nat) (7:Int)).set (3:Nat) (7:Int)).set (4:Nat) (7:Int)).set (5:Nat) (7:Int)).set (6:Nat) (7:Int)).set (7:Nat) (7:Int)).set (8:Nat) (7:Int)).set (9:Nat) (7:Int)).set (10:Nat) (7:Int)).set (11:Nat) (7:Int)))))]):=by kernel_rfl
end Go.Proofs.YtkiicobbnllpkaaDoor
namespace Go.Proofs.YtkiicobbnllpkaaDoor
open Go.Px Go.Ax
set_option maxRecDepth 100000
attribute [local irreducible] Go.Px.sy Go.Px.syE
def ctSan:Ctr:=⟨[],fun _=>True,fun _=>[.bool true],fun _=>[]⟩
theorem san_run (R:List Item→PS→Prop):sy tt G0 CSn Tryd.f10.ntmps Tryd.f10.results.toList (QC ctSan ()) R 1000 [.code (bodyOf Tryd.f10)] (entry [] ()):=by
 refine (vc_san _ _).mpr ?_
 repeat' first
  | exact trivial
  | (show List.length _<1000000;decide +kernel)
  | (show List.length _<16777216;decide +kernel)
  | (show List.length _<1099511627776;decide +kernel)
  | decide +kernel
  | refine And.intro ?_ ?_
  | (refine QC.flat ?_ rfl rfl)
  | (refine congrArg (fun b=>[SV.bool b]) ?_;decide +kernel)
theorem san_held:Held Tryd.prog G0 10 ctSan:=Held.run cxSn (fn:=Tryd.f10) rfl rfl ⟨by decide,by decide⟩ fun x _=>san_run _
end Go.Proofs.YtkiicobbnllpkaaDoor
namespace Go.Proofs.YtkiicobbnllpkaaDoor
open Go.Px Go.Ax
set_option maxRecDepth 100000
abbrev hS:Sh:=.int .u16
def CRu:CV:=[(10,.inl ctSan),(25,.inl ctOld),(15,.inl ctCp),(26,.inl ctSO)]
theorem cxRu:CxOK Tryd.prog tt G0 CRu:=(((cx0.cons so_held (fn:=Tryd.f26) rfl rfl rfl).cons cp_held (fn:=Tryd.f15) rfl rfl rfl).cons old_held (fn:=Tryd.f25) rfl rfl rfl).cons san_held (fn:=Tryd.f10) rfl rfl rfl
set_option maxRecDepth 100000
theorem vc_r7 (n b f:Int) (Q:QT) (R:RT):sy tt G0 CRu Tryd.f7.ntmps Tryd.f7.results.toList Q (fun it S=>R it (keepS [1,2,6,7,8,9,10,11,12,13] [26,27,28,29,39,47,58,64] S)) 1000 [.code (bodyOf Tryd.f7)] (entry [hS,uB,uB] (n,b,f,())) =
  (ctSan.pre () ∧
 (2000:Int)≠(0:Int) ∧
 R (hd Tryd.f7 0) { env:=[(1,.int .u8 b),(2,.int .u8 f),(6,.bool false),(7,.bool true),(8,.int .i64 (IntKind.i64.wrap ((1:Int)+(IntKind.i64.wrap n).tmod (2000:Int)))),(9,.win true syS 26 0 (0:Nat)),(10,.win true syS 27 0 (0:Nat)),(11,.win true syS 28 0 (0:Nat)),(12,.win true uB 29 0 (0:Nat)),(13,.int .i64 0)],blk:=[(26,.row 52 syS (List.replicate (0:Nat) syS.dflt)),(27,.row 52 syS (List.replicate (0:Nat) syS.dflt)),(28,.row 52 syS (List.replicate (0:Nat) syS.dflt)),(29,.row 5 uB (List.replicate (0:Nat) uB.dflt))] }):=by kernel_rfl
def mem_r7L_m0 (b f k:Int) (x y z:List SyT) (d:List Int):List (Nat × LB):=[(14,.var [.bool (cpV (winL syS (0:Nat) x.length x) (0:Int)).1.1,.int .i64 (cpV (winL syS (0:Nat) x.length x) (0:Int)).1.2.1,.int .i64 (cpV (winL syS (0:Nat) x.length x) (0:Int)).1.2.2.1,.sl opS (cpV (winL syS (0:Nat) x.length x) (0:Int)).1.2.2.2]),(16,.var [.bool (cpV (winL syS (0:Nat) y.length y) (IntKind.i64.wrap (IntKind.i64.wrap f+k))).1.1,.int .i64 (cpV (winL syS (0:Nat) y.length y) (IntKind.i64.wrap (IntKind.i64.wrap f+k))).1.2.1,.int .i64 (cpV (winL syS (0:Nat) y.length y) (IntKind.i64.wrap (IntKind.i64.wrap f+k))).1.2.2.1,.sl opS (cpV (winL syS (0:Nat) y.length y) (IntKind.i64.wrap (IntKind.i64.wrap f+k))).1.2.2.2]),(18,.var [.bool (cpV (winL syS (0:Nat) z.length z) (IntKind.i64.wrap (IntKind.i64.wrap f+k))).1.1,.int .i64 (cpV (winL syS (0:Nat) z.length z) (IntKind.i64.wrap (IntKind.i64.wrap f+k))).1.2.1,.int .i64 (cpV (winL syS (0:Nat) z.length z) (IntKind.i64.wrap (IntKind.i64.wrap f+k))).1.2.2.1,.sl opS (cpV (winL syS (0:Nat) z.length z) (IntKind.i64.wrap (IntKind.i64.wrap f+k))).1.2.2.2]),(20,.var [.int .i64 4,.int .i64 0,.int .i64 1,.int .u8 0,.win true uB 94 0 (1:Nat)]),(29,.row 5 uB d),(94,.row 5 uB ([b]:List uB.D))]
def mem_r7L_m1 (b f k:Int) (x y z:List SyT) (d:List Int):List (Nat × LB):=[(14,.var [.bool (cpV (winL syS (0:Nat) x.length x) (0:Int)).1.1,.int .i64 (cpV (winL syS (0:Nat) x.length x) (0:Int)).1.2.1,.int .i64 (cpV (winL syS (0:Nat) x.length x) (0:Int)).1.2.2.1,.sl opS (cpV (winL syS (0:Nat) x.length x) (0:Int)).1.2.2.2]),(16,.var [.bool (cpV (winL syS (0:Nat) y.length y) (IntKind.i64.wrap (IntKind.i64.wrap f+k))).1.1,.int .i64 (cpV (winL syS (0:Nat) y.length y) (IntKind.i64.wrap (IntKind.i64.wrap f+k))).1.2.1,.int .i64 (cpV (winL syS (0:Nat) y.length y) (IntKind.i64.wrap (IntKind.i64.wrap f+k))).1.2.2.1,.sl opS (cpV (winL syS (0:Nat) y.length y) (IntKind.i64.wrap (IntKind.i64.wrap f+k))).1.2.2.2]),(18,.var [.bool (cpV (winL syS (0:Nat) z.length z) (IntKind.i64.wrap (IntKind.i64.wrap f+k))).1.1,.int .i64 (cpV (winL syS (0:Nat) z.length z) (IntKind.i64.wrap (IntKind.i64.wrap f+k))).1.2.1,.int .i64 (cpV (winL syS (0:Nat) z.length z) (IntKind.i64.wrap (IntKind.i64.wrap f+k))).1.2.2.1,.sl opS (cpV (winL syS (0:Nat) z.length z) (IntKind.i64.wrap (IntKind.i64.wrap f+k))).1.2.2.2]),(20,.var [.int .i64 3,.int .i64 0,.int .i64 k,.int .u8 b,.nils]),(29,.row 5 uB d)]
theorem vc_r7L (b f k:Int) (x y z:List SyT) (d:List Int) (i:Nat) (Q:QT) (R:RT):sy tt G0 CRu Tryd.f7.ntmps Tryd.f7.results.toList Q (fun it S=>R it (keepS [1,2,6,7,8,9,10,11,12,13] [26,27,28,29,39,47,58,64] S)) 1000 (hd Tryd.f7 0) ⟨[(1,.int .u8 b),(2,.int .u8 f),(6,.bool false),(7,.bool true),(8,.int .i64 k),(9,.win true syS 26 0 x.length),(10,.win true syS 27 0 y.length),(11,.win true syS 28 0 z.length),(12,.win true uB 29 0 d.length),(13,.int .i64 (i:Nat))],[(26,.row 52 syS x),(27,.row 52 syS y),(28,.row 52 syS z),(29,.row 5 uB d)]⟩ =
  (bc (decide ((i:Int)<k)) (0+(1:Nat)≤([(false,(0:Int),b)]:List syS.D).length ∧
 x.length=x.length ∧
 (0:Nat)=(0:Nat) ∧
 x.length+(([(false,(0:Int),b)]:List syS.D)).length<(2:Nat) ^ (30:Nat) ∧
 (24:Nat)≤(2:Nat) ^ (10:Nat) ∧
 ctOld.pre (IntKind.i64.wrap (IntKind.i64.wrap f+(i:Int)),(0:Int),()) ∧
 0+(1:Nat)≤([(true,IntKind.i64.wrap (IntKind.i64.wrap f+(i:Int)),(0:Int))]:List syS.D).length ∧
 y.length=y.length ∧
 (0:Nat)=(0:Nat) ∧
 y.length+(([(true,IntKind.i64.wrap (IntKind.i64.wrap f+(i:Int)),(0:Int))]:List syS.D)).length<(2:Nat) ^ (30:Nat) ∧
 (24:Nat)≤(2:Nat) ^ (10:Nat) ∧
 (255:Int)≠(0:Int) ∧
 ctOld.pre (IntKind.i64.wrap (IntKind.i64.wrap f+(i:Int)),IntKind.u8.wrap ((1:Int)+b.tmod (255:Int)),()) ∧
 0+(1:Nat)≤([(true,IntKind.i64.wrap (IntKind.i64.wrap f+(i:Int)),IntKind.u8.wrap ((1:Int)+b.tmod (255:Int)))]:List syS.D).length ∧
 z.length=z.length ∧
 (0:Nat)=(0:Nat) ∧
 z.length+(([(true,IntKind.i64.wrap (IntKind.i64.wrap f+(i:Int)),IntKind.u8.wrap ((1:Int)+b.tmod (255:Int)))]:List syS.D)).length<(2:Nat) ^ (30:Nat) ∧
 (24:Nat)≤(2:Nat) ^ (10:Nat) ∧
 (255:Int)≠(0:Int) ∧
 0+(1:Nat)≤([(IntKind.u8.wrap ((1:Int)+b.tmod (255:Int)))]:List uB.D).length ∧
 d.length=d.length ∧
 (0:Nat)=(0:Nat) ∧
 d.length+(([(IntKind.u8.wrap ((1:Int)+b.tmod (255:Int)))]:List uB.D)).length<(2:Nat) ^ (30:Nat) ∧
 (1:Nat)≤(2:Nat) ^ (10:Nat) ∧
 R (hd Tryd.f7 0) { env:=[(1,.int .u8 b),(2,.int .u8 f),(6,.bool false),(7,.bool true),(8,.int .i64 k),(9,.win true syS 39 0 (x.length+(([(false,(0:Int),b)]:List syS.D)).length)),(10,.win true syS 47 0 (y.length+(([(true,IntKind.i64.wrap (IntKind.i64.wrap f+(i:Int)),(0:Int))]:List syS.D)).length)),(11,.win true syS 58 0 (z.length+(([(true,IntKind.i64.wrap (IntKind.i64.wrap f+(i:Int)),IntKind.u8.wrap ((1:Int)+b.tmod (255:Int)))]:List syS.D)).length)),(12,.win true uB 64 0 (d.length+(([(IntKind.u8.wrap ((1:Int)+b.tmod (255:Int)))]:List uB.D)).length)),(13,.int .i64 (IntKind.i64.wrap ((i:Int)+(1:Int))))],blk:=[(39,.row 52 syS (x++([(false,(0:Int),b)]:List syS.D))),(47,.row 52 syS (y++([(true,IntKind.i64.wrap (IntKind.i64.wrap f+(i:Int)),(0:Int))]:List syS.D))),(58,.row 52 syS (z++([(true,IntKind.i64.wrap (IntKind.i64.wrap f+(i:Int)),IntKind.u8.wrap ((1:Int)+b.tmod (255:Int)))]:List syS.D))),(64,.row 5 uB (d++([(IntKind.u8.wrap ((1:Int)+b.tmod (255:Int)))]:List uB.D)))] }) (0+x.length≤x.length ∧
 0+x.length≤x.length ∧
 ctCp.pre (winL syS (0:Nat) x.length x,(0:Int),()) ∧
 0+y.length≤y.length ∧
 0+y.length≤y.length ∧
 ctCp.pre (winL syS (0:Nat) y.length y,IntKind.i64.wrap (IntKind.i64.wrap f+k),()) ∧
 0+z.length≤z.length ∧
 0+z.length≤z.length ∧
 ctCp.pre (winL syS (0:Nat) z.length z,IntKind.i64.wrap (IntKind.i64.wrap f+k),()) ∧
 bc (decide (k=(1:Int))) (bc (decide ((cpV (winL syS (0:Nat) x.length x) (0:Int)).2≠(0:Int))) (true=true ∧
 true=true ∧
 true=true ∧
 true=true ∧
 true=true ∧
 Q [.bool false] (mem_r7L_m0 b f k x y z d)) (bc (bif false then true else decide ((cpV (winL syS (0:Nat) y.length y) (IntKind.i64.wrap (IntKind.i64.wrap f+k))).2≠(0:Int))) (true=true ∧
 true=true ∧
 true=true ∧
 true=true ∧
 Q [.bool false] (mem_r7L_m0 b f k x y z d)) (bc (bif false then true else decide ((cpV (winL syS (0:Nat) z.length z) (IntKind.i64.wrap (IntKind.i64.wrap f+k))).2≠(0:Int))) (true=true ∧
 true=true ∧
 true=true ∧
 Q [.bool false] (mem_r7L_m0 b f k x y z d)) (bc (bif false then true else decide ((↑(cpV (winL syS (0:Nat) x.length x) (0:Int)).1.2.2.2.length:Int)≠(1:Int))) (true=true ∧
 true=true ∧
 Q [.bool false] (mem_r7L_m0 b f k x y z d)) (bc (bif false then true else decide ((↑(cpV (winL syS (0:Nat) y.length y) (IntKind.i64.wrap (IntKind.i64.wrap f+k))).1.2.2.2.length:Int)≠(1:Int))) (true=true ∧
 Q [.bool false] (mem_r7L_m0 b f k x y z d)) (bc (bif false then true else decide ((↑(cpV (winL syS (0:Nat) z.length z) (IntKind.i64.wrap (IntKind.i64.wrap f+k))).1.2.2.2.length:Int)≠(1:Int))) (Q [.bool false] (mem_r7L_m0 b f k x y z d)) ((0:Int)≤(0:Int) ∧
 (0:Int)<(↑(cpV (winL syS (0:Nat) x.length x) (0:Int)).1.2.2.2.length:Int) ∧
 0+(1:Nat)≤([b]:List uB.D).length ∧
 ctSO.pre ((gtO (cpV (winL syS (0:Nat) x.length x) (0:Int)).1.2.2.2 (0)),((4:Int),(0:Int),(1:Int),(0:Int),([b]:List uB.D)),()) ∧
 bc (soB (gtO (cpV (winL syS (0:Nat) x.length x) (0:Int)).1.2.2.2 (0)) ((4:Int),(0:Int),(1:Int),(0:Int),([b]:List uB.D))) ((0:Int)≤(0:Int) ∧
 (0:Int)<(↑(cpV (winL syS (0:Nat) y.length y) (IntKind.i64.wrap (IntKind.i64.wrap f+k))).1.2.2.2.length:Int) ∧
 ctSO.pre ((gtO (cpV (winL syS (0:Nat) y.length y) (IntKind.i64.wrap (IntKind.i64.wrap f+k))).1.2.2.2 (0)),((1:Int),IntKind.i64.wrap f,k,(0:Int),[]),()) ∧
 bc (bif true then soB (gtO (cpV (winL syS (0:Nat) y.length y) (IntKind.i64.wrap (IntKind.i64.wrap f+k))).1.2.2.2 (0)) ((1:Int),IntKind.i64.wrap f,k,(0:Int),[]) else false) ((0:Int)≤(0:Int) ∧
 (0:Int)<(↑(cpV (winL syS (0:Nat) z.length z) (IntKind.i64.wrap (IntKind.i64.wrap f+k))).1.2.2.2.length:Int) ∧
 0+d.length≤d.length ∧
 ctSO.pre ((gtO (cpV (winL syS (0:Nat) z.length z) (IntKind.i64.wrap (IntKind.i64.wrap f+k))).1.2.2.2 (0)),((2:Int),IntKind.i64.wrap f,k,(0:Int),winL uB (0:Nat) d.length d),()) ∧
 bc (bif true then soB (gtO (cpV (winL syS (0:Nat) z.length z) (IntKind.i64.wrap (IntKind.i64.wrap f+k))).1.2.2.2 (0)) ((2:Int),IntKind.i64.wrap f,k,(0:Int),winL uB (0:Nat) d.length d) else false) (Q [.bool true] (mem_r7L_m0 b f k x y z d)) (false=false ∧
 Q [.bool false] (mem_r7L_m0 b f k x y z d))) (false=false ∧
 false=false ∧
 Q [.bool false] (mem_r7L_m0 b f k x y z d))) (false=false ∧
 false=false ∧
 false=false ∧
 Q [.bool false] (mem_r7L_m0 b f k x y z d))))))))) (bc (decide ((cpV (winL syS (0:Nat) x.length x) (0:Int)).2≠(0:Int))) (true=true ∧
 true=true ∧
 true=true ∧
 true=true ∧
 true=true ∧
 Q [.bool false] (mem_r7L_m1 b f k x y z d)) (bc (bif false then true else decide ((cpV (winL syS (0:Nat) y.length y) (IntKind.i64.wrap (IntKind.i64.wrap f+k))).2≠(0:Int))) (true=true ∧
 true=true ∧
 true=true ∧
 true=true ∧
 Q [.bool false] (mem_r7L_m1 b f k x y z d)) (bc (bif false then true else decide ((cpV (winL syS (0:Nat) z.length z) (IntKind.i64.wrap (IntKind.i64.wrap f+k))).2≠(0:Int))) (true=true ∧
 true=true ∧
 true=true ∧
 Q [.bool false] (mem_r7L_m1 b f k x y z d)) (bc (bif false then true else decide ((↑(cpV (winL syS (0:Nat) x.length x) (0:Int)).1.2.2.2.length:Int)≠(1:Int))) (true=true ∧
 true=true ∧
 Q [.bool false] (mem_r7L_m1 b f k x y z d)) (bc (bif false then true else decide ((↑(cpV (winL syS (0:Nat) y.length y) (IntKind.i64.wrap (IntKind.i64.wrap f+k))).1.2.2.2.length:Int)≠(1:Int))) (true=true ∧
 Q [.bool false] (mem_r7L_m1 b f k x y z d)) (bc (bif false then true else decide ((↑(cpV (winL syS (0:Nat) z.length z) (IntKind.i64.wrap (IntKind.i64.wrap f+k))).1.2.2.2.length:Int)≠(1:Int))) (Q [.bool false] (mem_r7L_m1 b f k x y z d)) ((0:Int)≤(0:Int) ∧
 (0:Int)<(↑(cpV (winL syS (0:Nat) x.length x) (0:Int)).1.2.2.2.length:Int) ∧
 ctSO.pre ((gtO (cpV (winL syS (0:Nat) x.length x) (0:Int)).1.2.2.2 (0)),((3:Int),(0:Int),k,b,[]),()) ∧
 bc (soB (gtO (cpV (winL syS (0:Nat) x.length x) (0:Int)).1.2.2.2 (0)) ((3:Int),(0:Int),k,b,[])) ((0:Int)≤(0:Int) ∧
 (0:Int)<(↑(cpV (winL syS (0:Nat) y.length y) (IntKind.i64.wrap (IntKind.i64.wrap f+k))).1.2.2.2.length:Int) ∧
 ctSO.pre ((gtO (cpV (winL syS (0:Nat) y.length y) (IntKind.i64.wrap (IntKind.i64.wrap f+k))).1.2.2.2 (0)),((1:Int),IntKind.i64.wrap f,k,(0:Int),[]),()) ∧
 bc (bif true then soB (gtO (cpV (winL syS (0:Nat) y.length y) (IntKind.i64.wrap (IntKind.i64.wrap f+k))).1.2.2.2 (0)) ((1:Int),IntKind.i64.wrap f,k,(0:Int),[]) else false) ((0:Int)≤(0:Int) ∧
 (0:Int)<(↑(cpV (winL syS (0:Nat) z.length z) (IntKind.i64.wrap (IntKind.i64.wrap f+k))).1.2.2.2.length:Int) ∧
 0+d.length≤d.length ∧
 ctSO.pre ((gtO (cpV (winL syS (0:Nat) z.length z) (IntKind.i64.wrap (IntKind.i64.wrap f+k))).1.2.2.2 (0)),((2:Int),IntKind.i64.wrap f,k,(0:Int),winL uB (0:Nat) d.length d),()) ∧
 bc (bif true then soB (gtO (cpV (winL syS (0:Nat) z.length z) (IntKind.i64.wrap (IntKind.i64.wrap f+k))).1.2.2.2 (0)) ((2:Int),IntKind.i64.wrap f,k,(0:Int),winL uB (0:Nat) d.length d) else false) (Q [.bool true] (mem_r7L_m1 b f k x y z d)) (false=false ∧
 Q [.bool false] (mem_r7L_m1 b f k x y z d))) (false=false ∧
 false=false ∧
 Q [.bool false] (mem_r7L_m1 b f k x y z d))) (false=false ∧
 false=false ∧
 false=false ∧
 Q [.bool false] (mem_r7L_m1 b f k x y z d))))))))))):=by kernel_rfl
end Go.Proofs.YtkiicobbnllpkaaDoor
namespace Go.Proofs.YtkiicobbnllpkaaDoor
open Go.Px Go.Ax
theorem cst_ge3 {l:List SyT} (hl:l.length≤65536) (h0:l≠[]):3≤cst l:=by
 obtain ⟨hb,q,q1,q2,q3,q4,q5,q6⟩:=bst_ne hl h0
 have hd:=bst_bo (l.drop q) (by rw [List.length_drop];omega)
 unfold boL at hd
 have h2:0≤cst (l.drop q):=hd.1
 have:3≤hdC (bst l).1+eaC (bst l).1 * (q:Int):=by
  rcases (show (bst l).1=1∨(bst l).1=2∨(bst l).1=3∨(bst l).1=4 by unfold kOK at hb;omega) with e | e | e | e <;> rw [e] <;> simp [hdC,eaC] <;> omega
 omega
theorem ch_one {l:List SyT} {k:Int} (h0:l≠[]) (h:(bst l).1=k∧(bst l).2.1=(l.length:Int)):chL l=[mdK k l]:=by
 unfold chL
 obtain ⟨f,hf⟩:∃ f,l.length=f+1:=⟨l.length - 1,by have:=List.length_pos_iff.2 h0;omega⟩
 rw [hf,chF,if_neg h0,h.1,h.2,Int.toNat_natCast,List.take_length,List.drop_length]
 cases f with
 | zero=>rfl
 | succ f=>rw [chF,if_pos rfl]
theorem keyL_b {l:List SyT} (hl:l.length≤65536) (k:Int) {n:Nat} (h:n<l.length):∃ c o:Int,keyL k n l=(((hdC k+eaC k * (n:Int)+c) * 4294967296+o) * 8+k) * 1048576 - (n:Int)∧3≤c∧c≤1000000∧1≤o∧o≤1000000∧c=cst (l.drop n):=by
 have hd:=bst_bo (l.drop n) (by rw [List.length_drop];omega)
 unfold boL at hd
 rw [List.length_drop] at hd
 have hne:l.drop n≠[]:=fun e=>by
  have h1:(l.drop n).length=0:=by rw [e];rfl
  rw [List.length_drop] at h1;omega
 have h3:=cst_ge3 (l:=l.drop n) (by rw [List.length_drop];omega) hne
 refine ⟨(bst (l.drop n)).2.2.1,1+(bst (l.drop n)).2.2.2,?_,h3,by omega,by omega,by omega,rfl⟩
 unfold keyL wB
 generalize eaC k * (n:Int)=e
 omega
theorem keyL_all (k:Int) (l:List SyT):keyL k l.length l=(((hdC k+eaC k * (l.length:Int)) * 4294967296+1) * 8+k) * 1048576 - (l.length:Int):=by
 unfold keyL
 rw [List.drop_length]
 show ((_ * 4294967296+1+(0 * 4294967296+0)) * 8+k) * 1048576 - _=_
 omega
section
variable {m:Int} (hm:m<16777216) {l:List SyT} (hr:∀ s∈l,sOK m s=true) (hl:l.length≤65536) (h0:l≠[])
include hm hr hl h0
theorem run_eq (b:Int) (hb:∀ j,j<l.length→(gtY l j).1=false∧(gtY l j).2.2=b):chL l=[mdK (if l.length=1 then 4 else 3) l]:=by
 have hp:=List.length_pos_iff.2 h0
 have nf:∀ k,k=1∨k=2→fitN k l=0:=fun k hk=>by
  rcases Nat.eq_zero_or_pos (fitN k l) with h | h
  ·exact h
  ·have h1:=canB_old hk (fit_is hm (k:=k) hr 0 h).1
   rw [(hb 0 hp).1] at h1
   cases h1
 have f3:l.length≤fitN 3 l:=is_fit hm hr (Nat.le_refl _) fun j hj=>⟨by simp [canB,(hb j hj).1],fun q=>by omega,fun _=>by rw [(hb j hj).2,(hb 0 hp).2]⟩
 have f4:l.length≤fitN 4 l:=is_fit hm hr (Nat.le_refl _) fun j hj=>⟨by simp [canB,(hb j hj).1],fun q=>by omega,fun q=>by omega⟩
 by_cases h1:l.length=1
 ·rw [if_pos h1]
  refine ch_one h0 (bst_is hl (k:=4) (by unfold kOK;omega) (n:=l.length) hp f4 fun k hk q q1 q2=>?_)
  have hq:q=l.length:=by have:=fitN_le k l;omega
  subst hq
  rw [keyL_all,keyL_all,h1]
  have hk:k=3∨k=4:=by
   rcases (show (k=1∨k=2)∨k=3∨k=4 by unfold kOK at hk;omega) with e | e
   ·have:=nf k e;omega
   ·exact e
  rcases hk with e | e <;> subst e <;> simp [hdC,eaC]
 ·rw [if_neg h1]
  refine ch_one h0 (bst_is hl (k:=3) (by unfold kOK;omega) (n:=l.length) hp f3 fun k hk q q1 q2=>?_)
  have hk:k=3∨k=4:=by
   rcases (show (k=1∨k=2)∨k=3∨k=4 by unfold kOK at hk;omega) with e | e
   ·have:=nf k e;omega
   ·exact e
  have hq:=fitN_le k l
  rw [keyL_all]
  by_cases e:q=l.length
  ·subst e
   rw [keyL_all]
   rcases hk with e | e <;> subst e <;> simp [hdC,eaC] <;> omega
  ·obtain ⟨c,o,k1,k2,k3,k4,k5,_⟩:=keyL_b hl k (n:=q) (by omega)
   rw [k1]
   rcases hk with e | e <;> subst e <;> simp [hdC,eaC] <;> omega
theorem run_copy (hb:∀ j,j<l.length→(gtY l j).1=true∧(gtY l j).2.2=0∧(gtY l j).2.1=(gtY l 0).2.1+j):chL l=[mdK 1 l]:=by
 have hp:=List.length_pos_iff.2 h0
 have nf:∀ k,k=3∨k=4→fitN k l=0:=fun k hk=>by
  rcases Nat.eq_zero_or_pos (fitN k l) with h | h
  ·exact h
  ·have:=(fit_is hm (k:=k) hr 0 h).1
   unfold canB at this
   rw [if_neg (by omega),if_neg (by omega),(hb 0 hp).1] at this
   cases this
 have f1:l.length≤fitN 1 l:=is_fit hm hr (Nat.le_refl _) fun j hj=>⟨by simp [canB,(hb j hj).1,(hb j hj).2.1],fun _=>(hb j hj).2.2,fun q=>by omega⟩
 refine ch_one h0 (bst_is hl (k:=1) (by unfold kOK;omega) (n:=l.length) hp f1 fun k hk q q1 q2=>?_)
 have hk:k=1∨k=2:=by
  rcases (show (k=3∨k=4)∨k=1∨k=2 by unfold kOK at hk;omega) with e | e
  ·have:=nf k e;omega
  ·exact e
 have hq:=fitN_le k l
 rw [keyL_all]
 by_cases e:q=l.length
 ·subst e
  rw [keyL_all]
  rcases hk with e | e <;> subst e <;> simp [hdC,eaC] <;> omega
 ·obtain ⟨c,o,k1,k2,k3,k4,k5,_⟩:=keyL_b hl k (n:=q) (by omega)
  rw [k1]
  rcases hk with e | e <;> subst e <;> simp [hdC,eaC] <;> omega
end
theorem cst_diff {m:Int} (hm:m<16777216):∀ (f:Nat) (l:List SyT),l.length≤f→l.length≤65536→(∀ s∈l,sOK m s=true)→(∀ s∈l,s.1=true∧s.2.2≠0)→l≠[]→4+(l.length:Int)≤cst l:=by
 intro f
 induction f with
 | zero=>
  intro l hf hl hr hb h0
  have:=List.length_pos_iff.2 h0
  omega
 | succ f ih=>
  intro l hf hl hr hb h0
  have hp:=List.length_pos_iff.2 h0
  obtain ⟨hk,q,q1,q2,q3,q4,q5,q6⟩:=bst_ne hl h0
  have hq:=fitN_le (bst l).1 l
  have hc:=(fit_is hm (k:=(bst l).1) hr 0 (by omega)).1
  have h00:gtY l 0∈l:=by rw [gtY_at hp];exact List.getElem_mem hp
  have b0:=hb _ h00
  have e2:(bst l).1=2:=by
   rcases (show (bst l).1=1∨(bst l).1=2∨(bst l).1=3∨(bst l).1=4 by unfold kOK at hk;omega) with e | e | e | e
   ·rw [e] at hc;simp [canB,b0.2] at hc
   ·exact e
   ·rw [e] at hc;simp [canB,b0.1] at hc
   ·rw [e] at hc;simp [canB,b0.1] at hc
  rw [e2] at q5
  have hv:hdC 2+eaC 2 * (q:Int)=4+q:=by simp [hdC,eaC]
  by_cases hd:l.drop q=[]
  ·have:(l.drop q).length=0:=by rw [hd];rfl
   rw [List.length_drop] at this
   have z:cst (l.drop q)=0:=by rw [hd];rfl
   omega
  ·have:=ih (l.drop q) (by rw [List.length_drop];omega) (by rw [List.length_drop];omega) (fun s hs=>hr s (List.mem_of_mem_drop hs)) (fun s hs=>hb s (List.mem_of_mem_drop hs)) hd
   rw [List.length_drop] at this
   omega
theorem run_diff {m:Int} (hm:m<16777216) {l:List SyT} (hr:∀ s∈l,sOK m s=true) (hl:l.length≤65536) (h0:l≠[]) (hb:∀ j,j<l.length→(gtY l j).1=true∧(gtY l j).2.2≠0∧(gtY l j).2.1=(gtY l 0).2.1+j):chL l=[mdK 2 l]:=by
 have hp:=List.length_pos_iff.2 h0
 have f2:l.length≤fitN 2 l:=is_fit hm hr (Nat.le_refl _) fun j hj=>⟨by simp [canB,(hb j hj).1],fun _=>(hb j hj).2.2,fun q=>by omega⟩
 refine ch_one h0 (bst_is hl (k:=2) (by unfold kOK;omega) (n:=l.length) hp f2 fun k hk q q1 q2=>?_)
 have hq:=fitN_le k l
 have hc:=(fit_is hm (k:=k) hr 0 (by omega)).1
 have e2:k=2:=by
  rcases (show k=1∨k=2∨k=3∨k=4 by unfold kOK at hk;omega) with e | e | e | e
  ·rw [e] at hc;simp [canB,(hb 0 hp).2.1] at hc
  ·exact e
  ·rw [e] at hc;simp [canB,(hb 0 hp).1] at hc
  ·rw [e] at hc;simp [canB,(hb 0 hp).1] at hc
 subst e2
 rw [keyL_all]
 by_cases e:q=l.length
 ·subst e;rw [keyL_all];exact Int.le_refl _
 ·obtain ⟨c,o,k1,k2,k3,k4,k5,k6⟩:=keyL_b hl 2 (n:=q) (by omega)
  have hmem:∀ s∈l,s.1=true∧s.2.2≠0:=fun s hs=>by
   obtain ⟨j,hj,e⟩:=List.mem_iff_getElem.1 hs
   have:=hb j hj
   rw [gtY_at hj,e] at this
   exact ⟨this.1,this.2.1⟩
  have hdne:l.drop q≠[]:=fun h=>by
   have:(l.drop q).length=0:=by rw [h];rfl
   rw [List.length_drop] at this;omega
  have:=cst_diff hm (l.drop q).length (l.drop q) (Nat.le_refl _) (by rw [List.length_drop];omega) (fun s hs=>hr s (List.mem_of_mem_drop hs)) (fun s hs=>hmem s (List.mem_of_mem_drop hs)) hdne
  rw [List.length_drop] at this
  rw [k1]
  simp [hdC,eaC]
  omega
end Go.Proofs.YtkiicobbnllpkaaDoor
namespace Go.Proofs.YtkiicobbnllpkaaDoor
open Go.Px Go.Ax
set_option maxRecDepth 100000
set_option maxRecDepth 100000
end Go.Proofs.YtkiicobbnllpkaaDoor
namespace Go.Proofs.YtkiicobbnllpkaaDoor
open Go.Px Go.Ax
set_option maxRecDepth 100000
attribute [local irreducible] Go.Px.sy Go.Px.syE
abbrev gI3 (w:List Int) (i:Nat):Int:=gt (Sh.int .i32) w i
def preW (w:List Int):Prop:=∀ j,-2147483648≤gI3 w j∧gI3 w j<2147483648
section
variable (z:Int) (l4:List (List Int)) (w:List Int) (h6:preM6 z l4) (hw:preW w)
include h6 hw
end
end Go.Proofs.YtkiicobbnllpkaaDoor
namespace Go.Proofs.YtkiicobbnllpkaaDoor
open Go.Px Go.Ax
set_option maxRecDepth 100000
set_option maxRecDepth 100000
end Go.Proofs.YtkiicobbnllpkaaDoor
namespace Go.Proofs.YtkiicobbnllpkaaDoor
open Go.Px Go.Ax
set_option maxRecDepth 100000
attribute [local irreducible] Go.Px.sy Go.Px.syE
theorem poV_ok {s:List SyT} {m:Int} (hr:∀ x∈s,sOK m x=true) (h0:0≤m) (h1:m≤65536) (hl:s.length≤4096):poV s m=((false,m,(s.length:Int),chL s),0)∧symF (chL s)=s∧(∀ x∈chL s,isRB x m=true)∧costS (chL s)=cst s∧(chL s).length≤4096 ∧
  (chkV (false,m,(s.length:Int),chL s)).2=0:=by
 obtain ⟨c1,c2,c3,c4⟩:=ch_ok (m:=m) (by omega) s.length s (Nat.le_refl _) (by omega) hr
 have hb:=bst_bo s (by omega)
 unfold boL at hb
 have hlen:(chL s).length≤4096:=by
  show (chF s.length s).length≤4096
  have:oct s=(bst s).2.2.2:=rfl
  omega
 have hs:=symF_len c2
 rw [c1] at hs
 refine ⟨?_,c1,c2,c3,hlen,?_⟩
 ·unfold poV
  rw [if_neg (by omega)]
 ·have:=chkV_of (li:=false) (o:=(s.length:Int)) h0 h1 (by omega) hlen c2 hs.symm
  rw [this]
theorem cpV_ok {s:List SyT} {m:Int} (hr:∀ x∈s,sOK m x=true) (h0:0≤m) (h1:m≤65536) (hl:s.length≤4096):cpV s m=((false,m,(s.length:Int),chL s),0):=by
 unfold cpV
 rw [if_neg (ofV_60' ⟨by simp [szB];omega,by simp [szB];omega,by rw [List.all_eq_true];exact hr⟩)]
 exact (poV_ok hr h0 h1 hl).1
end Go.Proofs.YtkiicobbnllpkaaDoor
namespace Go.Proofs.YtkiicobbnllpkaaDoor
open Go.Px Go.Ax
set_option maxRecDepth 100000
attribute [local irreducible] Go.Px.sy Go.Px.syE
abbrev TQ7:List SV→List (Nat × LB)→Prop:=fun rs _=>rs=[.bool true]
theorem soR (x:OpT):soB x x=true:=by simp [soB]
def eqL (b:Int) (i:Nat):List SyT:=(List.range i).map fun _=>(false,0,b)
def orL (f c:Int) (i:Nat):List SyT:=(List.range i).map fun (j:Nat)=>((true,f+(j:Int),c):SyT)
def daL (c:Int) (i:Nat):List Int:=(List.range i).map fun _=>c
theorem eqL_s (b:Int) (i:Nat):eqL b (i+1)=eqL b i++[(false,0,b)]:=by simp [eqL,List.range_succ]
theorem orL_s (f c:Int) (i:Nat):orL f c (i+1)=orL f c i++[(true,f+(i:Int),c)]:=by simp [orL,List.range_succ]
theorem daL_s (c:Int) (i:Nat):daL c (i+1)=daL c i++[c]:=by simp [daL,List.range_succ]
theorem eqL_l (b:Int) (i:Nat):(eqL b i).length=i:=by simp [eqL]
theorem orL_l (f c:Int) (i:Nat):(orL f c i).length=i:=by simp [orL]
theorem daL_l (c:Int) (i:Nat):(daL c i).length=i:=by simp [daL]
theorem eqL_g {b:Int} {i j:Nat} (h:j<i):gtY (eqL b i) j=(false,0,b):=by
 rw [gtY_at (by rw [eqL_l];exact h)];simp [eqL]
theorem orL_g {f c:Int} {i j:Nat} (h:j<i):gtY (orL f c i) j=(true,f+(j:Int),c):=by
 rw [gtY_at (by rw [orL_l];exact h)];simp [orL]
section
variable (b f:Int) (K:Nat) (hb:0≤b∧b<256) (hf:0≤f∧f<256) (hK:1≤K∧K≤2000)
abbrev cR (b:Int):Int:=1+b % 255
abbrev r7S (i:Nat):PS:=⟨[(1,.int .u8 b),(2,.int .u8 f),(6,.bool false),(7,.bool true),(8,.int .i64 (K:Nat)),(9,.win true syS 26 0 (eqL b i).length),(10,.win true syS 27 0 (orL f 0 i).length),(11,.win true syS 28 0 (orL f (cR b) i).length),(12,.win true uB 29 0 (daL (cR b) i).length),(13,.int .i64 (i:Nat))],[(26,.row 52 syS (eqL b i)),(27,.row 52 syS (orL f 0 i)),(28,.row 52 syS (orL f (cR b) i)),(29,.row 5 uB (daL (cR b) i))]⟩
include hb hf hK
theorem cR_v:IntKind.u8.wrap (1+b.tmod 255)=cR b:=by
 have _:=And.intro hf hK
 rw [Int.tmod_eq_emod_of_nonneg hb.1]
 show IntKind.u8.wrap (1+b % 255)=1+b % 255
 simp [IntKind.wrap,IntKind.bits,IntKind.signed]
 omega
theorem r7_end:GD 7 Tryd.f7 TQ7 (hd Tryd.f7 0) (r7S b f K K):=by
 have _:=hb
 have wf:IntKind.i64.wrap f=f:=IntWalk.i64_in f (by omega)
 have wk:IntKind.i64.wrap (f+(K:Int))=f+K:=IntWalk.i64_in _ (by omega)
 have hc0:cR b≠0:=by show 1+b % 255≠0;omega
 have lx:=eqL_l b K
 have ly:=orL_l f 0 K
 have lz:=orL_l f (cR b) K
 have rx:∀ s∈eqL b K,sOK 0 s=true:=fun s hs=>by simp [eqL] at hs;rw [← hs.2];simp [sOK]
 have ro:∀ c,∀ s∈orL f c K,sOK (f+K) s=true:=fun c s hs=>by
  simp [orL] at hs
  obtain ⟨j,hj,e⟩:=hs
  rw [← e];simp [sOK];omega
 have nx:eqL b K≠[]:=fun e=>by rw [e] at lx;simp at lx;omega
 have ny:orL f 0 K≠[]:=fun e=>by rw [e] at ly;simp at ly;omega
 have nz:orL f (cR b) K≠[]:=fun e=>by rw [e] at lz;simp at lz;omega
 have cx:=run_eq (m:=0) (by omega) rx (by omega) nx b fun j hj=>by rw [lx] at hj;rw [eqL_g hj];exact ⟨rfl,rfl⟩
 have cy:=run_copy (m:=f+K) (by omega) (ro 0) (by omega) ny fun j hj=>by rw [ly] at hj;rw [orL_g hj,orL_g (show 0<K by omega)];exact ⟨rfl,rfl,by show f+(j:Int)=f+((0:Nat):Int)+j;omega⟩
 have cz:=run_diff (m:=f+K) (by omega) (ro (cR b)) (by omega) nz fun j hj=>by rw [lz] at hj;rw [orL_g hj,orL_g (show 0<K by omega)];exact ⟨rfl,hc0,by show f+(j:Int)=f+((0:Nat):Int)+j;omega⟩
 have vx:=cpV_ok rx (Int.le_refl 0) (by omega) (by omega)
 have vy:=cpV_ok (ro 0) (by omega) (by omega) (by omega)
 have vz:=cpV_ok (ro (cR b)) (by omega) (by omega) (by omega)
 rw [cx] at vx
 rw [cy] at vy
 rw [cz] at vz
 have my:mdK 1 (orL f 0 K)=(1,f,(K:Int),0,[]):=by
  unfold mdK
  rw [orL_g (show 0<K by omega),ly]
  simp
 have mz:mdK 2 (orL f (cR b) K)=(2,f,(K:Int),0,daL (cR b) K):=by
  unfold mdK
  rw [orL_g (show 0<K by omega),lz]
  simp [orL,daL]
 have mx:mdK (if (eqL b K).length=1 then 4 else 3) (eqL b K)=if K=1 then ((4,0,1,0,[b]):OpT) else (3,0,(K:Int),b,[]):=by
  rw [lx]
  by_cases h:K=1
  ·subst h;rfl
  ·rw [if_neg h,if_neg h]
   unfold mdK
   rw [eqL_g (show 0<K by omega),lx]
   simp
 rw [mx] at vx
 rw [my] at vy
 rw [mz] at vz
 refine sy_goK cxRu (vc_r7L b f K (eqL b K) (orL f 0 K) (orL f (cR b) K) (daL (cR b) K) K _ _) ?_
 have w1:winL syS 0 (eqL b K).length (eqL b K)=eqL b K:=winA (e:=syS) _
 have w2:winL syS 0 (orL f 0 K).length (orL f 0 K)=orL f 0 K:=winA (e:=syS) _
 have w3:winL syS 0 (orL f (cR b) K).length (orL f (cR b) K)=orL f (cR b) K:=winA (e:=syS) _
 have w4:winL uB 0 (daL (cR b) K).length (daL (cR b) K)=daL (cR b) K:=winA (e:=uB) _
 rw [decide_eq_false (show ¬ (K:Int)<(K:Int) by omega),bc_f,wf,wk]
 rw [w1,w2,w3,w4,vx,vy,vz]
 refine ⟨by omega,by omega,(show (eqL b K).length<16777216 by omega),by omega,by omega,(show (orL f 0 K).length<16777216 by omega),by omega,by omega,(show (orL f (cR b) K).length<16777216 by omega),bc_of (fun h=>?_) (fun h=>?_)⟩
 ·have h:(K:Int)=1:=of_decide_eq_true h
  have h1:K=1:=by omega
  rw [if_pos h1]
  refine bc_of (fun h=>by simp at h) (fun _=>bc_of (fun h=>by simp at h) (fun _=>bc_of (fun h=>by simp at h) (fun _=>bc_of (fun h=>by simp at h) (fun _=>bc_of (fun h=>by simp at h) (fun _=>bc_of (fun h=>by simp at h) (fun _=>⟨by omega,(show (0:Int)<((1:Nat):Int) by decide),Nat.le_refl 1,trivial,?_⟩))))))
  refine bc_of (fun _=>⟨by omega,(show (0:Int)<((1:Nat):Int) by decide),trivial,bc_of (fun _=>⟨by omega,(show (0:Int)<((1:Nat):Int) by decide),by omega,trivial,bc_of (fun _=>rfl) (fun q=>?_)⟩) (fun q=>?_)⟩) (fun q=>?_)
  ·have q:soB (2,f,(K:Int),0,daL (cR b) K) (2,f,(K:Int),0,daL (cR b) K)=false:=q
   rw [soR] at q;cases q
  ·have q:soB (1,f,(K:Int),0,[]) (1,f,(K:Int),0,[])=false:=q
   rw [soR] at q;cases q
  ·have q:soB (4,0,1,0,[b]) (4,0,1,0,[b])=false:=q
   rw [soR] at q;cases q
 ·have h:¬ (K:Int)=1:=of_decide_eq_false h
  have h1:¬ K=1:=by omega
  rw [if_neg h1]
  refine bc_of (fun h=>by simp at h) (fun _=>bc_of (fun h=>by simp at h) (fun _=>bc_of (fun h=>by simp at h) (fun _=>bc_of (fun h=>by simp at h) (fun _=>bc_of (fun h=>by simp at h) (fun _=>bc_of (fun h=>by simp at h) (fun _=>⟨by omega,(show (0:Int)<((1:Nat):Int) by decide),trivial,?_⟩))))))
  refine bc_of (fun _=>⟨by omega,(show (0:Int)<((1:Nat):Int) by decide),trivial,bc_of (fun _=>⟨by omega,(show (0:Int)<((1:Nat):Int) by decide),by omega,trivial,bc_of (fun _=>rfl) (fun q=>?_)⟩) (fun q=>?_)⟩) (fun q=>?_)
  ·have q:soB (2,f,(K:Int),0,daL (cR b) K) (2,f,(K:Int),0,daL (cR b) K)=false:=q
   rw [soR] at q;cases q
  ·have q:soB (1,f,(K:Int),0,[]) (1,f,(K:Int),0,[])=false:=q
   rw [soR] at q;cases q
  ·have q:soB (3,0,(K:Int),b,[]) (3,0,(K:Int),b,[])=false:=q
   rw [soR] at q;cases q
theorem r7_loop:∀ (c i:Nat),K - i=c→i≤K→GD 7 Tryd.f7 TQ7 (hd Tryd.f7 0) (r7S b f K i):=by
 intro c
 induction c with
 | zero=>
  intro i hc hi
  have e:i=K:=by omega
  subst e
  exact r7_end b f i hb hf hK
 | succ c ih=>
  intro i hc hi
  have nx:=ih (i+1) (by omega) (by omega)
  have wf:IntKind.i64.wrap f=f:=IntWalk.i64_in f (by omega)
  have wi:IntKind.i64.wrap (f+(i:Int))=f+i:=IntWalk.i64_in _ (by omega)
  have wn:IntKind.i64.wrap ((i:Int)+1)=((i+1:Nat):Int):=by rw [IntWalk.i64_in _ (by omega)];omega
  have lx:=eqL_l b i
  have ly:=orL_l f 0 i
  have lz:=orL_l f (cR b) i
  have ld:=daL_l (cR b) i
  have p30:∀ n:Nat,n=i→n+1<2 ^ 30:=fun n e=>by
   show n+1<1073741824
   omega
  refine sy_goK cxRu (vc_r7L b f K (eqL b i) (orL f 0 i) (orL f (cR b) i) (daL (cR b) i) i _ _) ?_
  rw [decide_eq_true (show (i:Int)<(K:Int) by omega),bc_t,wf,wi,wn,cR_v b f K hb hf hK]
  refine ⟨Nat.le_refl 1,rfl,rfl,p30 _ lx,by decide,trivial,Nat.le_refl 1,rfl,rfl,p30 _ ly,by decide,by decide,trivial,Nat.le_refl 1,rfl,rfl,p30 _ lz,by decide,by decide,Nat.le_refl 1,rfl,rfl,p30 _ ld,by decide,?_⟩
  unfold r7S at nx
  rw [eqL_s,orL_s,orL_s,daL_s] at nx
  exact nx.onlyR [(26,39),(27,47),(28,58),(29,64)] rfl ⟨rfl,rfl,rfl,rfl,rfl,by rw [List.length_append];rfl,by rw [List.length_append];rfl,by rw [List.length_append];rfl,by rw [List.length_append];rfl,rfl,trivial⟩ ⟨rfl,rfl,rfl,rfl,trivial⟩
end
theorem r7_run (n b f:Int) (hn:0≤n∧n<65536) (hb:0≤b∧b<256) (hf:0≤f∧f<256):GD 7 Tryd.f7 TQ7 [.code (bodyOf Tryd.f7)] (entry [hS,uB,uB] (n,b,f,())):=by
 refine sy_goK cxRu (vc_r7 n b f _ _) ⟨trivial,by decide,?_⟩
 have w:IntKind.i64.wrap (1+(IntKind.i64.wrap n).tmod 2000)=((1+n % 2000).toNat:Int):=by
  rw [IntWalk.i64_in n (by omega),Int.tmod_eq_emod_of_nonneg hn.1,IntWalk.i64_in _ (by omega)]
  omega
 rw [w]
 exact (r7_loop b f (1+n % 2000).toNat hb hf (by omega) _ 0 rfl (Nat.zero_le _)).only ⟨rfl,rfl,rfl,rfl,rfl,rfl,rfl,rfl,rfl,rfl,trivial⟩ ⟨rfl,rfl,rfl,rfl,trivial⟩
def ctL7r:Ctr:=⟨[hS,uB,uB],fun x=>(0≤x.1∧(show Int from x.1)<65536)∧(0≤x.2.1∧(show Int from x.2.1)<256)∧(0≤x.2.2.1∧(show Int from x.2.2.1)<256),fun _=>[.bool true],fun _=>[]⟩
theorem r7_held:Held Tryd.prog G0 7 ctL7r:=
 Held.of cxRu (fn:=Tryd.f7) rfl rfl ⟨by decide,by decide⟩ fun ⟨n,b,f,_⟩ hp=>
  (r7_run n b f hp.1 hp.2.1 hp.2.2).post fun rs blk hq=>QC.flat (by rw [hq];rfl) rfl (by rw [hq];rfl)
end Go.Proofs.YtkiicobbnllpkaaDoor
namespace Go.Proofs.YtkiicobbnllpkaaDoor
open Go.Px Go.Ax
theorem u8_wf {n:Int} (h:wfD uB n):0≤n∧n<256:=by
 have h:(Lit.int IntKind.u8 n).wf=true:=h
 simp [Lit.wf,IntKind.min,IntKind.max,IntKind.signed,IntKind.bits] at h
 omega
theorem u16_wf {n:Int} (h:wfD (.int .u16) n):0≤n∧n<65536:=by
 have h:(Lit.int IntKind.u16 n).wf=true:=h
 simp [Lit.wf,IntKind.min,IntKind.max,IntKind.signed,IntKind.bits] at h
 omega
theorem G_get {g:Nat} {x:ABlk} (h:rawG.get g=some x):g=0∧x=.cells costCells 111 2:=by
 unfold rawG T.get at h
 split at h
 ·rename_i e;cases h;exact ⟨e,rfl⟩
 ·split at h <;> (simp [T.get] at h)
theorem hG:Glob G0.raw:=⟨fun g x h=>by rw [(G_get h).1];decide,fun g x h=>by rw [(G_get h).2];decide⟩
abbrev H0:AHeap:=⟨nglob,G0.raw⟩
def Z0:Nat→Option ABlk:=fun g=>rawG.get g
theorem gz0:GZ Z0 G0:=by
 refine ⟨fun g x e=>?_,fun g x e=>e⟩
 simp only [G0,lk] at e
 split at e
 ·rename_i h;subst h;cases e
  refine ⟨by decide,fun ν=>⟨0,0,costCells,111,2,rfl,rfl,by decide,?_⟩⟩
  exact rv_of (.arr 5 coS) costsL ⟨rfl,fun x _=>⟨trivial,trivial⟩⟩
 ·cases e
theorem fro0:Px.Fro G0 H0:=⟨fun i x h=>by rw [(G_get h).2];rfl,fun i x h=>by rw [(G_get h).2];trivial,fun i x h=>by rw [(G_get h).1];decide,gz0⟩
end Go.Proofs.YtkiicobbnllpkaaDoor
