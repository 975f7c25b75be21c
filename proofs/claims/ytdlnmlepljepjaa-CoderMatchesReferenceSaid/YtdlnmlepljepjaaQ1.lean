/-
  A part of the proof: what pieces of the program give; conditions: those of each theorem.
-/
import Derived.Test.YtdlnmlepljepjaaQ0
import Derived.Test.YtdlnmlepljepjaaHD
set_option linter.unusedVariables false
set_option linter.unusedSimpArgs false
namespace Go.Proofs.Ytdlnmlepljepjaa
open Go.Px Go.Ax
open Go.IntKind(i64 u32 u8)
set_option maxRecDepth 100000
def CE00:CV:=[(36,.inr ctCO0),(37,.inr ctNW),(107,.inr ctFlT),(106,.inr ctFlP),(38,.inr ctPut0),(39,.inr ctWco)]
def CE10:CV:=[(36,.inr ctCO1),(37,.inr ctNW),(109,.inr ctFlT),(108,.inr ctSiP),(38,.inr ctPut0),(39,.inr ctWco)]
def CE11:CV:=[(36,.inr ctCO1),(37,.inr ctNW),(109,.inr ctFlT),(108,.inr ctSiP),(38,.inr ctPut1),(39,.inr ctWco)]
def CE01:CV:=[(36,.inr ctCO0),(37,.inr ctNW),(107,.inr ctFlT),(106,.inr ctFlP),(38,.inr ctPut1),(39,.inr ctWco)]
set_option maxRecDepth 100000
theorem q01 (m:Int) (b:List Int) (Q:QT) (R:RT):sA CE00 Try.f17 Q (λ it S=>R it (qar [6,8,22,23,24] [66,88,90,1053248,1086016,1086017] S)) [.code (qah Try.f17)] (entry [iI,.sl uB] (m,b,())) =
  (ctCO0.pre (m,())/\bc (decide ((65536:Int)<(b.length:Int))) (Q [.nils,.i 2] [(1053248,.var [.arr (256:Nat) u4 c1L,.int .u32 256])]) (ctNW.pre ()/\R (hd Try.f17 0) { env:=[(6,.ifc (118:Nat) true [.ptr 1053248 0]),(8,.ptr 1086016 0),(22,.sl uB b),(23,.i (b.length:Int)),(24,.i 0)],blk:=[(1053248,.var [.arr (256:Nat) u4 c1L,.int .u32 256]),(1086016,.var [.win true uB 1086017 0 0,.int .u32 0,.int .u32 4294967295]),(1086017,.row 5 uB [])] })):=by kernel_rfl
theorem qqk (b l c:List Int) (lo w t:Int) (i:Nat) (Q:QT) (R:RT):sA CE00 Try.f17 Q R (hd Try.f17 0) ⟨[(6,.ifc 118 true [.ptr 88 0]),(8,.ptr 90 0),(22,.sl uB b),(23,.i b.length),(24,.i (i:Nat))],[(66,.row 5 uB l),(88,tbV c t),(90,wrV 66 l.length lo w)]⟩ =
  (bc (decide ((i:Int)<(b.length:Int))) ((0:Int)<=(i:Int)/\(i:Int)<(b.length:Int)/\ctFlT.pre (((c,t,()),()),())/\l.length=l.length/\ctPut0.pre ((l,lo,w,()),gt uB b (i:Int).toNat,(c,t,()),())/\ctFlP.pre (((c,t,()),()),gt uB b (i:Int).toNat,())/\R (hd Try.f17 0) { env:=[(6,.ifc (118:Nat) true [.ptr 88 0]),(8,.ptr 90 0),(10,.u (gt uB b (i:Int).toNat)),(22,.sl uB b),(23,.i (b.length:Int)),(24,.i (i64.wrap ((i:Int)+1))),(25,.bool (decide ((i:Int)<(b.length:Int)))),(26,.elv uB (gt uB b (i:Int).toNat)),(27,.u (gt uB b (i:Int).toNat)),(28,.ptr 90 0),(29,.u (gt uB b (i:Int).toNat)),(30,.ifc (118:Nat) true [.ptr 88 0]),(31,.ptr 88 0),(32,SV.tup []),(33,.ifc (118:Nat) true [.ptr 88 0]),(34,.u (gt uB b (i:Int).toNat)),(35,SV.tup []),(36,.i (i64.wrap ((i:Int)+1)))],blk:=[(66,.row 5 uB (qa6 l c lo w t (gt uB b (i:Int).toNat))),(88,.var [.arr (256:Nat) u4 c,.int .u32 t]),(90,.var [.win true uB 66 0 (qa6 l c lo w t (gt uB b (i:Int).toNat)).length,.int .u32 (lowV c lo w t (gt uB b (i:Int).toNat)),.int .u32 (wid2 c w t (gt uB b (i:Int).toNat))])] }) (l.length=l.length/\ctWco.pre ((l,lo,w,()),())/\Q [.win false uB 1155648 0 (qao (outF (4:Nat) (l,lo)).1 (outF (4:Nat) (l,lo)).1.length),.i 0] [(88,.var [.arr (256:Nat) u4 c,.int .u32 t]),(90,.var [.win true uB 1155648 0 (outF (4:Nat) (l,lo)).1.length,.int .u32 (outF (4:Nat) (l,lo)).2,.int .u32 w]),(1155648,.row 5 uB (outF (4:Nat) (l,lo)).1)])):=by kernel_rfl
theorem qw8 (b l c:List Int) (lo w t:Int) (i:Nat) (Q:QT) (R:RT):sA CE01 Try.f17 Q R (hd Try.f17 0) ⟨[(6,.ifc 118 true [.ptr 88 0]),(8,.ptr 90 0),(22,.sl uB b),(23,.i b.length),(24,.i (i:Nat))],[(66,.row 5 uB l),(88,tbV c t),(90,wrV 66 l.length lo w)]⟩ =
  (bc (decide ((i:Int)<(b.length:Int))) ((0:Int)<=(i:Int)/\(i:Int)<(b.length:Int)/\ctFlT.pre (((c,t,()),()),())/\l.length=l.length/\ctPut1.pre ((l,lo,w,()),gt uB b (i:Int).toNat,(c,t,()),())/\ctFlP.pre (((c,t,()),()),gt uB b (i:Int).toNat,())/\R (hd Try.f17 0) { env:=[(6,.ifc (118:Nat) true [.ptr 88 0]),(8,.ptr 90 0),(10,.u (gt uB b (i:Int).toNat)),(22,.sl uB b),(23,.i (b.length:Int)),(24,.i (i64.wrap ((i:Int)+1))),(25,.bool (decide ((i:Int)<(b.length:Int)))),(26,.elv uB (gt uB b (i:Int).toNat)),(27,.u (gt uB b (i:Int).toNat)),(28,.ptr 90 0),(29,.u (gt uB b (i:Int).toNat)),(30,.ifc (118:Nat) true [.ptr 88 0]),(31,.ptr 88 0),(32,SV.tup []),(33,.ifc (118:Nat) true [.ptr 88 0]),(34,.u (gt uB b (i:Int).toNat)),(35,SV.tup []),(36,.i (i64.wrap ((i:Int)+1)))],blk:=[(88,.var [.arr (256:Nat) u4 c,.int .u32 t]),(90,.var [.win true uB 1131072 0 (putV l c lo w t (gt uB b (i:Int).toNat)).1.length,.int .u32 (putV l c lo w t (gt uB b (i:Int).toNat)).2.1,.int .u32 (putV l c lo w t (gt uB b (i:Int).toNat)).2.2]),(1131072,.row 5 uB (putV l c lo w t (gt uB b (i:Int).toNat)).1)] }) (l.length=l.length/\ctWco.pre ((l,lo,w,()),())/\Q [.win false uB 1155648 0 (qao (outF (4:Nat) (l,lo)).1 (outF (4:Nat) (l,lo)).1.length),.i 0] [(88,.var [.arr (256:Nat) u4 c,.int .u32 t]),(90,.var [.win true uB 1155648 0 (outF (4:Nat) (l,lo)).1.length,.int .u32 (outF (4:Nat) (l,lo)).2,.int .u32 w]),(1155648,.row 5 uB (outF (4:Nat) (l,lo)).1)])):=by kernel_rfl
theorem q00 (m:Int) (b:List Int) (Q:QT) (R:RT):sA CE10 Try.f17 Q (λ it S=>R it (qar [6,8,22,23,24] [66,88,90,1053248,1086016,1086017] S)) [.code (qah Try.f17)] (entry [iI,.sl uB] (m,b,())) =
  (ctCO1.pre (m,())/\bc (decide ((65536:Int)<(b.length:Int))) (Q [.nils,.i 2] [(1053248,.var [.arr (256:Nat) u4 c1L,.int .u32 256])]) (ctNW.pre ()/\R (hd Try.f17 0) { env:=[(6,.ifc (119:Nat) true [.ptr 1053248 0]),(8,.ptr 1086016 0),(22,.sl uB b),(23,.i (b.length:Int)),(24,.i 0)],blk:=[(1053248,.var [.arr (256:Nat) u4 c1L,.int .u32 256]),(1086016,.var [.win true uB 1086017 0 0,.int .u32 0,.int .u32 4294967295]),(1086017,.row 5 uB [])] })):=by kernel_rfl
theorem qqj (b l c:List Int) (lo w t:Int) (i:Nat) (Q:QT) (R:RT):sA CE10 Try.f17 Q R (hd Try.f17 0) ⟨[(6,.ifc 119 true [.ptr 88 0]),(8,.ptr 90 0),(22,.sl uB b),(23,.i b.length),(24,.i (i:Nat))],[(66,.row 5 uB l),(88,tbV c t),(90,wrV 66 l.length lo w)]⟩ =
  (bc (decide ((i:Int)<(b.length:Int))) ((0:Int)<=(i:Int)/\(i:Int)<(b.length:Int)/\ctFlT.pre (((c,t,()),()),())/\l.length=l.length/\ctPut0.pre ((l,lo,w,()),gt uB b (i:Int).toNat,(c,t,()),())/\ctSiP.pre (((c,t,()),()),gt uB b (i:Int).toNat,())/\R (hd Try.f17 0) { env:=[(6,.ifc (119:Nat) true [.ptr 88 0]),(8,.ptr 90 0),(10,.u (gt uB b (i:Int).toNat)),(22,.sl uB b),(23,.i (b.length:Int)),(24,.i (i64.wrap ((i:Int)+1))),(25,.bool (decide ((i:Int)<(b.length:Int)))),(26,.elv uB (gt uB b (i:Int).toNat)),(27,.u (gt uB b (i:Int).toNat)),(28,.ptr 90 0),(29,.u (gt uB b (i:Int).toNat)),(30,.ifc (119:Nat) true [.ptr 88 0]),(31,.ptr 88 0),(32,SV.tup []),(33,.ifc (119:Nat) true [.ptr 88 0]),(34,.u (gt uB b (i:Int).toNat)),(35,SV.tup []),(36,.i (i64.wrap ((i:Int)+1)))],blk:=[(66,.row 5 uB (qa6 l c lo w t (gt uB b (i:Int).toNat))),(88,.var [.arr (256:Nat) u4 (groV c t (gt uB b (i:Int).toNat)).1,.int .u32 (groV c t (gt uB b (i:Int).toNat)).2]),(90,.var [.win true uB 66 0 (qa6 l c lo w t (gt uB b (i:Int).toNat)).length,.int .u32 (lowV c lo w t (gt uB b (i:Int).toNat)),.int .u32 (wid2 c w t (gt uB b (i:Int).toNat))])] }) (l.length=l.length/\ctWco.pre ((l,lo,w,()),())/\Q [.win false uB 1155648 0 (qao (outF (4:Nat) (l,lo)).1 (outF (4:Nat) (l,lo)).1.length),.i 0] [(88,.var [.arr (256:Nat) u4 c,.int .u32 t]),(90,.var [.win true uB 1155648 0 (outF (4:Nat) (l,lo)).1.length,.int .u32 (outF (4:Nat) (l,lo)).2,.int .u32 w]),(1155648,.row 5 uB (outF (4:Nat) (l,lo)).1)])):=by kernel_rfl
theorem qw7 (b l c:List Int) (lo w t:Int) (i:Nat) (Q:QT) (R:RT):sA CE11 Try.f17 Q R (hd Try.f17 0) ⟨[(6,.ifc 119 true [.ptr 88 0]),(8,.ptr 90 0),(22,.sl uB b),(23,.i b.length),(24,.i (i:Nat))],[(66,.row 5 uB l),(88,tbV c t),(90,wrV 66 l.length lo w)]⟩ =
  (bc (decide ((i:Int)<(b.length:Int))) ((0:Int)<=(i:Int)/\(i:Int)<(b.length:Int)/\ctFlT.pre (((c,t,()),()),())/\l.length=l.length/\ctPut1.pre ((l,lo,w,()),gt uB b (i:Int).toNat,(c,t,()),())/\ctSiP.pre (((c,t,()),()),gt uB b (i:Int).toNat,())/\R (hd Try.f17 0) { env:=[(6,.ifc (119:Nat) true [.ptr 88 0]),(8,.ptr 90 0),(10,.u (gt uB b (i:Int).toNat)),(22,.sl uB b),(23,.i (b.length:Int)),(24,.i (i64.wrap ((i:Int)+1))),(25,.bool (decide ((i:Int)<(b.length:Int)))),(26,.elv uB (gt uB b (i:Int).toNat)),(27,.u (gt uB b (i:Int).toNat)),(28,.ptr 90 0),(29,.u (gt uB b (i:Int).toNat)),(30,.ifc (119:Nat) true [.ptr 88 0]),(31,.ptr 88 0),(32,SV.tup []),(33,.ifc (119:Nat) true [.ptr 88 0]),(34,.u (gt uB b (i:Int).toNat)),(35,SV.tup []),(36,.i (i64.wrap ((i:Int)+1)))],blk:=[(88,.var [.arr (256:Nat) u4 (groV c t (gt uB b (i:Int).toNat)).1,.int .u32 (groV c t (gt uB b (i:Int).toNat)).2]),(90,.var [.win true uB 1131072 0 (putV l c lo w t (gt uB b (i:Int).toNat)).1.length,.int .u32 (putV l c lo w t (gt uB b (i:Int).toNat)).2.1,.int .u32 (putV l c lo w t (gt uB b (i:Int).toNat)).2.2]),(1131072,.row 5 uB (putV l c lo w t (gt uB b (i:Int).toNat)).1)] }) (l.length=l.length/\ctWco.pre ((l,lo,w,()),())/\Q [.win false uB 1155648 0 (qao (outF (4:Nat) (l,lo)).1 (outF (4:Nat) (l,lo)).1.length),.i 0] [(88,.var [.arr (256:Nat) u4 c,.int .u32 t]),(90,.var [.win true uB 1155648 0 (outF (4:Nat) (l,lo)).1.length,.int .u32 (outF (4:Nat) (l,lo)).2,.int .u32 w]),(1155648,.row 5 uB (outF (4:Nat) (l,lo)).1)])):=by kernel_rfl
attribute [local irreducible] Go.Px.sy Go.Px.syE
theorem qut {ct:Ctr} {x:DL ct.args} {rs:List SV} {blk:List (Nat × LB)} {e:Sh} {et:TypeId} {a k:Nat} {z:Int} {xs:List e.D} (h:ct.out x=[.win false e 0 0 k,.i z]) (hr:ct.rows x=[.row et e xs]) (hs:rs=[.win false e a 0 k,.i z]) (hb:lk blk a=some (.row et e xs)):QC ct x rs blk:=by
 subst hs;refine ⟨λ i=>if i=0 then some a else none,?_,?_,λ i j b h1 h2=>?_,by rw[hr];rfl⟩
 ·rw[h];exact ⟨_,_,rfl,.inl ⟨false,a,rfl,rfl,λ h=>h⟩,_,_,rfl,rfl,rfl⟩
 ·rw[hr];exact ⟨.inl ⟨a,rfl,hb⟩,trivial⟩
 ·simp only at h1 h2;split at h1
  ·split at h2
   ·omega
   ·cases h2
  ·cases h1
theorem quu {ct:Ctr} {x:DL ct.args} {rs:List SV} {blk:List (Nat × LB)} {e:Sh} {et:TypeId} {z:Int} (h:ct.out x=[.win false e 0 0 0,.i z]) (hr:ct.rows x=[.row et e []]) (hs:rs=[.nils,.i z]) (he:0<e.size):QC ct x rs blk:=by
 subst hs;refine ⟨λ _=>none,?_,?_,λ i j b h1 h2=>?_,by rw[hr];rfl⟩
 ·rw[h];exact ⟨_,_,rfl,.inr ⟨rfl,rfl,rfl,rfl⟩,_,_,rfl,rfl,rfl⟩
 ·rw[hr];exact ⟨.inr ⟨rfl,_,_,rfl,he⟩,trivial⟩
 ·simp at h1
def ecF (g:Bool):List Int->List Int->Int->Int->List Int->Int->List Int × Int × Int
 | [],l,lo,w,_,_=>(l,lo,w)
 | x::b,l,lo,w,c,t=>ecF g b (putV l c lo w t x).1 (putV l c lo w t x).2.1 (putV l c lo w t x).2.2 (dcG g c t x).1 (dcG g c t x).2
def outV (g:Bool) (b:List Int):List Int:=(outF 4 ((ecF g b [] 0 4294967295 c1L 256).1,(ecF g b [] 0 4294967295 c1L 256).2.1)).1
def encV (g:Bool) (b:List Int):List Int × Nat × Int:=match decide (65536<(b.length:Int)) with
 | true=>([],0,2)
 | false=>(outV g b,qao (outV g b) (outV g b).length,0)
def byL (b:List Int):Prop:=∀ x∈b,0<=x/\x<256
def qs1 (g:Bool) (m:Int):Ctr:=⟨[iI,.sl uB],λ x=>(show Int from x.1)=m/\byL x.2.1,λ x=>[.win false uB 0 0 (encV g x.2.1).2.1,.i (encV g x.2.1).2.2],λ x=>[.row 5 uB (encV g x.2.1).1]⟩
theorem qmp:∀ (f:Nat) (w:Int),16777216<=w*256 ^ f->w<=4294967295->∀ l lo,WOK (putF f l lo w).2.2/\(putF f l lo w).1.length<=l.length+f
 | 0,w,h,h2=>λ l lo=>⟨⟨by simp at h;exact h,h2⟩,Nat.le_refl _⟩
 | f+1,w,h,h2=>λ l lo=>by
  rw[putF];by_cases hq:w<16777216
  ·have hw:0<=w:=by
    rcases Int.lt_or_le w 0 with q | q
    ·have:w*256 ^ (f+1)<=0:=Int.mul_nonpos_of_nonpos_of_nonneg (Int.le_of_lt q) (Int.pow_nonneg (by decide));omega
    ·exact q
   have e:IntKind.u32.wrap (w*2 ^ 8)=w*256:=IntWalk.u32_in _ (by omega);have hS:(wshL l lo).length=l.length+1:=by show (l++[_]).length=_;rw[List.length_append];rfl
   have ih:=qmp f (w*256) (by rw[Int.mul_assoc,Int.mul_comm 256,<- Int.pow_succ];exact h) (by omega) (wshL l lo) (IntKind.u32.wrap (lo*2 ^ 8));rw[decide_eq_true hq,e];refine ⟨ih.1,?_⟩;have:=ih.2
   show (putF f (wshL l lo) _ (w*256)).1.length<=_
   omega
  ·rw[decide_eq_false hq];exact ⟨⟨by show 16777216<=w;omega,h2⟩,by show l.length<=_;omega⟩
theorem qqg {c:List Int} {w t:Int} (h:qa7 c t) (hw:WOK w) {x:Int} (hx:0<=x/\x<256):16777216<=wid2 c w t x*256 ^ 4/\wid2 c w t x<=4294967295:=by
 have ht:=qe0 h;obtain ⟨u1,u2,u3⟩:=qg2 hw ht.1 ht.2;have hg:=qew h (i:=x.toNat) (by omega);have b1:uniV w t*gtU c x.toNat<=w:=by
  rw[u1];exact Int.le_trans (Int.mul_le_mul_of_nonneg_left hg.2 (by omega)) u3
 have b2:256<=uniV w t*gtU c x.toNat:=by
  rw[u1];have:=Int.mul_le_mul u2 hg.1 (by decide) (by omega);omega
 have e:wid2 c w t x=uniV w t*gtU c x.toNat:=IntWalk.u32_in _ (by have:=hw.2;omega);have p4:(256:Int) ^ 4=4294967296:=by decide
 rw[e];have:=hw.2;omega
abbrev eSt (T:Nat) (b l c:List Int) (lo w t:Int) (i:Nat):PS:=⟨[(6,.ifc T true [.ptr 88 0]),(8,.ptr 90 0),(22,.sl uB b),(23,.i b.length),(24,.i (i:Nat))],[(66,.row 5 uB l),(88,tbV c t),(90,wrV 66 l.length lo w)]⟩
theorem q21:CxOK Try.prog tt G0 CE00:=(((((cx0.consI qc1 (fn:=Try.f39) rfl rfl rfl).consI qfa (fn:=Try.f38) rfl rfl rfl).consI qnb (fn:=Try.f106) rfl rfl rfl).consI qna (fn:=Try.f107) rfl rfl rfl).consI qek (fn:=Try.f37) rfl rfl rfl).consI qnh (fn:=Try.f36) rfl rfl rfl
theorem cxE01:CxOK Try.prog tt G0 CE01:=(((((cx0.consI qc1 (fn:=Try.f39) rfl rfl rfl).consI qhg (fn:=Try.f38) rfl rfl rfl).consI qnb (fn:=Try.f106) rfl rfl rfl).consI qna (fn:=Try.f107) rfl rfl rfl).consI qek (fn:=Try.f37) rfl rfl rfl).consI qnh (fn:=Try.f36) rfl rfl rfl
theorem qv4 {g:Bool} {m' m:Int} {b L:List Int} {n a:Nat} {blk:List (Nat × LB)} (h:encV g b=(L,n,0)) (hb:lk blk a=some (.row 5 uB L)):QC (qs1 g m') (m,b,()) [SV.win false uB a 0 n,.i 0] blk:=by
 refine qut (e:=uB) (et:=5) (a:=a) (z:=0) (xs:=L) ?_ ?_ rfl hb
 ·show [SV.win false uB 0 0 (encV g b).2.1,.i (encV g b).2.2]=_;rw[h]
 ·show [LB.row 5 uB (encV g b).1]=_;rw[h]
theorem qwa {m:Int} {b:List Int} (hb:byL b) (h6:b.length<=65536):∀ (k i:Nat) (l c:List Int) (lo w t:Int),b.length-i=k->i<=b.length->l.length<=4*i->qa7 c t->WOK w->ecF false (b.drop i) l lo w c t=ecF false b [] 0 4294967295 c1L 256 ->
  GD 17 Try.f17 (QC (qs1 false 0) (m,b,())) (hd Try.f17 0) (eSt 118 b l c lo w t i):=by
 intro k
 induction k with
 | zero=>
  intro i l c lo w t hk hi hl ht hw hv;refine qbf q21 (qqk b l c lo w t i _ _) ?_;rw[decide_eq_false (show ¬ (i:Int)<(b.length:Int) by omega),bc_f];rw[List.drop_eq_nil_of_le (by omega),ecF] at hv;have eo:(outF 4 (l,lo)).1=outV false b:=by unfold outV;rw[<- hv]
  have e:encV false b=(outV false b,qao (outV false b) (outV false b).length,0):=by unfold encV;rw[decide_eq_false (by omega)]
  refine ⟨rfl,(show l.length<100000000 by omega),?_⟩;rw[<- eo] at e;exact qv4 e rfl
 | succ k ih=>
  intro i l c lo w t hk hi hl ht hw hv;have hil:i<b.length:=by omega
  have hx:=hb _ (List.getElem_mem hil);have e1:gtB b i=b[i]:=qi1 hil;have hr:=qe0 ht;obtain ⟨q1,q2⟩:=qqg ht hw hx;have pp:qis l t b[i]:=⟨by omega,hx,by omega⟩;obtain ⟨g1,g2⟩:=qmp 4 (wid2 c w t b[i]) q1 q2 (qa6 l c lo w t b[i]) (lowV c lo w t b[i]);rw[qe9] at g2;rw[List.drop_eq_getElem_cons hil,ecF] at hv;have g3:(putV l c lo w t b[i]).1.length<=l.length+4:=g2;have nx:=ih (i+1) (putV l c lo w t b[i]).1 c (putV l c lo w t b[i]).2.1 (putV l c lo w t b[i]).2.2 t (by omega) (by omega) (by omega) ht g1 hv;by_cases hq:wid2 c w t b[i]<16777216
  ·refine qbf cxE01 (qw8 b l c lo w t i _ _) ?_;rw[decide_eq_true (show (i:Int)<(b.length:Int) by omega),bc_t,IntWalk.i64_in ((i:Int)+1) (by omega)];have e2:gt uB b (i:Int).toNat=b[i]:=by rw[Int.toNat_natCast];exact e1
   rw[e2];refine ⟨by omega,by omega,trivial,rfl,⟨pp,hq,(qlq 4 _ q1 q2).1⟩,trivial,?_⟩;exact nx.onlyR [(66,1131072)] rfl ⟨rfl,rfl,rfl,rfl,rfl,trivial⟩ ⟨rfl,rfl,rfl,trivial⟩
  ·have e3:putV l c lo w t b[i]=(qa6 l c lo w t b[i],lowV c lo w t b[i],wid2 c w t b[i]):=by unfold putV;rw[putF,decide_eq_false hq]
   rw[e3] at nx;refine qbf q21 (qqk b l c lo w t i _ _) ?_;rw[decide_eq_true (show (i:Int)<(b.length:Int) by omega),bc_t,IntWalk.i64_in ((i:Int)+1) (by omega)];have e2:gt uB b (i:Int).toNat=b[i]:=by rw[Int.toNat_natCast];exact e1
   rw[e2];refine ⟨by omega,by omega,trivial,rfl,⟨pp,hq⟩,trivial,?_⟩;exact nx.only ⟨rfl,rfl,rfl,rfl,rfl,trivial⟩ ⟨rfl,rfl,rfl,trivial⟩
theorem qv5 {g:Bool} {m' m:Int} {b:List Int} {blk:List (Nat × LB)} (h:encV g b=([],0,2)):QC (qs1 g m') (m,b,()) [SV.nils,.i 2] blk:=by
 refine quu (e:=uB) (et:=5) (z:=2) ?_ ?_ rfl (by decide)
 ·show [SV.win false uB 0 0 (encV g b).2.1,.i (encV g b).2.2]=_;rw[h]
 ·show [LB.row 5 uB (encV g b).1]=_;rw[h]
theorem qyq (m:Int) (b:List Int) (hm:m=0) (hb:byL b):GD 17 Try.f17 (QC (qs1 false 0) (m,b,())) [.code (qah Try.f17)] (entry [iI,.sl uB] (m,b,())):=by
 refine qag q21 (q01 m b _ _) ⟨hm,qaj (λ h=>?_) (λ h=>⟨trivial,?_⟩)⟩
 ·exact qv5 (by unfold encV;rw[show decide (65536<(b.length:Int))=true from h])
 ·have h:¬ (65536:Int)<(b.length:Int):=of_decide_eq_false h;have g:=qwa (m:=m) hb (by omega) b.length 0 [] c1L 0 4294967295 256 (Nat.sub_zero _) (Nat.zero_le _) (Nat.zero_le _) qgm ⟨by decide,by decide⟩ rfl;exact g.onlyR [(66,1086017),(88,1053248),(90,1086016)] rfl ⟨rfl,rfl,rfl,rfl,rfl,trivial⟩ ⟨rfl,rfl,rfl,trivial⟩
theorem q20:CxOK Try.prog tt G0 CE10:=(((((cx0.consI qc1 (fn:=Try.f39) rfl rfl rfl).consI qfa (fn:=Try.f38) rfl rfl rfl).consI qmj (fn:=Try.f108) rfl rfl rfl).consI qmi (fn:=Try.f109) rfl rfl rfl).consI qek (fn:=Try.f37) rfl rfl rfl).consI qng (fn:=Try.f36) rfl rfl rfl
theorem cxE11:CxOK Try.prog tt G0 CE11:=(((((cx0.consI qc1 (fn:=Try.f39) rfl rfl rfl).consI qhg (fn:=Try.f38) rfl rfl rfl).consI qmj (fn:=Try.f108) rfl rfl rfl).consI qmi (fn:=Try.f109) rfl rfl rfl).consI qek (fn:=Try.f37) rfl rfl rfl).consI qng (fn:=Try.f36) rfl rfl rfl
theorem qv9 {m:Int} {b:List Int} (hb:byL b) (h6:b.length<=65536):∀ (k i:Nat) (l c:List Int) (lo w t:Int),b.length-i=k->i<=b.length->l.length<=4*i->qa7 c t->WOK w->ecF true (b.drop i) l lo w c t=ecF true b [] 0 4294967295 c1L 256 ->
  GD 17 Try.f17 (QC (qs1 true 1) (m,b,())) (hd Try.f17 0) (eSt 119 b l c lo w t i):=by
 intro k
 induction k with
 | zero=>
  intro i l c lo w t hk hi hl ht hw hv;refine qbf q20 (qqj b l c lo w t i _ _) ?_;rw[decide_eq_false (show ¬ (i:Int)<(b.length:Int) by omega),bc_f];rw[List.drop_eq_nil_of_le (by omega),ecF] at hv;have eo:(outF 4 (l,lo)).1=outV true b:=by unfold outV;rw[<- hv]
  have e:encV true b=(outV true b,qao (outV true b) (outV true b).length,0):=by unfold encV;rw[decide_eq_false (by omega)]
  refine ⟨rfl,(show l.length<100000000 by omega),?_⟩;rw[<- eo] at e;exact qv4 e rfl
 | succ k ih=>
  intro i l c lo w t hk hi hl ht hw hv;have hil:i<b.length:=by omega
  have hx:=hb _ (List.getElem_mem hil);have e1:gtB b i=b[i]:=qi1 hil;have hr:=qe0 ht;have tg:qa7 (groV c t b[i]).1 (groV c t b[i]).2:=by
   obtain ⟨n,hn⟩:=Int.eq_ofNat_of_zero_le hx.1;rw[hn];exact qj3 ht (by omega)
  have pg:qsh c b[i]:=⟨ht.1,hx⟩;obtain ⟨q1,q2⟩:=qqg ht hw hx;have pp:qis l t b[i]:=⟨by omega,hx,by omega⟩;obtain ⟨g1,g2⟩:=qmp 4 (wid2 c w t b[i]) q1 q2 (qa6 l c lo w t b[i]) (lowV c lo w t b[i]);rw[qe9] at g2;rw[List.drop_eq_getElem_cons hil,ecF] at hv;have g3:(putV l c lo w t b[i]).1.length<=l.length+4:=g2;have nx:=ih (i+1) (putV l c lo w t b[i]).1 (groV c t b[i]).1 (putV l c lo w t b[i]).2.1 (putV l c lo w t b[i]).2.2 (groV c t b[i]).2 (by omega) (by omega) (by omega) tg g1 hv;by_cases hq:wid2 c w t b[i]<16777216
  ·refine qbf cxE11 (qw7 b l c lo w t i _ _) ?_;rw[decide_eq_true (show (i:Int)<(b.length:Int) by omega),bc_t,IntWalk.i64_in ((i:Int)+1) (by omega)];have e2:gt uB b (i:Int).toNat=b[i]:=by rw[Int.toNat_natCast];exact e1
   rw[e2];refine ⟨by omega,by omega,trivial,rfl,⟨pp,hq,(qlq 4 _ q1 q2).1⟩,pg,?_⟩;exact nx.onlyR [(66,1131072)] rfl ⟨rfl,rfl,rfl,rfl,rfl,trivial⟩ ⟨rfl,rfl,rfl,trivial⟩
  ·have e3:putV l c lo w t b[i]=(qa6 l c lo w t b[i],lowV c lo w t b[i],wid2 c w t b[i]):=by unfold putV;rw[putF,decide_eq_false hq]
   rw[e3] at nx;refine qbf q20 (qqj b l c lo w t i _ _) ?_;rw[decide_eq_true (show (i:Int)<(b.length:Int) by omega),bc_t,IntWalk.i64_in ((i:Int)+1) (by omega)];have e2:gt uB b (i:Int).toNat=b[i]:=by rw[Int.toNat_natCast];exact e1
   rw[e2];refine ⟨by omega,by omega,trivial,rfl,⟨pp,hq⟩,pg,?_⟩;exact nx.only ⟨rfl,rfl,rfl,rfl,rfl,trivial⟩ ⟨rfl,rfl,rfl,trivial⟩
theorem qyp (m:Int) (b:List Int) (hm:m=1) (hb:byL b):GD 17 Try.f17 (QC (qs1 true 1) (m,b,())) [.code (qah Try.f17)] (entry [iI,.sl uB] (m,b,())):=by
 refine qag q20 (q00 m b _ _) ⟨hm,qaj (λ h=>?_) (λ h=>⟨trivial,?_⟩)⟩
 ·exact qv5 (by unfold encV;rw[show decide (65536<(b.length:Int))=true from h])
 ·have h:¬ (65536:Int)<(b.length:Int):=of_decide_eq_false h;have g:=qv9 (m:=m) hb (by omega) b.length 0 [] c1L 0 4294967295 256 (Nat.sub_zero _) (Nat.zero_le _) (Nat.zero_le _) qgm ⟨by decide,by decide⟩ rfl;exact g.onlyR [(66,1086017),(88,1053248),(90,1086016)] rfl ⟨rfl,rfl,rfl,rfl,rfl,trivial⟩ ⟨rfl,rfl,rfl,trivial⟩
theorem qrx:HeldI Try.prog G0 36 ctCOn:=HeldI.of cx3T (fn:=Try.f36) rfl rfl ⟨by decide,by decide⟩ λ ⟨m,_⟩ hp=>by
 have hp:¬ ((0:Int)<=m/\(show Int from m)<=2):=hp;have h0:¬ (show Int from m)=0:=λ e=>hp (by rw[show m=(0:Int) from e];decide)
 have h1:¬ (show Int from m)=1:=λ e=>hp (by rw[show m=(1:Int) from e];decide)
 have h2:¬ (show Int from m)=2:=λ e=>hp (by rw[show m=(2:Int) from e];decide)
 refine qbf cx3T (qqn m _ _) ?_;rw[decide_eq_false h0,bc_f,decide_eq_false h1,bc_f,decide_eq_false h2,bc_f];exact ⟨[],⟨_,_,rfl,rfl,_,_,rfl,rfl,rfl⟩,trivial,by simp,λ p hp=>by cases hp⟩
def CEn:CV:=[(36,.inr ctCOn),(37,.inr ctNW),(38,.inr ctPut0),(39,.inr ctWco)]
def CDn:CV:=[(36,.inr ctCOn),(40,.inl ctEz),(41,.inr ctNR),(42,.inr ctNxt),(43,.inr ctRdn)]
set_option maxRecDepth 100000
theorem q0y (m:Int) (b:List Int) (Q:QT) (R:RT):sA CEn Try.f17 Q R [.code (qah Try.f17)] (entry [iI,.sl uB] (m,b,())) =
  (ctCOn.pre (m,())/\Q [.nils,.i 130] []):=by kernel_rfl
theorem q02 (m:Int) (b:List Int) (n:Int) (Q:QT) (R:RT):sA CDn Try.f19 Q R [.code (qah Try.f19)] (entry [iI,.sl uB,iI] (m,b,n,())) =
  (ctCOn.pre (m,())/\true=true/\true=true/\true=true/\Q [.nils,.i 130] []):=by kernel_rfl
theorem cxEn:CxOK Try.prog tt G0 CEn:=(((cx0.consI qc1 (fn:=Try.f39) rfl rfl rfl).consI qfa (fn:=Try.f38) rfl rfl rfl).consI qek (fn:=Try.f37) rfl rfl rfl).consI qrx (fn:=Try.f36) rfl rfl rfl
theorem cxDn:CxOK Try.prog tt G0 CDn:=((((cx0.consI qhe (fn:=Try.f43) rfl rfl rfl).consI qho (fn:=Try.f42) rfl rfl rfl).consI qkj (fn:=Try.f41) rfl rfl rfl).k qii (fn:=Try.f40)).consI qrx (fn:=Try.f36) rfl rfl rfl
abbrev noT:List Value:=List.replicate 256 (Value.pointer none)
def ctCO2:CtrI:=⟨[.dat iI],λ x=>x.1=(2:Int),λ _=>[.ifc 120 false [.ptr 0 0],.bool true],λ _=>[(0,.var [.pta 256 noT 256 [.nilp],.u 0])]⟩
theorem qf8:HeldI Try.prog G0 36 ctCO2:=HeldI.of cx3T (fn:=Try.f36) rfl rfl ⟨by decide,by decide⟩ λ ⟨m,_⟩ hp=>by
 have hp:m=(2:Int):=hp;subst hp;refine qbf cx3T (qqn 2 _ _) ?_;rw[decide_eq_false (by decide),bc_f,decide_eq_false (by decide),bc_f,decide_eq_true rfl,bc_t];exact qus rfl rfl (by decide) rfl ⟨_,_,rfl,⟨_,rfl,_,_,rfl,rfl,rfl⟩,_,_,rfl,rfl,rfl⟩
def CG00:CV:=[(36,.inr ctCO2),(37,.inr ctNW),(112,.inr ctChT0),(111,.inr ctChP),(38,.inr ctPut0),(39,.inr ctWco)]
def CG01:CV:=[(36,.inr ctCO2),(37,.inr ctNW),(112,.inr ctChT0),(111,.inr ctChP),(38,.inr ctPut1),(39,.inr ctWco)]
def CG10:CV:=[(36,.inr ctCO2),(37,.inr ctNW),(112,.inr ctChT1),(111,.inr ctChP),(38,.inr ctPut0),(39,.inr ctWco)]
def CG11:CV:=[(36,.inr ctCO2),(37,.inr ctNW),(112,.inr ctChT1),(111,.inr ctChP),(38,.inr ctPut1),(39,.inr ctWco)]
set_option maxRecDepth 100000
theorem q0z (m:Int) (b:List Int) (Q:QT) (R:RT):sA CG00 Try.f17 Q (λ it S=>R it (qar [6,8,22,23,24] [66,77,88,90,1053248,1086016,1086017,1126976,1131072] S)) [.code (qah Try.f17)] (entry [iI,.sl uB] (m,b,())) =
  (ctCO2.pre (m,())/\bc (decide ((65536:Int)<(b.length:Int))) (Q [.nils,.i 2] [(1053248,.var [SV.pta (256:Nat) noT (256:Nat) [SV.nilp],.u 0])]) (ctNW.pre ()/\R (hd Try.f17 0) { env:=[(6,.ifc (120:Nat) false [.ptr 1053248 0]),(8,.ptr 1086016 0),(22,.sl uB b),(23,.i (b.length:Int)),(24,.i 0)],blk:=[(1053248,.var [SV.pta (256:Nat) noT (256:Nat) [SV.nilp],.u 0]),(1086016,.var [.win true uB 1086017 0 0,.int .u32 0,.int .u32 4294967295]),(1086017,.row 5 uB [])] })):=by kernel_rfl
theorem qnr (b l:List Int) (V:List Value) (j:Nat) (z lo w:Int) (i:Nat) (Q:QT) (R:RT):sA CG00 Try.f17 Q (λ it S=>R it (qar [6,8,22,23,24] [66,77,88,90,1053248,1086016,1086017,1126976,1131072] S)) (hd Try.f17 0) ⟨[(6,.ifc 120 false [.ptr 88 0]),(8,.ptr 90 0),(22,.sl uB b),(23,.int .i64 b.length),(24,.int .i64 (i:Nat))],[(66,.row 5 uB l),(88,.var [.pta 256 V j [.nilp],.int .u8 z]),(90,wrV 66 l.length lo w)]⟩ =
  (bc (decide ((i:Int)<(b.length:Int))) ((0:Int)<=(i:Int)/\(i:Int)<(b.length:Int)/\(256:Nat)=(256:Nat)/\(256:Nat)=(256:Nat)/\ctChT0.pre ((((V,j),()),z,()),())/\l.length=l.length/\ctPut0.pre ((l,lo,w,()),gt uB b (i:Int).toNat,(c1L,(256:Int),()),())/\(256:Nat)=(256:Nat)/\(256:Nat)=(256:Nat)/\ctChP.pre ((((V,j),c1L,(256:Int),()),z,()),gt uB b (i:Int).toNat,())/\R (hd Try.f17 0) { env:=[(6,.ifc (120:Nat) false [.ptr 88 0]),(8,.ptr 90 0),(22,.sl uB b),(23,.int .i64 (b.length:Int)),(24,.int .i64 (IntKind.i64.wrap ((i:Int)+1)))],blk:=[(66,.row 5 uB (qa6 l c1L lo w (256:Int) (gt uB b (i:Int).toNat))),(88,.var [SV.pta (256:Nat) V j [.ptr 1126976 0],.int .u8 (gt uB b (i:Int).toNat)]),(90,.var [.win true uB 66 0 (qa6 l c1L lo w (256:Int) (gt uB b (i:Int).toNat)).length,.int .u32 (lowV c1L lo w (256:Int) (gt uB b (i:Int).toNat)),.int .u32 (wid2 c1L w (256:Int) (gt uB b (i:Int).toNat))]),(1126976,.var [.arr (256:Nat) u4 (groV c1L (256:Int) (gt uB b (i:Int).toNat)).1,.int .u32 (groV c1L (256:Int) (gt uB b (i:Int).toNat)).2])] }) (l.length=l.length/\ctWco.pre ((l,lo,w,()),())/\Q [.win false uB 1155648 0 (qao (outF (4:Nat) (l,lo)).1 (outF (4:Nat) (l,lo)).1.length),.int .i64 0] [(88,.var [SV.pta (256:Nat) V j [SV.nilp],.int .u8 z]),(90,.var [.win true uB 1155648 0 (outF (4:Nat) (l,lo)).1.length,.int .u32 (outF (4:Nat) (l,lo)).2,.int .u32 w]),(1155648,.row 5 uB (outF (4:Nat) (l,lo)).1)])):=by kernel_rfl
theorem qtv (b l:List Int) (V:List Value) (j:Nat) (z lo w:Int) (i:Nat) (Q:QT) (R:RT):sA CG01 Try.f17 Q (λ it S=>R it (qar [6,8,22,23,24] [66,77,88,90,1053248,1086016,1086017,1126976,1131072] S)) (hd Try.f17 0) ⟨[(6,.ifc 120 false [.ptr 88 0]),(8,.ptr 90 0),(22,.sl uB b),(23,.int .i64 b.length),(24,.int .i64 (i:Nat))],[(66,.row 5 uB l),(88,.var [.pta 256 V j [.nilp],.int .u8 z]),(90,wrV 66 l.length lo w)]⟩ =
  (bc (decide ((i:Int)<(b.length:Int))) ((0:Int)<=(i:Int)/\(i:Int)<(b.length:Int)/\(256:Nat)=(256:Nat)/\(256:Nat)=(256:Nat)/\ctChT0.pre ((((V,j),()),z,()),())/\l.length=l.length/\ctPut1.pre ((l,lo,w,()),gt uB b (i:Int).toNat,(c1L,(256:Int),()),())/\(256:Nat)=(256:Nat)/\(256:Nat)=(256:Nat)/\ctChP.pre ((((V,j),c1L,(256:Int),()),z,()),gt uB b (i:Int).toNat,())/\R (hd Try.f17 0) { env:=[(6,.ifc (120:Nat) false [.ptr 88 0]),(8,.ptr 90 0),(22,.sl uB b),(23,.int .i64 (b.length:Int)),(24,.int .i64 (IntKind.i64.wrap ((i:Int)+1)))],blk:=[(88,.var [SV.pta (256:Nat) V j [.ptr 1126976 0],.int .u8 (gt uB b (i:Int).toNat)]),(90,.var [.win true uB 1131072 0 (putV l c1L lo w (256:Int) (gt uB b (i:Int).toNat)).1.length,.int .u32 (putV l c1L lo w (256:Int) (gt uB b (i:Int).toNat)).2.1,.int .u32 (putV l c1L lo w (256:Int) (gt uB b (i:Int).toNat)).2.2]),(1126976,.var [.arr (256:Nat) u4 (groV c1L (256:Int) (gt uB b (i:Int).toNat)).1,.int .u32 (groV c1L (256:Int) (gt uB b (i:Int).toNat)).2]),(1131072,.row 5 uB (putV l c1L lo w (256:Int) (gt uB b (i:Int).toNat)).1)] }) (l.length=l.length/\ctWco.pre ((l,lo,w,()),())/\Q [.win false uB 1155648 0 (qao (outF (4:Nat) (l,lo)).1 (outF (4:Nat) (l,lo)).1.length),.int .i64 0] [(88,.var [SV.pta (256:Nat) V j [SV.nilp],.int .u8 z]),(90,.var [.win true uB 1155648 0 (outF (4:Nat) (l,lo)).1.length,.int .u32 (outF (4:Nat) (l,lo)).2,.int .u32 w]),(1155648,.row 5 uB (outF (4:Nat) (l,lo)).1)])):=by kernel_rfl
theorem qnq (b l c:List Int) (V:List Value) (j:Nat) (z lo w t:Int) (i:Nat) (Q:QT) (R:RT):sA CG10 Try.f17 Q (λ it S=>R it (qar [6,8,22,23,24] [66,77,88,90,1053248,1086016,1086017,1126976,1131072] S)) (hd Try.f17 0) ⟨[(6,.ifc 120 false [.ptr 88 0]),(8,.ptr 90 0),(22,.sl uB b),(23,.int .i64 b.length),(24,.int .i64 (i:Nat))],[(66,.row 5 uB l),(77,tbV c t),(88,.var [.pta 256 V j [.ptr 77 0],.int .u8 z]),(90,wrV 66 l.length lo w)]⟩ =
  (bc (decide ((i:Int)<(b.length:Int))) ((0:Int)<=(i:Int)/\(i:Int)<(b.length:Int)/\(256:Nat)=(256:Nat)/\(256:Nat)=(256:Nat)/\ctChT1.pre ((((V,j),c,t,()),z,()),())/\l.length=l.length/\ctPut0.pre ((l,lo,w,()),gt uB b (i:Int).toNat,(c,t,()),())/\(256:Nat)=(256:Nat)/\(256:Nat)=(256:Nat)/\ctChP.pre ((((V,j),c,t,()),z,()),gt uB b (i:Int).toNat,())/\R (hd Try.f17 0) { env:=[(6,.ifc (120:Nat) false [.ptr 88 0]),(8,.ptr 90 0),(22,.sl uB b),(23,.int .i64 (b.length:Int)),(24,.int .i64 (IntKind.i64.wrap ((i:Int)+1)))],blk:=[(66,.row 5 uB (qa6 l c lo w t (gt uB b (i:Int).toNat))),(77,.var [.arr (256:Nat) u4 (groV c t (gt uB b (i:Int).toNat)).1,.int .u32 (groV c t (gt uB b (i:Int).toNat)).2]),(88,.var [SV.pta (256:Nat) V j [.ptr 77 0],.int .u8 (gt uB b (i:Int).toNat)]),(90,.var [.win true uB 66 0 (qa6 l c lo w t (gt uB b (i:Int).toNat)).length,.int .u32 (lowV c lo w t (gt uB b (i:Int).toNat)),.int .u32 (wid2 c w t (gt uB b (i:Int).toNat))])] }) (l.length=l.length/\ctWco.pre ((l,lo,w,()),())/\Q [.win false uB 1155648 0 (qao (outF (4:Nat) (l,lo)).1 (outF (4:Nat) (l,lo)).1.length),.int .i64 0] [(77,.var [.arr (256:Nat) u4 c,.int .u32 t]),(88,.var [SV.pta (256:Nat) V j [.ptr 77 0],.int .u8 z]),(90,.var [.win true uB 1155648 0 (outF (4:Nat) (l,lo)).1.length,.int .u32 (outF (4:Nat) (l,lo)).2,.int .u32 w]),(1155648,.row 5 uB (outF (4:Nat) (l,lo)).1)])):=by kernel_rfl
theorem qtu (b l c:List Int) (V:List Value) (j:Nat) (z lo w t:Int) (i:Nat) (Q:QT) (R:RT):sA CG11 Try.f17 Q (λ it S=>R it (qar [6,8,22,23,24] [66,77,88,90,1053248,1086016,1086017,1126976,1131072] S)) (hd Try.f17 0) ⟨[(6,.ifc 120 false [.ptr 88 0]),(8,.ptr 90 0),(22,.sl uB b),(23,.int .i64 b.length),(24,.int .i64 (i:Nat))],[(66,.row 5 uB l),(77,tbV c t),(88,.var [.pta 256 V j [.ptr 77 0],.int .u8 z]),(90,wrV 66 l.length lo w)]⟩ =
  (bc (decide ((i:Int)<(b.length:Int))) ((0:Int)<=(i:Int)/\(i:Int)<(b.length:Int)/\(256:Nat)=(256:Nat)/\(256:Nat)=(256:Nat)/\ctChT1.pre ((((V,j),c,t,()),z,()),())/\l.length=l.length/\ctPut1.pre ((l,lo,w,()),gt uB b (i:Int).toNat,(c,t,()),())/\(256:Nat)=(256:Nat)/\(256:Nat)=(256:Nat)/\ctChP.pre ((((V,j),c,t,()),z,()),gt uB b (i:Int).toNat,())/\R (hd Try.f17 0) { env:=[(6,.ifc (120:Nat) false [.ptr 88 0]),(8,.ptr 90 0),(22,.sl uB b),(23,.int .i64 (b.length:Int)),(24,.int .i64 (IntKind.i64.wrap ((i:Int)+1)))],blk:=[(77,.var [.arr (256:Nat) u4 (groV c t (gt uB b (i:Int).toNat)).1,.int .u32 (groV c t (gt uB b (i:Int).toNat)).2]),(88,.var [SV.pta (256:Nat) V j [.ptr 77 0],.int .u8 (gt uB b (i:Int).toNat)]),(90,.var [.win true uB 1131072 0 (putV l c lo w t (gt uB b (i:Int).toNat)).1.length,.int .u32 (putV l c lo w t (gt uB b (i:Int).toNat)).2.1,.int .u32 (putV l c lo w t (gt uB b (i:Int).toNat)).2.2]),(1131072,.row 5 uB (putV l c lo w t (gt uB b (i:Int).toNat)).1)] }) (l.length=l.length/\ctWco.pre ((l,lo,w,()),())/\Q [.win false uB 1155648 0 (qao (outF (4:Nat) (l,lo)).1 (outF (4:Nat) (l,lo)).1.length),.int .i64 0] [(77,.var [.arr (256:Nat) u4 c,.int .u32 t]),(88,.var [SV.pta (256:Nat) V j [.ptr 77 0],.int .u8 z]),(90,.var [.win true uB 1155648 0 (outF (4:Nat) (l,lo)).1.length,.int .u32 (outF (4:Nat) (l,lo)).2,.int .u32 w]),(1155648,.row 5 uB (outF (4:Nat) (l,lo)).1)])):=by kernel_rfl
abbrev Tb:=List Int × Int
def D0:Nat->Tb:=λ _=>(c1L,256)
def atD (g z:Nat):Nat:=match g with
 | 2=>z
 | _=>0
def nxD (g:Nat) (D:Nat->Tb) (z:Nat) (x:Int):Nat->Tb:=match g with
 | 0=>D
 | g=>λ k=>if k=atD g z then groV (D k).1 (D k).2 x else D k
def eG (g:Nat):List Int->(Nat->Tb)->Nat->List Int->Int->Int->List Int × Int × Int
 | [],_,_,l,lo,w=>(l,lo,w)
 | x::b,D,z,l,lo,w=>eG g b (nxD g D z x) x.toNat (putV l (D (atD g z)).1 lo w (D (atD g z)).2 x).1 (putV l (D (atD g z)).1 lo w (D (atD g z)).2 x).2.1 (putV l (D (atD g z)).1 lo w (D (atD g z)).2 x).2.2
def dG (g:Nat):Nat->List Int->List Int->Int->Int->(Nat->Tb)->Nat->Option (List Int)
 | 0,o,l,v,_,_,_=>match decide (v=0)&&decide ((l.length:Int)=0) with
  | true=>some o
  | false=>none
 | k+1,o,l,v,w,D,z=>match (nxtV l (D (atD g z)).1 v w (D (atD g z)).2).1.2 with
  | true=>dG g k (o++[(nxtV l (D (atD g z)).1 v w (D (atD g z)).2).1.1]) (nxtV l (D (atD g z)).1 v w (D (atD g z)).2).2.1 (nxtV l (D (atD g z)).1 v w (D (atD g z)).2).2.2.1 (nxtV l (D (atD g z)).1 v w (D (atD g z)).2).2.2.2 (nxD g D z (nxtV l (D (atD g z)).1 v w (D (atD g z)).2).1.1) (nxtV l (D (atD g z)).1 v w (D (atD g z)).2).1.1.toNat
  | false=>none
def outG (g:Nat) (b:List Int):List Int:=(outF 4 ((eG g b D0 0 [] 0 4294967295).1,(eG g b D0 0 [] 0 4294967295).2.1)).1
def encG (g:Nat) (b:List Int):List Int × Nat × Int:=match decide (65536<(b.length:Int)) with
 | true=>([],0,2)
 | false=>(outG g b,qao (outG g b) (outG g b).length,0)
def decG (g:Nat) (b:List Int) (n:Int):List Int × Int:=match decide (n<0) with
 | true=>([],130)
 | false=>match decide (65536<n) with
  | true=>([],130)
  | false=>match ezV b with
   | true=>([],130)
   | false=>match dG g n.toNat [] (rdF 4 (b,0)).1 (rdF 4 (b,0)).2 4294967295 D0 0 with
    | some o=>(o,0)
    | none=>([],130)
def isM (m:Int):Bool:=decide (0<=m)&&decide (m<=2)
def encA (m:Int) (b:List Int):List Int × Nat × Int:=match isM m with
 | true=>encG m.toNat b
 | false=>([],0,130)
def decA (m:Int) (b:List Int) (n:Int):List Int × Int:=match isM m with
 | true=>decG m.toNat b n
 | false=>([],130)
def ctEncA:Ctr:=⟨[iI,.sl uB],λ x=>byL x.2.1,λ x=>[.win false uB 0 0 (encA x.1 x.2.1).2.1,.i (encA x.1 x.2.1).2.2],λ x=>[.row 5 uB (encA x.1 x.2.1).1]⟩
def ctDecA:Ctr:=⟨[iI,.sl uB,iI],λ x=>List.length x.2.1<1099511627776,λ x=>[.win true uB 0 0 (decA x.1 x.2.1 x.2.2.1).1.length,.i (decA x.1 x.2.1 x.2.2.1).2],λ x=>[.row 5 uB (decA x.1 x.2.1 x.2.2.1).1]⟩
theorem q1z {g:Nat} (hg:g≠0) {D:Nat->Tb} {z:Nat} {x:Int} (k:Nat):nxD g D z x k=if k=atD g z then groV (D k).1 (D k).2 x else D k:=by
 match g,hg with
 | g+1,_=>rfl
theorem nx_1 {D:Nat->Tb} {c:List Int} {t x:Int} {z:Nat} (h:D 0=(c,t)):nxD 1 D z x 0=((dcG true c t x).1,(dcG true c t x).2):=by
 show (if 0=0 then groV (D 0).1 (D 0).2 x else D 0)=_
 rw[if_pos rfl,h];rfl
theorem eG_0:∀ (b l c:List Int) (lo w t:Int) (D:Nat->Tb) (z:Nat),D 0=(c,t)->ecF false b l lo w c t=eG 0 b D z l lo w
 | [],_,_,_,_,_,_,_,_=>rfl
 | x::b,l,c,lo,w,t,D,z,h=>by
  have e:D (atD 0 z)=(c,t):=h;rw[ecF,eG,e];exact eG_0 b _ c _ _ t D _ h
theorem eG_1:∀ (b l c:List Int) (lo w t:Int) (D:Nat->Tb) (z:Nat),D 0=(c,t)->ecF true b l lo w c t=eG 1 b D z l lo w
 | [],_,_,_,_,_,_,_,_=>rfl
 | x::b,l,c,lo,w,t,D,z,h=>by
  have e:D (atD 1 z)=(c,t):=h;rw[ecF,eG,e];exact eG_1 b _ _ _ _ _ _ _ (nx_1 h)
theorem q0f (b:List Int):encV false b=encG 0 b:=by
 unfold encV encG outV outG;rw[eG_0 b [] c1L 0 4294967295 256 D0 0 rfl]
 all_goals (cases decide (65536<(b.length:Int)) <;> rfl)
theorem q0e (b:List Int):encV true b=encG 1 b:=by
 unfold encV encG outV outG;rw[eG_1 b [] c1L 0 4294967295 256 D0 0 rfl]
 all_goals (cases decide (65536<(b.length:Int)) <;> rfl)
theorem dG_0:∀ (k:Nat) (o l c:List Int) (v w t:Int) (D:Nat->Tb) (z:Nat),D 0=(c,t)->dcF false k o l v w c t=dG 0 k o l v w D z
 | 0,_,_,_,_,_,_,_,_,_=>rfl
 | k+1,o,l,c,v,w,t,D,z,h=>by
  have e:D (atD 0 z)=(c,t):=h;rw[dcF,dG,e]
  show _=match (nxtV l c v w t).1.2 with
   | true=>_
   | false=>_
  cases (nxtV l c v w t).1.2 with
  | false=>rfl
  | true=>exact dG_0 k _ _ _ _ _ _ D _ h
theorem dG_1:∀ (k:Nat) (o l c:List Int) (v w t:Int) (D:Nat->Tb) (z:Nat),D 0=(c,t)->dcF true k o l v w c t=dG 1 k o l v w D z
 | 0,_,_,_,_,_,_,_,_,_=>rfl
 | k+1,o,l,c,v,w,t,D,z,h=>by
  have e:D (atD 1 z)=(c,t):=h;rw[dcF,dG,e]
  show _=match (nxtV l c v w t).1.2 with
   | true=>_
   | false=>_
  cases (nxtV l c v w t).1.2 with
  | false=>rfl
  | true=>exact dG_1 k _ _ _ _ _ _ _ _ (nx_1 h)
theorem q0h (b:List Int) (n:Int):decV false b n=decG 0 b n:=by
 unfold decV decG;rw[dG_0 n.toNat [] _ c1L _ 4294967295 256 D0 0 rfl]
 all_goals (cases decide (n<0) <;> cases decide (65536<n) <;> cases ezV b <;> cases dG 0 n.toNat [] (rdF 4 (b,0)).1 (rdF 4 (b,0)).2 4294967295 D0 0 <;> rfl)
theorem q0g (b:List Int) (n:Int):decV true b n=decG 1 b n:=by
 unfold decV decG;rw[dG_1 n.toNat [] _ c1L _ 4294967295 256 D0 0 rfl]
 all_goals (cases decide (n<0) <;> cases decide (65536<n) <;> cases ezV b <;> cases dG 1 n.toNat [] (rdF 4 (b,0)).1 (rdF 4 (b,0)).2 4294967295 D0 0 <;> rfl)
abbrev Mt:=Nat->Option Tb
def DT (M:Mt):Nat->Tb:=λ k=>(M k).getD (c1L,256)
def upM (M:Mt) (j:Nat) (p:Tb):Mt:=λ k=>if k=j then some p else M k
abbrev tbL (p:Tb):List SV:=[.arr 256 u4 p.1,.int .u32 p.2]
theorem q5t (M:Mt) (j:Nat) (x:Int):DT (upM M j (groV (DT M j).1 (DT M j).2 x))=nxD 2 (DT M) j x:=by
 funext k;rw[q1z (by decide)]
 show ((if k=j then some (groV (DT M j).1 (DT M j).2 x) else M k).getD (c1L,256))=if k=j then _ else _
 by_cases h:k=j
 ·subst h;rw[if_pos rfl,if_pos rfl];rfl
 ·rw[if_neg h,if_neg h];rfl
theorem q0b (p:Tb):FixL (tbL p):=⟨rfl,λ Z ν cs h Z' ν'=>by
 simp only[CRL,CR] at h |-;obtain ⟨u,w,rfl,h1,h2⟩:=h
 exact ⟨u,w,rfl,RV.plain (.arr 256 u4) rfl _ _ h1,h2⟩⟩
theorem qz3 (M:Mt) (j:Nat) (p:Tb):(λ k=>if k=j then some (tbL p) else (M k).map tbL)=λ k=>(upM M j p k).map tbL:=by
 funext k
 show _=((if k=j then some p else M k).map tbL)
 by_cases h:k=j
 ·rw[if_pos h,if_pos h];rfl
 ·rw[if_neg h,if_neg h]
abbrev GT (f:Nat) (fn:Func) (Q:List SV->List (Nat × LB)->Prop) (V:List Value) (M:Mt) (j:Nat) (it:List Item) (S:PS):Prop:=Px.GoodT Try.prog G0 f fn.ntmps (endK tt G0 fn.results.toList Q) V (λ k=>(M k).map tbL) j it S
abbrev gEnv (b:List Int) (i:Nat):List (Nat × SV):=[(6,.ifc 120 false [.ptr 88 0]),(8,.ptr 90 0),(22,.sl uB b),(23,.i b.length),(24,.i (i:Nat))]
abbrev gSt (b l:List Int) (V:List Value) (lo w:Int) (z i:Nat):PS:=⟨gEnv b i,[(66,.row 5 uB l),(88,.var [.pta 256 V 256 [.nilp],.int .u8 (z:Nat)]),(90,wrV 66 l.length lo w)]⟩
abbrev gOp (b l c:List Int) (V:List Value) (j:Nat) (x lo w t:Int) (i:Nat):PS:=⟨gEnv b i,[(66,.row 5 uB l),(77,tbV c t),(88,.var [.pta 256 V j [.ptr 77 0],.int .u8 x]),(90,wrV 66 l.length lo w)]⟩
theorem qyy:CxOK Try.prog tt G0 CG00:=(((((cx0.consI qc1 (fn:=Try.f39) rfl rfl rfl).consI qfa (fn:=Try.f38) rfl rfl rfl).consI qf7 (fn:=Try.f111) rfl rfl rfl).consI qk0 (fn:=Try.f112) rfl rfl rfl).consI qek (fn:=Try.f37) rfl rfl rfl).consI qf8 (fn:=Try.f36) rfl rfl rfl
theorem cxG01:CxOK Try.prog tt G0 CG01:=(((((cx0.consI qc1 (fn:=Try.f39) rfl rfl rfl).consI qhg (fn:=Try.f38) rfl rfl rfl).consI qf7 (fn:=Try.f111) rfl rfl rfl).consI qk0 (fn:=Try.f112) rfl rfl rfl).consI qek (fn:=Try.f37) rfl rfl rfl).consI qf8 (fn:=Try.f36) rfl rfl rfl
theorem q5h:CxOK Try.prog tt G0 CG10:=(((((cx0.consI qc1 (fn:=Try.f39) rfl rfl rfl).consI qfa (fn:=Try.f38) rfl rfl rfl).consI qf7 (fn:=Try.f111) rfl rfl rfl).consI qhz (fn:=Try.f112) rfl rfl rfl).consI qek (fn:=Try.f37) rfl rfl rfl).consI qf8 (fn:=Try.f36) rfl rfl rfl
theorem cxG11:CxOK Try.prog tt G0 CG11:=(((((cx0.consI qc1 (fn:=Try.f39) rfl rfl rfl).consI qhg (fn:=Try.f38) rfl rfl rfl).consI qf7 (fn:=Try.f111) rfl rfl rfl).consI qhz (fn:=Try.f112) rfl rfl rfl).consI qek (fn:=Try.f37) rfl rfl rfl).consI qf8 (fn:=Try.f36) rfl rfl rfl
theorem qju {m:Int} {b L:List Int} {n a:Nat} {blk:List (Nat × LB)} (h:encA m b=(L,n,0)) (hb:lk blk a=some (.row 5 uB L)):QC ctEncA (m,b,()) [SV.win false uB a 0 n,.i 0] blk:=by
 refine qut (e:=uB) (et:=5) (a:=a) (z:=0) (xs:=L) ?_ ?_ rfl hb
 ·show [SV.win false uB 0 0 (encA m b).2.1,.i (encA m b).2.2]=_;rw[h]
 ·show [LB.row 5 uB (encA m b).1]=_;rw[h]
theorem qhy {m:Int} {b:List Int} {z:Int} {blk:List (Nat × LB)} (h:encA m b=([],0,z)):QC ctEncA (m,b,()) [SV.nils,.i z] blk:=by
 refine quu (e:=uB) (et:=5) (z:=z) ?_ ?_ rfl (by decide)
 ·show [SV.win false uB 0 0 (encA m b).2.1,.i (encA m b).2.2]=_;rw[h]
 ·show [LB.row 5 uB (encA m b).1]=_;rw[h]
theorem q2w {Q:List SV->List (Nat × LB)->Prop} {V:List Value} {M:Mt} {b l:List Int} {p:Tb} {lo w:Int} {j n i:Nat} (hj:j<256)
  (nx:∀ V',GT 17 Try.f17 Q V' (upM M j p) 256 (hd Try.f17 0) (gSt b l V' lo w n i)):GT 17 Try.f17 Q V M j (hd Try.f17 0) (gOp b l p.1 V j n lo w p.2 i):=
 GoodT.close (q:=88) (id:=77) (m:=256) (r:=[.int .u8 (n:Int)]) (s:=tbL p) rfl hj rfl (q0b p) (by decide) λ V'=>by
  rw[qz3];exact nx V'
theorem qv8 {b:List Int} (hb:byL b) (h6:b.length<=65536):∀ (k i:Nat) (l:List Int) (V:List Value) (M:Mt) (lo w:Int) (z:Nat),b.length-i=k->i<=b.length->l.length<=4*i->(∀ k,qa7 (DT M k).1 (DT M k).2)->WOK w->z<256->eG 2 (b.drop i) (DT M) z l lo w=eG 2 b D0 0 [] 0 4294967295 ->
  GT 17 Try.f17 (QC ctEncA ((2:Int),b,())) V M 256 (hd Try.f17 0) (gSt b l V lo w z i):=by
 intro k
 induction k with
 | zero=>
  intro i l V M lo w z hk hi hl ht hw hz hv;rw[List.drop_eq_nil_of_le (by omega),eG] at hv;have eo:(outF 4 (l,lo)).1=outG 2 b:=by unfold outG;rw[<- hv]
  have e:encA 2 b=(outG 2 b,qao (outG 2 b) (outG 2 b).length,0):=by
   show encG 2 b=_
   unfold encG;rw[decide_eq_false (by omega)]
  rw[<- eo] at e
  cases hM:M z with
  | none=>
   refine GoodT.open0 (q:=88) (r:=[.int .u8 (z:Int)]) rfl hz (by rw[hM];rfl) ?_;refine GoodT.goK qyy (qnr b l V z z lo w i _ _) ?_;rw[decide_eq_false (show ¬ (i:Int)<(b.length:Int) by omega),bc_f];exact ⟨rfl,(show l.length<100000000 by omega),qju e rfl⟩
  | some p=>
   refine GoodT.open1 (q:=88) (id:=77) (r:=[.int .u8 (z:Int)]) (s:=tbL p) rfl hz (by rw[hM];rfl) rfl (by decide) rfl ?_;refine GoodT.goK q5h (qnq b l p.1 V z z lo w p.2 i _ _) ?_;rw[decide_eq_false (show ¬ (i:Int)<(b.length:Int) by omega),bc_f];exact ⟨rfl,(show l.length<100000000 by omega),qju e rfl⟩
 | succ k ih=>
  intro i l V M lo w z hk hi hl ht hw hz hv;have hil:i<b.length:=by omega
  obtain ⟨x,hx⟩:=Int.eq_ofNat_of_zero_le (hb _ (List.getElem_mem hil)).1;have hx2:=(hb _ (List.getElem_mem hil)).2;rw[hx] at hx2;have e1:gtB b i=(x:Int):=(qi1 hil).trans hx;have e2:gt uB b (i:Int).toNat=(x:Int):=by rw[Int.toNat_natCast];exact e1
  have hxr:0<=(x:Int)/\(x:Int)<256:=by omega
  have tz:=ht z;obtain ⟨q1,q2⟩:=qqg tz hw hxr;have hr:=qe0 tz;rw[List.drop_eq_getElem_cons hil,eG,hx] at hv;generalize hP:DT M z=P at *;have tg:qa7 (groV P.1 P.2 x).1 (groV P.1 P.2 x).2:=qj3 tz (by omega);have pp:qis l P.2 (x:Int):=⟨by omega,hxr,by omega⟩;have pg:qsh P.1 (x:Int):=⟨tz.1,hxr⟩;have pz:qu3 z (z:Int):=⟨rfl,hz⟩;obtain ⟨g1,g2⟩:=qmp 4 (wid2 P.1 w P.2 x) q1 q2 (qa6 l P.1 lo w P.2 x) (lowV P.1 lo w P.2 x);rw[qe9] at g2;have g3:(putV l P.1 lo w P.2 x).1.length<=l.length+4:=g2;have hU:∀ k,qa7 (DT (upM M z (groV P.1 P.2 x)) k).1 (DT (upM M z (groV P.1 P.2 x)) k).2:=λ k=>by
   show qa7 ((if k=z then some (groV P.1 P.2 x) else M k).getD (c1L,256)).1 ((if k=z then some (groV P.1 P.2 x) else M k).getD (c1L,256)).2
   by_cases h:k=z
   ·rw[if_pos h];exact tg
   ·rw[if_neg h];exact ht k
  have hD:DT (upM M z (groV P.1 P.2 x))=nxD 2 (DT M) z x:=by rw[<- hP];exact q5t M z x
  have ea:DT M (atD 2 z)=P:=hP;rw[<- hD,ea,Int.toNat_natCast] at hv;have nx:=λ V'=>ih (i+1) (putV l P.1 lo w P.2 x).1 V' (upM M z (groV P.1 P.2 x)) (putV l P.1 lo w P.2 x).2.1 (putV l P.1 lo w P.2 x).2.2 x (by omega) (by omega) (by omega) hU g1 (by omega) hv
  have nx:=q2w (V:=V) hz nx;by_cases hq:wid2 P.1 w P.2 x<16777216
  ·cases hM:M z with
   | none=>
    have hP1:P=(c1L,256):=by rw[<- hP];show (M z).getD _=_;rw[hM];rfl
    subst hP1;refine GoodT.open0 (q:=88) (r:=[.int .u8 (z:Int)]) rfl hz (by rw[hM];rfl) ?_;refine GoodT.goK cxG01 (qtv b l V z z lo w i _ _) ?_;rw[decide_eq_true (show (i:Int)<(b.length:Int) by omega),bc_t,IntWalk.i64_in ((i:Int)+1) (by omega),e2];refine ⟨by omega,by omega,rfl,rfl,pz,rfl,⟨pp,hq,(qlq 4 _ q1 q2).1⟩,rfl,rfl,⟨pz,pg⟩,?_⟩;exact nx.onlyR [(66,1131072),(77,1126976)] rfl ⟨rfl,rfl,rfl,rfl,rfl,trivial⟩ ⟨rfl,rfl,rfl,rfl,trivial⟩
   | some p=>
    have hP1:P=p:=by rw[<- hP];show (M z).getD _=_;rw[hM];rfl
    subst hP1;refine GoodT.open1 (q:=88) (id:=77) (r:=[.int .u8 (z:Int)]) (s:=tbL P) rfl hz (by rw[hM];rfl) rfl (by decide) rfl ?_;refine GoodT.goK cxG11 (qtu b l P.1 V z z lo w P.2 i _ _) ?_;rw[decide_eq_true (show (i:Int)<(b.length:Int) by omega),bc_t,IntWalk.i64_in ((i:Int)+1) (by omega),e2];refine ⟨by omega,by omega,rfl,rfl,pz,rfl,⟨pp,hq,(qlq 4 _ q1 q2).1⟩,rfl,rfl,⟨pz,pg⟩,?_⟩;exact nx.onlyR [(66,1131072)] rfl ⟨rfl,rfl,rfl,rfl,rfl,trivial⟩ ⟨rfl,rfl,rfl,rfl,trivial⟩
  ·have e3:putV l P.1 lo w P.2 x=(qa6 l P.1 lo w P.2 x,lowV P.1 lo w P.2 x,wid2 P.1 w P.2 x):=by unfold putV;rw[putF,decide_eq_false hq]
   rw[e3] at nx
   cases hM:M z with
   | none=>
    have hP1:P=(c1L,256):=by rw[<- hP];show (M z).getD _=_;rw[hM];rfl
    subst hP1;refine GoodT.open0 (q:=88) (r:=[.int .u8 (z:Int)]) rfl hz (by rw[hM];rfl) ?_;refine GoodT.goK qyy (qnr b l V z z lo w i _ _) ?_;rw[decide_eq_true (show (i:Int)<(b.length:Int) by omega),bc_t,IntWalk.i64_in ((i:Int)+1) (by omega),e2];refine ⟨by omega,by omega,rfl,rfl,pz,rfl,⟨pp,hq⟩,rfl,rfl,⟨pz,pg⟩,?_⟩;exact nx.onlyR [(77,1126976)] rfl ⟨rfl,rfl,rfl,rfl,rfl,trivial⟩ ⟨rfl,rfl,rfl,rfl,trivial⟩
   | some p=>
    have hP1:P=p:=by rw[<- hP];show (M z).getD _=_;rw[hM];rfl
    subst hP1;refine GoodT.open1 (q:=88) (id:=77) (r:=[.int .u8 (z:Int)]) (s:=tbL P) rfl hz (by rw[hM];rfl) rfl (by decide) rfl ?_;refine GoodT.goK q5h (qnq b l P.1 V z z lo w P.2 i _ _) ?_;rw[decide_eq_true (show (i:Int)<(b.length:Int) by omega),bc_t,IntWalk.i64_in ((i:Int)+1) (by omega),e2];refine ⟨by omega,by omega,rfl,rfl,pz,rfl,⟨pp,hq⟩,rfl,rfl,⟨pz,pg⟩,?_⟩;exact nx.only ⟨rfl,rfl,rfl,rfl,rfl,trivial⟩ ⟨rfl,rfl,rfl,rfl,trivial⟩
def CH0:CV:=[(36,.inr ctCO2),(40,.inl ctEz),(41,.inr ctNR),(112,.inr ctChT0),(111,.inr ctChP),(42,.inr ctNxt),(43,.inr ctRdn)]
def CH1:CV:=[(36,.inr ctCO2),(40,.inl ctEz),(41,.inr ctNR),(112,.inr ctChT1),(111,.inr ctChP),(42,.inr ctNxt),(43,.inr ctRdn)]
set_option maxRecDepth 100000
theorem q03 (m:Int) (b:List Int) (n:Int) (Q:QT) (R:RT):sA CH0 Try.f19 Q (λ it S=>R it (qar [8,10,11,39,40] [37,77,88,90,1049152,1069632,1143360,1184320] S)) [.code (qah Try.f19)] (entry [iI,.sl uB,iI] (m,b,n,())) =
  (ctCO2.pre (m,())/\bc (bif false then true else decide (n<0)) (true=true/\true=true/\Q [.nils,.i 130] [(1069632,.var [SV.pta (256:Nat) noT (256:Nat) [SV.nilp],.u 0])]) (bc (bif false then true else decide ((65536:Int)<n)) (true=true/\Q [.nils,.i 130] [(1069632,.var [SV.pta (256:Nat) noT (256:Nat) [SV.nilp],.u 0])]) (ctEz.pre (b,())/\bc (bif false then true else ezV b) (Q [.nils,.i 130] [(1069632,.var [SV.pta (256:Nat) noT (256:Nat) [SV.nilp],.u 0])]) (ctNR.pre (b,())/\(0:Int)<=n/\n<=n/\n<2 ^ 24/\(↑(1:Nat):Int)*n<=2 ^ 48/\R (hd Try.f19 0) { env:=[(8,.ifc (120:Nat) false [.ptr 1069632 0]),(10,.ptr 1143360 0),(11,.win true uB 37 0 n.toNat),(39,.i (n.toNat:Int)),(40,.i 0)],blk:=[(37,.row 5 uB (List.replicate n.toNat uB.dflt)),(1069632,.var [SV.pta (256:Nat) noT (256:Nat) [SV.nilp],.u 0]),(1143360,.var [.sl uB (rdF (4:Nat) (b,(0:Int))).1,.int .u32 (rdF (4:Nat) (b,(0:Int))).2,.int .u32 4294967295])] })))):=by kernel_rfl
def qhr (o l:List Int) (V:List Value) (j:Nat) (z v w:Int):List (Nat × LB):=[(37,.row 5 uB o),(88,.var [SV.pta (256:Nat) V j [SV.nilp],.int .u8 z]),(90,.var [.sl uB l,.int .u32 v,.int .u32 w])]
theorem qjy (n:Nat) (o l:List Int) (V:List Value) (j:Nat) (z v w:Int) (i:Nat) (Q:QT) (R:RT):sA CH0 Try.f19 Q (λ it S=>R it (qar [8,10,11,39,40] [37,77,88,90,1188416] S)) (hd Try.f19 0) ⟨[(8,.ifc 120 false [.ptr 88 0]),(10,.ptr 90 0),(11,.win true uB 37 0 o.length),(39,.int .i64 (n:Nat)),(40,.int .i64 (i:Nat))],[(37,.row 5 uB o),(88,.var [.pta 256 V j [.nilp],.int .u8 z]),(90,rdL l v w)]⟩ =
  (bc (decide ((i:Int)<(n:Int))) ((256:Nat)=(256:Nat)/\(256:Nat)=(256:Nat)/\ctChT0.pre ((((V,j),()),z,()),())/\ctNxt.pre ((l,v,w,()),(c1L,(256:Int),()),())/\bc (!(nxtV l c1L v w (256:Int)).1.2) (Q [.nils,.int .i64 130] [(37,.row 5 uB o),(88,.var [SV.pta (256:Nat) V j [.ptr 1188416 0],.int .u8 z]),(90,.var [.sl uB (nxtV l c1L v w (256:Int)).2.1,.int .u32 (nxtV l c1L v w (256:Int)).2.2.1,.int .u32 (nxtV l c1L v w (256:Int)).2.2.2]),(1188416,.var [.arr (256:Nat) u4 c1L,.int .u32 256])]) ((256:Nat)=(256:Nat)/\(256:Nat)=(256:Nat)/\ctChP.pre ((((V,j),c1L,(256:Int),()),z,()),(nxtV l c1L v w (256:Int)).1.1,())/\(0:Int)<=(i:Int)/\(i:Int)<(o.length:Int)/\(0:Nat)+(i:Int).toNat<o.length/\R (hd Try.f19 0) { env:=[(8,.ifc (120:Nat) false [.ptr 88 0]),(10,.ptr 90 0),(11,.win true uB 37 0 o.length),(39,.int .i64 (n:Int)),(40,.int .i64 (IntKind.i64.wrap ((i:Int)+1)))],blk:=[(37,.row 5 uB (o.set ((0:Nat)+(i:Int).toNat) (nxtV l c1L v w (256:Int)).1.1)),(88,.var [SV.pta (256:Nat) V j [.ptr 1188416 0],.int .u8 (nxtV l c1L v w (256:Int)).1.1]),(90,.var [.sl uB (nxtV l c1L v w (256:Int)).2.1,.int .u32 (nxtV l c1L v w (256:Int)).2.2.1,.int .u32 (nxtV l c1L v w (256:Int)).2.2.2]),(1188416,.var [.arr (256:Nat) u4 (groV c1L (256:Int) (nxtV l c1L v w (256:Int)).1.1).1,.int .u32 (groV c1L (256:Int) (nxtV l c1L v w (256:Int)).1.1).2])] })) (ctRdn.pre ((l,v,w,()),())/\bc (!(decide (v=(0:(AK.dat u4).D))&&decide ((l.length:Int)=(0:Int)))) (Q [.nils,.int .i64 130] (qhr o l V j z v w)) (Q [.win true uB 37 0 o.length,.int .i64 0] (qhr o l V j z v w)))):=by kernel_rfl
def qhq (o l c:List Int) (V:List Value) (j:Nat) (z v w t:Int):List (Nat × LB):=[(37,.row 5 uB o),(77,.var [.arr (256:Nat) u4 c,.int .u32 t]),(88,.var [SV.pta (256:Nat) V j [.ptr 77 0],.int .u8 z]),(90,.var [.sl uB l,.int .u32 v,.int .u32 w])]
theorem qjx (n:Nat) (o l c:List Int) (V:List Value) (j:Nat) (z v w t:Int) (i:Nat) (Q:QT) (R:RT):sA CH1 Try.f19 Q (λ it S=>R it (qar [8,10,11,39,40] [37,77,88,90,1188416] S)) (hd Try.f19 0) ⟨[(8,.ifc 120 false [.ptr 88 0]),(10,.ptr 90 0),(11,.win true uB 37 0 o.length),(39,.int .i64 (n:Nat)),(40,.int .i64 (i:Nat))],[(37,.row 5 uB o),(77,tbV c t),(88,.var [.pta 256 V j [.ptr 77 0],.int .u8 z]),(90,rdL l v w)]⟩ =
  (bc (decide ((i:Int)<(n:Int))) ((256:Nat)=(256:Nat)/\(256:Nat)=(256:Nat)/\ctChT1.pre ((((V,j),c,t,()),z,()),())/\ctNxt.pre ((l,v,w,()),(c,t,()),())/\bc (!(nxtV l c v w t).1.2) (Q [.nils,.int .i64 130] [(37,.row 5 uB o),(77,.var [.arr (256:Nat) u4 c,.int .u32 t]),(88,.var [SV.pta (256:Nat) V j [.ptr 77 0],.int .u8 z]),(90,.var [.sl uB (nxtV l c v w t).2.1,.int .u32 (nxtV l c v w t).2.2.1,.int .u32 (nxtV l c v w t).2.2.2])]) ((256:Nat)=(256:Nat)/\(256:Nat)=(256:Nat)/\ctChP.pre ((((V,j),c,t,()),z,()),(nxtV l c v w t).1.1,())/\(0:Int)<=(i:Int)/\(i:Int)<(o.length:Int)/\(0:Nat)+(i:Int).toNat<o.length/\R (hd Try.f19 0) { env:=[(8,.ifc (120:Nat) false [.ptr 88 0]),(10,.ptr 90 0),(11,.win true uB 37 0 o.length),(39,.int .i64 (n:Int)),(40,.int .i64 (IntKind.i64.wrap ((i:Int)+1)))],blk:=[(37,.row 5 uB (o.set ((0:Nat)+(i:Int).toNat) (nxtV l c v w t).1.1)),(77,.var [.arr (256:Nat) u4 (groV c t (nxtV l c v w t).1.1).1,.int .u32 (groV c t (nxtV l c v w t).1.1).2]),(88,.var [SV.pta (256:Nat) V j [.ptr 77 0],.int .u8 (nxtV l c v w t).1.1]),(90,.var [.sl uB (nxtV l c v w t).2.1,.int .u32 (nxtV l c v w t).2.2.1,.int .u32 (nxtV l c v w t).2.2.2])] })) (ctRdn.pre ((l,v,w,()),())/\bc (!(decide (v=(0:(AK.dat u4).D))&&decide ((l.length:Int)=(0:Int)))) (Q [.nils,.int .i64 130] (qhq o l c V j z v w t)) (Q [.win true uB 37 0 o.length,.int .i64 0] (qhq o l c V j z v w t)))):=by kernel_rfl
theorem qxv {ct ct':Ctr} {x:DL ct.args} {x':DL ct'.args} {rs:List SV} {blk:List (Nat × LB)} (h1:ct.out x=ct'.out x') (h2:ct.rows x=ct'.rows x') (h:QC ct x rs blk):QC ct' x' rs blk:=by
 unfold QC at h |-;rw[<- h1,<- h2];exact h
theorem qyf {m:Int} (h0:0<=m) (h2:m<=2):isM m=true:=by unfold isM;rw[decide_eq_true h0,decide_eq_true h2];rfl
theorem qss {m:Int} (h:¬ (0<=m/\m<=2)):isM m=false:=by
 unfold isM;by_cases h0:0<=m
 ·rw[decide_eq_false (show ¬ m<=2 from λ q=>h ⟨h0,q⟩),Bool.and_false]
 ·rw[decide_eq_false h0,Bool.false_and]
theorem m3 {m:Int} (h:0<=m/\m<=2):m=0\/m=1\/m=2:=by omega
theorem qyo (b:List Int) (hb:byL b):GD 17 Try.f17 (QC ctEncA ((2:Int),b,())) [.code (qah Try.f17)] (entry [iI,.sl uB] ((2:Int),b,())):=by
 refine qag qyy (q0z 2 b _ _) ⟨rfl,qaj (λ h=>?_) (λ h=>⟨trivial,?_⟩)⟩
 ·refine qhy ?_
  show encG 2 b=_
  unfold encG;rw[show decide (65536<(b.length:Int))=true from h]
 ·have h:¬ (65536:Int)<(b.length:Int):=of_decide_eq_false h;have g:=qv8 hb (by omega) b.length 0 [] noT (λ _=>none) 0 4294967295 0 (Nat.sub_zero _) (Nat.zero_le _) (Nat.zero_le _) (λ _=>qgm) ⟨by decide,by decide⟩ (by decide) rfl;have g:Px.GoodE Try.prog G0 17 Try.f17.ntmps .fn Y0 _ _ (0,false) _:=GoodT.start (m:=256) g (0,false);exact Good.onlyR g [(66,1086017),(88,1053248),(90,1086016)] rfl ⟨rfl,rfl,rfl,rfl,rfl,trivial⟩ ⟨rfl,rfl,rfl,trivial⟩
theorem enc_held:Held Try.prog G0 17 ctEncA:=Held.of qyy (fn:=Try.f17) rfl rfl ⟨by decide,by decide⟩ λ ⟨m,b,_⟩ hp=>by
 have hp:byL b:=hp;by_cases hm:(0:Int)<=m/\(show Int from m)<=2
 ·rcases m3 hm with rfl | rfl | rfl
  ·refine (qyq 0 b rfl hp).post λ rs blk h=>qxv ?_ ?_ h
   ·show [SV.win false uB 0 0 (encV false b).2.1,.i (encV false b).2.2]=[SV.win false uB 0 0 (encG 0 b).2.1,.i (encG 0 b).2.2]
    rw[q0f]
   ·show [LB.row 5 uB (encV false b).1]=[LB.row 5 uB (encG 0 b).1]
    rw[q0f]
  ·refine (qyp 1 b rfl hp).post λ rs blk h=>qxv ?_ ?_ h
   ·show [SV.win false uB 0 0 (encV true b).2.1,.i (encV true b).2.2]=[SV.win false uB 0 0 (encG 1 b).2.1,.i (encG 1 b).2.2]
    rw[q0e]
   ·show [LB.row 5 uB (encV true b).1]=[LB.row 5 uB (encG 1 b).1]
    rw[q0e]
  ·exact qyo b hp
 ·refine qbf cxEn (q0y m b _ _) ⟨hm,qhy ?_⟩;unfold encA;rw[qss hm]
theorem qer {m:Int} {b:List Int} {n:Int} {blk:List (Nat × LB)} (h:decA m b n=([],130)):QC ctDecA (m,b,n,()) [SV.nils,.i 130] blk:=by
 refine quw (e:=uB) (et:=5) (z:=130) ?_ ?_ rfl (by decide)
 ·show [SV.win true uB 0 0 (decA m b n).1.length,.i (decA m b n).2]=_;rw[h];rfl
 ·show [LB.row 5 uB (decA m b n).1]=_;rw[h]
theorem qyu {m:Int} {b o:List Int} {n:Int} {a:Nat} {blk:List (Nat × LB)} (h:decA m b n=(o,0)) (hb:lk blk a=some (.row 5 uB o)):QC ctDecA (m,b,n,()) [SV.win true uB a 0 o.length,.i 0] blk:=by
 refine quv (e:=uB) (et:=5) (a:=a) (z:=0) (xs:=o) ?_ ?_ rfl rfl hb
 ·show [SV.win true uB 0 0 (decA m b n).1.length,.i (decA m b n).2]=_;rw[h]
 ·show [LB.row 5 uB (decA m b n).1]=_;rw[h]
theorem cxH0:CxOK Try.prog tt G0 CH0:=((((((cx0.consI qhe (fn:=Try.f43) rfl rfl rfl).consI qho (fn:=Try.f42) rfl rfl rfl).consI qf7 (fn:=Try.f111) rfl rfl rfl).consI qk0 (fn:=Try.f112) rfl rfl rfl).consI qkj (fn:=Try.f41) rfl rfl rfl).k qii (fn:=Try.f40)).consI qf8 (fn:=Try.f36) rfl rfl rfl
theorem cxH1:CxOK Try.prog tt G0 CH1:=((((((cx0.consI qhe (fn:=Try.f43) rfl rfl rfl).consI qho (fn:=Try.f42) rfl rfl rfl).consI qf7 (fn:=Try.f111) rfl rfl rfl).consI qhz (fn:=Try.f112) rfl rfl rfl).consI qkj (fn:=Try.f41) rfl rfl rfl).k qii (fn:=Try.f40)).consI qf8 (fn:=Try.f36) rfl rfl rfl
abbrev hEnv (o:List Int) (n i:Nat):List (Nat × SV):=[(8,.ifc 120 false [.ptr 88 0]),(10,.ptr 90 0),(11,.win true uB 37 0 o.length),(39,.i (n:Nat)),(40,.i (i:Nat))]
abbrev hSt (n:Nat) (o l:List Int) (V:List Value) (v w:Int) (z i:Nat):PS:=⟨hEnv o n i,[(37,.row 5 uB o),(88,.var [.pta 256 V 256 [.nilp],.int .u8 (z:Nat)]),(90,rdL l v w)]⟩
abbrev hOp (n:Nat) (o l c:List Int) (V:List Value) (j:Nat) (x v w t:Int) (i:Nat):PS:=⟨hEnv o n i,[(37,.row 5 uB o),(77,tbV c t),(88,.var [.pta 256 V j [.ptr 77 0],.int .u8 x]),(90,rdL l v w)]⟩
theorem q2z {Q:List SV->List (Nat × LB)->Prop} {V:List Value} {M:Mt} {N:Nat} {o l:List Int} {p:Tb} {v w:Int} {j n i:Nat} (hj:j<256)
  (nx:∀ V',GT 19 Try.f19 Q V' (upM M j p) 256 (hd Try.f19 0) (hSt N o l V' v w n i)):GT 19 Try.f19 Q V M j (hd Try.f19 0) (hOp N o l p.1 V j n v w p.2 i):=
 GoodT.close (q:=88) (id:=77) (m:=256) (r:=[.int .u8 (n:Int)]) (s:=tbL p) rfl hj rfl (q0b p) (by decide) λ V'=>by
  rw[qz3];exact nx V'
theorem qwg {b:List Int} {y:Int} {n:Nat} (hn:n<=65536):∀ (k i:Nat) (d l:List Int) (V:List Value) (M:Mt) (v w:Int) (z:Nat),n-i=k->i<=n->d.length=i->(∀ k,qa7 (DT M k).1 (DT M k).2)->WOK w->z<256->decA 2 b y=resD (dG 2 k d l v w (DT M) z) ->
  GT 19 Try.f19 (QC ctDecA ((2:Int),b,y,())) V M 256 (hd Try.f19 0) (hSt n (d++List.replicate k 0) l V v w z i):=by
 intro k
 induction k with
 | zero=>
  intro i d l V M v w z hk hi hd ht hw hz hv;rw[dG] at hv;have fin:∀ {blk:List (Nat × LB)},lk blk 37=some (.row 5 uB (d++List.replicate 0 (0:Int)))->bc (!(decide (v=0)&&decide ((l.length:Int)=0))) (QC ctDecA ((2:Int),b,y,()) [SV.nils,.int .i64 130] blk) (QC ctDecA ((2:Int),b,y,()) [SV.win true uB 37 0 (d++List.replicate 0 (0:Int)).length,.int .i64 0] blk):=by
   intro blk hl;refine qaj (λ h=>?_) (λ h=>?_)
   ·have h:(decide (v=0)&&decide ((l.length:Int)=0))=false:=by simpa only[Bool.not_eq_true'] using h
    rw[h] at hv;exact qer hv
   ·have h:(decide (v=0)&&decide ((l.length:Int)=0))=true:=by simpa only[Bool.not_eq_false'] using h
    rw[h] at hv;rw[List.replicate_zero,List.append_nil] at hl |-;exact qyu hv hl
  cases hM:M z with
  | none=>
   refine GoodT.open0 (q:=88) (r:=[.int .u8 (z:Int)]) rfl hz (by rw[hM];rfl) ?_;refine GoodT.goK cxH0 (qjy n _ l V z z v w i _ _) ?_;rw[decide_eq_false (show ¬ (i:Int)<(n:Int) by omega),bc_f];exact ⟨trivial,fin rfl⟩
  | some p=>
   refine GoodT.open1 (q:=88) (id:=77) (r:=[.int .u8 (z:Int)]) (s:=tbL p) rfl hz (by rw[hM];rfl) rfl (by decide) rfl ?_;refine GoodT.goK cxH1 (qjx n _ l p.1 V z z v w p.2 i _ _) ?_;rw[decide_eq_false (show ¬ (i:Int)<(n:Int) by omega),bc_f];exact ⟨trivial,fin rfl⟩
 | succ k ih=>
  intro i d l V M v w z hk hi hd ht hw hz hv;have tz:=ht z;rw[dG] at hv;have ea:DT M (atD 2 z)=DT M z:=rfl;rw[ea] at hv;have hD:∀ x,DT (upM M z (groV (DT M z).1 (DT M z).2 x))=nxD 2 (DT M) z x:=λ x=>q5t M z x
  generalize hP:DT M z=P at *;obtain ⟨p1,p2⟩:=qvc (v:=v) tz hw;obtain ⟨p2,p3⟩:=p2 l;have pz:qu3 z (z:Int):=⟨rfl,hz⟩;have hl:(d++List.replicate (k+1) (0:Int)).length=n:=by rw[List.length_append,List.length_replicate];omega
  cases h:(nxtV l P.1 v w P.2).1.2 with
  | false=>
   rw[h] at hv
   cases hM:M z with
   | none=>
    have hP1:P=(c1L,256):=by rw[<- hP];show (M z).getD _=_;rw[hM];rfl
    subst hP1;refine GoodT.open0 (q:=88) (r:=[.int .u8 (z:Int)]) rfl hz (by rw[hM];rfl) ?_;refine GoodT.goK cxH0 (qjy n _ l V z z v w i _ _) ?_;rw[decide_eq_true (show (i:Int)<(n:Int) by omega),bc_t,h];exact ⟨rfl,rfl,pz,p1,qer hv⟩
   | some p=>
    have hP1:P=p:=by rw[<- hP];show (M z).getD _=_;rw[hM];rfl
    subst hP1;refine GoodT.open1 (q:=88) (id:=77) (r:=[.int .u8 (z:Int)]) (s:=tbL P) rfl hz (by rw[hM];rfl) rfl (by decide) rfl ?_;refine GoodT.goK cxH1 (qjx n _ l P.1 V z z v w P.2 i _ _) ?_;rw[decide_eq_true (show (i:Int)<(n:Int) by omega),bc_t,h];exact ⟨rfl,rfl,pz,p1,qer hv⟩
  | true=>
   obtain ⟨x,hx,ex⟩:=p2 h;rw[h] at hv;have hxr:0<=(x:Int)/\(x:Int)<256:=by omega
   have pg:qsh P.1 (x:Int):=⟨tz.1,hxr⟩;have tg:qa7 (groV P.1 P.2 x).1 (groV P.1 P.2 x).2:=qj3 tz hx;have hU:∀ k,qa7 (DT (upM M z (groV P.1 P.2 x)) k).1 (DT (upM M z (groV P.1 P.2 x)) k).2:=λ k=>by
    show qa7 ((if k=z then some (groV P.1 P.2 x) else M k).getD (c1L,256)).1 ((if k=z then some (groV P.1 P.2 x) else M k).getD (c1L,256)).2
    by_cases h:k=z
    ·rw[if_pos h];exact tg
    ·rw[if_neg h];exact ht k
   rw[ex,<- hD,Int.toNat_natCast] at hv;have e:(d++List.replicate (k+1) (0:Int)).set (0+(i:Int).toNat) (x:Int)=(d++[(x:Int)])++List.replicate k 0:=by
    rw[Nat.zero_add,Int.toNat_natCast,<- hd];exact qpd
   have nx:=λ V'=>ih (i+1) (d++[(x:Int)]) (nxtV l P.1 v w P.2).2.1 V' (upM M z (groV P.1 P.2 x)) (nxtV l P.1 v w P.2).2.2.1 (nxtV l P.1 v w P.2).2.2.2 x (by omega) (by omega) (by rw[List.length_append,hd];rfl) hU p3 hx hv
   have nx:=q2z (V:=V) hz nx;have e2:(d++List.replicate (k+1) (0:Int)).length=((d++[(x:Int)])++List.replicate k (0:Int)).length:=by
    rw[List.append_assoc,List.length_append,List.length_append,List.length_replicate,List.length_append,List.length_replicate]
    show _=_+(1+k);omega
   cases hM:M z with
   | none=>
    have hP1:P=(c1L,256):=by rw[<- hP];show (M z).getD _=_;rw[hM];rfl
    subst hP1;refine GoodT.open0 (q:=88) (r:=[.int .u8 (z:Int)]) rfl hz (by rw[hM];rfl) ?_;refine GoodT.goK cxH0 (qjy n _ l V z z v w i _ _) ?_;rw[decide_eq_true (show (i:Int)<(n:Int) by omega),bc_t,IntWalk.i64_in ((i:Int)+1) (by omega),h,ex,e,e2];refine ⟨rfl,rfl,pz,p1,rfl,rfl,⟨pz,pg⟩,by omega,by rw[<- e2,hl];omega,by rw[<- e2,hl];omega,?_⟩;exact nx.onlyR [(77,1188416)] rfl ⟨rfl,rfl,rfl,rfl,rfl,trivial⟩ ⟨rfl,rfl,rfl,rfl,trivial⟩
   | some p=>
    have hP1:P=p:=by rw[<- hP];show (M z).getD _=_;rw[hM];rfl
    subst hP1;refine GoodT.open1 (q:=88) (id:=77) (r:=[.int .u8 (z:Int)]) (s:=tbL P) rfl hz (by rw[hM];rfl) rfl (by decide) rfl ?_;refine GoodT.goK cxH1 (qjx n _ l P.1 V z z v w P.2 i _ _) ?_;rw[decide_eq_true (show (i:Int)<(n:Int) by omega),bc_t,IntWalk.i64_in ((i:Int)+1) (by omega),h,ex,e,e2];refine ⟨rfl,rfl,pz,p1,rfl,rfl,⟨pz,pg⟩,by omega,by rw[<- e2,hl];omega,by rw[<- e2,hl];omega,?_⟩;exact nx.only ⟨rfl,rfl,rfl,rfl,rfl,trivial⟩ ⟨rfl,rfl,rfl,rfl,trivial⟩
theorem qyv (b:List Int) (n:Int) (hb:b.length<1099511627776):GD 19 Try.f19 (QC ctDecA ((2:Int),b,n,())) [.code (qah Try.f19)] (entry [iI,.sl uB,iI] ((2:Int),b,n,())):=by
 refine qag cxH0 (q03 2 b n _ _) ⟨rfl,qaj (λ h=>⟨rfl,rfl,?_⟩) (λ h=>qaj (λ h2=>⟨rfl,?_⟩) (λ h2=>⟨hb,qaj (λ h3=>?_) (λ h3=>?_)⟩))⟩
 ·have h:decide (n<0)=true:=h;exact qer (by show decG 2 b n=_;unfold decG;rw[h])
 all_goals have h:decide (n<0)=false:=h
 ·have h2:decide (65536<n)=true:=h2;exact qer (by show decG 2 b n=_;unfold decG;rw[h,h2])
 all_goals have h2:decide (65536<n)=false:=h2
 ·have h3:ezV b=true:=h3;exact qer (by show decG 2 b n=_;unfold decG;rw[h,h2,h3])
 ·have h3:ezV b=false:=h3;have q1:¬ n<0:=of_decide_eq_false h;have q2:¬ 65536<n:=of_decide_eq_false h2;refine ⟨trivial,by omega,Int.le_refl _,by omega,by omega,?_⟩;have hv:decA 2 b n=resD (dG 2 n.toNat [] (rdF 4 (b,0)).1 (rdF 4 (b,0)).2 4294967295 D0 0):=by
   show decG 2 b n=_
   unfold decG resD;rw[h,h2,h3]
   all_goals (cases dG 2 n.toNat [] (rdF 4 (b,0)).1 (rdF 4 (b,0)).2 4294967295 D0 0 <;> rfl)
  have g:=qwg (n:=n.toNat) (by omega) n.toNat 0 [] _ noT (λ _=>none) _ _ 0 (Nat.sub_zero _) (Nat.zero_le _) rfl (λ _=>qgm) ⟨by decide,by decide⟩ (by decide) hv;rw[List.nil_append] at g;have g:Px.GoodE Try.prog G0 19 Try.f19.ntmps .fn Y0 _ _ (0,false) _:=GoodT.start (m:=256) g (0,false);exact Good.onlyR g [(88,1069632),(90,1143360)] rfl ⟨rfl,rfl,by rw[List.length_replicate];rfl,rfl,rfl,trivial⟩ ⟨rfl,rfl,rfl,trivial⟩
theorem dec_held:Held Try.prog G0 19 ctDecA:=Held.of cxH0 (fn:=Try.f19) rfl rfl ⟨by decide,by decide⟩ λ ⟨m,b,n,_⟩ hp=>by
 have hp:b.length<1099511627776:=hp;by_cases hm:(0:Int)<=m/\(show Int from m)<=2
 ·rcases m3 hm with rfl | rfl | rfl
  ·refine (qyx 0 b n rfl hp).post λ rs blk h=>qxv ?_ ?_ h
   ·show [SV.win true uB 0 0 (decV false b n).1.length,.i (decV false b n).2]=[SV.win true uB 0 0 (decG 0 b n).1.length,.i (decG 0 b n).2]
    rw[q0h]
   ·show [LB.row 5 uB (decV false b n).1]=[LB.row 5 uB (decG 0 b n).1]
    rw[q0h]
  ·refine (qyw 1 b n rfl hp).post λ rs blk h=>qxv ?_ ?_ h
   ·show [SV.win true uB 0 0 (decV true b n).1.length,.i (decV true b n).2]=[SV.win true uB 0 0 (decG 1 b n).1.length,.i (decG 1 b n).2]
    rw[q0g]
   ·show [LB.row 5 uB (decV true b n).1]=[LB.row 5 uB (decG 1 b n).1]
    rw[q0g]
  ·exact qyv b n hp
 ·refine qbf cxDn (q02 m b n _ _) ⟨hm,rfl,rfl,rfl,qer ?_⟩;unfold decA;rw[qss hm]
theorem qwt {c:List Int} {t:Int} (h:qa7 c t):∀ n,n<=256->befF c n=sm (c.take n)
 | 0,_=>rfl
 | n+1,hn=>by
  have hl:n<c.length:=by rw[h.1];omega
  have h1:=qb5 h (n+1);have h2:=(qe0 h).2;rw[befF,qwt h n (by omega)];rw[qb9 hl] at h1 |-;exact IntWalk.u32_in _ (by omega)
theorem q3c {c:List Int} {t n:Int} (h:qa7 c t) {i j:Nat} (hi:sm (c.take i)<=n/\n<sm (c.take (i+1))) (hj:sm (c.take j)<=n/\n<sm (c.take (j+1))):i=j:=by
 have mono:∀ {a b:Nat},a<=b->sm (c.take a)<=sm (c.take b):=fun {a b} hab=>by
  have e:c.take b=c.take a++(c.take b).drop a:=by
   have q:=(List.take_append_drop a (c.take b)).symm;rw[List.take_take,Nat.min_eq_left hab] at q;exact q
  rw[e,qqw];have:=qpb (l:=(c.take b).drop a) λ x hx=>h.2.1 x (List.mem_of_mem_take (List.mem_of_mem_drop hx))
  omega
 rcases Nat.lt_trichotomy i j with q | q | q
 ·have:=mono (show i+1<=j from q);omega
 ·exact q
 ·have:=mono (show j+1<=i from q);omega
theorem qwv {c:List Int} {t n:Int} (h:qa7 c t) (h0:0<=n) {b:Nat} (h1:sm (c.take b)<=n) (h2:n<sm (c.take (b+1))):atF c n 256 0 0=((b:Int),sm (c.take b)):=by
 have hn:n<t:=by have:=(qb5 h (b+1)).2;omega
 obtain ⟨_,k,k1,k2,k3,k4⟩:=qwu h h0 hn;have:k=b:=q3c h ⟨k3,k4⟩ ⟨h1,h2⟩;rw[k2,this]
theorem q40 {a b k:Nat} (ha:a<2 ^ 32) (hb:b<2 ^ k) (hk:k<=32) (hd:a % 2 ^ k=0):(BitVec.ofNat 32 a ||| BitVec.ofNat 32 b).toNat=a+b:=by
 have hk2:2 ^ k<=2 ^ 32:=Nat.pow_le_pow_right (by decide) hk;rw[BitVec.toNat_or,BitVec.toNat_ofNat,BitVec.toNat_ofNat,Nat.mod_eq_of_lt ha,Nat.mod_eq_of_lt (by omega)];have e:a=2 ^ k*(a / 2 ^ k):=by have:=Nat.div_add_mod a (2 ^ k);omega
 rw[e,<- Nat.two_pow_add_eq_or_of_lt hb]
theorem q1s {a b:Int} (ha:0<=a) (h4:a<4294967296) (hd:a % 256=0) (hb:0<=b/\b<256):bitI .or .u32 a b=a+b:=by
 obtain ⟨m,rfl⟩:=Int.eq_ofNat_of_zero_le ha;obtain ⟨n,rfl⟩:=Int.eq_ofNat_of_zero_le hb.1;have h:=q40 (a:=m) (b:=n) (k:=8) (by omega) (by omega) (by decide) (by omega)
 show u32.wrap (((BitVec.ofInt 32 (m:Int)) ||| (BitVec.ofInt 32 (n:Int))).toNat:Int)=_
 rw[BitVec.ofInt_natCast,BitVec.ofInt_natCast,h,IntWalk.u32_in _ (by omega)];omega
def pv (b:List Int):Nat->Int
 | 0=>0
 | k+1=>256*pv b k+gtB b k
theorem qhw {b:List Int} (h:byL b) (k:Nat):0<=gtB b k/\gtB b k<256:=by
 show 0<=(b[k]?).getD (0:Int)/\(b[k]?).getD (0:Int)<256
 cases hk:b[k]? with
 | none=>exact ⟨by decide,by decide⟩
 | some x=>exact h x (List.mem_of_getElem? hk)
theorem q1o {b:List Int} (h:byL b):∀ k,0<=pv b k/\pv b k<256 ^ k
 | 0=>⟨Int.le_refl 0,(by decide:(0:Int)<256 ^ 0)⟩
 | k+1=>by
  have ih:=q1o h k;have g:=qhw h k;rw[pv,Int.pow_succ];omega
theorem qhf {a b:List Int}:∀ k,(∀ j,j<k->gtB a j=gtB b j)->pv a k=pv b k
 | 0,_=>rfl
 | k+1,h=>by rw[pv,pv,qhf k λ j hj=>h j (by omega),h k (by omega)]
theorem qz6 {l m:List Int} {j:Nat} (h:j<l.length):gtB (l++m) j=gtB l j:=by
 show ((l++m)[j]?).getD (0:Int)=(l[j]?).getD (0:Int)
 rw[List.getElem?_append_left h]
theorem qvr {l:List Int} {x:Int}:gtB (l++[x]) l.length=x:=by
 show ((l++[x])[l.length]?).getD (0:Int)=x
 rw[List.getElem?_append_right (Nat.le_refl _),Nat.sub_self];rfl
theorem q4x {l m:List Int} {k:Nat} (h:k<=l.length):pv (l++m) k=pv l k:=qhf k λ j hj=>qz6 (by omega)
theorem q1n (l:List Int) (x:Int):pv (l++[x]) (l.length+1)=256*pv l l.length+x:=by
 rw[pv,qvr,q4x (Nat.le_refl _)]
theorem q3a {l:List Int} {x:Int} (h:byL l) (hx:0<=x/\x<256):byL (l++[x]):=λ y hy=>by
 rcases List.mem_append.1 hy with q | q
 ·exact h y q
 ·rw[List.mem_singleton.1 q];exact hx
theorem qlv {l:List Int} {k j:Nat} {x:Int}:gtB (l.set k x) j=if j=k/\k<l.length then x else gtB l j:=by
 show ((l.set k x)[j]?).getD (0:Int)=if j=k/\k<l.length then x else (l[j]?).getD (0:Int)
 rw[List.getElem?_set];by_cases h:k=j
 ·subst h;by_cases hl:k<l.length
  ·rw[if_pos rfl,if_pos hl,if_pos ⟨rfl,hl⟩];rfl
  ·rw[if_pos rfl,if_neg hl,if_neg (λ q=>hl q.2),List.getElem?_eq_none (by omega)]
 ·rw[if_neg h,if_neg (λ q=>h q.1.symm)]
theorem qwm {l:List Int} {k:Nat} {x:Int} (h:byL l) (hx:0<=x/\x<256):byL (l.set k x):=λ y hy=>by
 rcases List.mem_or_eq_of_mem_set hy with q | q
 ·exact h y q
 ·rw[q];exact hx
theorem q0l:∀ (k:Nat) (l:List Int),byL l->k<=l.length->pv l k+1<256 ^ k->byL (carF l k)/\pv (carF l k) k=pv l k+1/\∀ j,k<=j->gtB (carF l k) j=gtB l j
 | 0,l,h,_,hp=>by
  have:pv l 0=0:=rfl;rw[this] at hp;exact absurd hp (by decide)
 | k+1,l,h,hk,hp=>by
  have g:=qhw h k;rw[pv,Int.pow_succ] at hp;by_cases hc:gtB l k=255
  ·have e:u8.wrap (gtB l k+1)=0:=by rw[hc];decide
   have hb:byL (l.set k 0):=qwm h ⟨by decide,by decide⟩;have e2:pv (l.set k 0) k=pv l k:=qhf k λ j hj=>by rw[qlv,if_neg (by omega)]
   obtain ⟨i1,i2,i3⟩:=q0l k (l.set k 0) hb (by rw[List.length_set];omega) (by rw[e2];omega);rw[carF,e,decide_eq_false (by simp)];refine ⟨i1,?_,λ j hj=>?_⟩
   ·rw[pv,i2,e2,i3 k (Nat.le_refl _),qlv,if_pos ⟨rfl,by omega⟩,pv,hc];omega
   ·rw[i3 j (by omega),qlv,if_neg (by omega)]
  ·have e:u8.wrap (gtB l k+1)=gtB l k+1:=IntWalk.u8_in _ (by omega);rw[carF,e,decide_eq_true (by omega)];refine ⟨qwm h (by omega),?_,λ j hj=>?_⟩
   ·rw[pv,pv,qlv,if_pos ⟨rfl,by omega⟩,qhf (b:=l) k λ j hj=>by rw[qlv,if_neg (by omega)]];omega
   ·rw[qlv,if_neg (by omega)]
def nW (l:List Int) (lo:Int):Int:=pv l l.length*4294967296+lo
theorem qzj {l:List Int} {lo:Int} (h:byL l) (h0:0<=lo/\lo<4294967296):byL (wshL l lo)/\(wshL l lo).length=l.length+1/\(0<=u32.wrap (lo*2 ^ 8)/\u32.wrap (lo*2 ^ 8)<4294967296)/\nW (wshL l lo) (u32.wrap (lo*2 ^ 8))=256*nW l lo:=by
 have e1:u8.wrap (lo.fdiv (2 ^ 24))=lo / 16777216:=by
  rw[Int.fdiv_eq_ediv_of_nonneg _ (by decide)]
  show u8.wrap (lo / 16777216)=_
  exact IntWalk.u8_in _ (by omega)
 have e2:u32.wrap (lo*2 ^ 8)=lo % 16777216*256:=by
  rw[IntKind.wrap_u32]
  show lo*256 % _=_
  omega
 have eL:wshL l lo=l++[lo / 16777216]:=by show l++[_]=_;rw[e1]
 have hl:(wshL l lo).length=l.length+1:=by rw[eL,List.length_append];rfl
 refine ⟨by rw[eL];exact q3a h (by omega),hl,by rw[e2];omega,?_⟩;unfold nW;rw[hl,eL,q1n,e2];omega
structure WI (l:List Int) (lo w:Int):Prop where
 by':byL l
 lo0:0<=lo/\lo<4294967296
 wk:WOK w
 fit:nW l lo+w<=256 ^ l.length*4294967296
def uu (w t:Int):Int:=w / t
theorem qmq {l c:List Int} {lo w t:Int} (hW:WI l lo w) (ht:qa7 c t) {x:Nat} (hx:x<256) :
  byL (qa6 l c lo w t x)/\(qa6 l c lo w t x).length=l.length/\(0<=lowV c lo w t x/\lowV c lo w t x<4294967296)/\nW (qa6 l c lo w t x) (lowV c lo w t x)=nW l lo+uu w t*sm (c.take x)/\wid2 c w t x=uu w t*gtU c x/\256<=uu w t/\uu w t*t<=w/\uu w t*sm (c.take x)+uu w t*gtU c x<=w:=by
 obtain ⟨hb,hl,hw,hf⟩:=hW;have hT:=qe0 ht;obtain ⟨u1,u2,u3⟩:=qg2 hw hT.1 hT.2;have hg:=qew ht hx;have hxl:x<c.length:=by rw[ht.1];exact hx
 have hs:=qb9 hxl;have h1:=qb5 ht x;have h2:=qb5 ht (x+1);have hu:uniV w t=uu w t:=u1;have u2:256<=uu w t:=u2;have u3:uu w t*t<=w:=u3;have m1:0<=uu w t*sm (c.take x):=Int.mul_nonneg (by omega) h1.1;have m2:uu w t*sm (c.take x)+uu w t*gtU c x<=uu w t*t:=by
  rw[<- Int.mul_add,<- hs];exact Int.mul_le_mul_of_nonneg_left h2.2 (by omega)
 have m3:0<=uu w t*gtU c x:=Int.mul_nonneg (by omega) (by omega);have hw2:=hw.2;have eM:qoc c w t x=uu w t*sm (c.take x):=by
  unfold qoc;rw[Int.toNat_natCast,qwt ht x (by omega),hu];exact IntWalk.u32_in _ (by omega)
 have eW:wid2 c w t x=uu w t*gtU c x:=by
  unfold wid2;rw[Int.toNat_natCast,hu];exact IntWalk.u32_in _ (by omega)
 have eL:lowV c lo w t x=(lo+uu w t*sm (c.take x)) % 4294967296:=by
  unfold lowV;rw[eM,IntKind.wrap_u32]
 have m4:1<=uu w t*gtU c x:=by
  have:=Int.mul_le_mul u2 hg.1 (by decide) (by omega);omega
 generalize uu w t*sm (c.take x)=A at *;generalize uu w t*gtU c x=B at *;refine ⟨?_,qe9 ..,by rw[eL];omega,?_,eW,u2,u3,by omega⟩
 all_goals
  unfold qa6;rw[eM];by_cases hq:4294967296<=lo+A
  ·have e1:lowV c lo w t x=lo+A-4294967296:=by rw[eL];omega
   have hc:=q0l l.length l hb (Nat.le_refl _) (by
    unfold nW at hf;generalize (256:Int) ^ l.length=P at *
    omega)
   rw[e1,decide_eq_true (by omega)]
   first | exact hc.1 | (unfold nW;rw[qh0,hc.2.1];omega)
  ·have e1:lowV c lo w t x=lo+A:=by rw[eL];omega
   rw[e1,decide_eq_false (by omega)]
   first | exact hb | (show nW l (lo+A)=nW l lo+A;unfold nW;omega)
def RI (b l:List Int) (lo:Int) (r:List Int) (v:Int):Prop:=r=b.drop (l.length+4)/\v=pv b (l.length+4)-nW l lo
theorem quc {b:List Int} (hb:byL b) {k:Nat} {v:Int} (hv:0<=v/\v<16777216):rshV (b.drop k) v=(b.drop (k+1),256*v+gtB b k):=by
 have g:=qhw hb k;have e:IntKind.u32.wrap (v*2 ^ 8)=256*v:=by rw[IntWalk.u32_in _ (by show 0<=v*256/\v*256<=_;omega)];show v*256=_;omega
 unfold rshV;by_cases hk:k<b.length
 ·have hl:(0:Int)<((b.drop k).length:Int):=by rw[List.length_drop];omega
  have eg:gtB (b.drop k) 0=gtB b k:=by
   show ((b.drop k)[0]?).getD (0:Int)=(b[k]?).getD (0:Int)
   rw[List.getElem?_drop,Nat.add_zero]
  rw[decide_eq_true hl,e,eg,List.drop_drop];have e2:IntKind.u32.wrap (gtB b k)=gtB b k:=IntWalk.u32_in _ (by omega);rw[e2,q1s (by omega) (by omega) (by omega) g]
 ·have hl:¬ (0:Int)<((b.drop k).length:Int):=by rw[List.length_drop];omega
  have eg:gtB b k=0:=by
   show (b[k]?).getD (0:Int)=0
   rw[List.getElem?_eq_none (by omega)];rfl
  have d1:b.drop k=[]:=List.drop_eq_nil_of_le (by omega);have d2:b.drop (k+1)=[]:=List.drop_eq_nil_of_le (by omega);rw[decide_eq_false hl,e,eg,d1,d2]
  show (([]:List Int),256*v)=([],256*v+0)
  rw[Int.add_zero]
theorem qpp (a:Int) (s:Nat):a*256 ^ (s+1)=a*256*256 ^ s:=by rw[Int.pow_succ,Int.mul_assoc,Int.mul_comm ((256:Int) ^ s)]
theorem q13 {b:List Int} (hb:byL b):∀ (f:Nat) (l:List Int) (lo w:Int) (r:List Int) (v:Int),byL l->(0<=lo/\lo<4294967296)->16777216<=w*256 ^ f->w<=4294967295->nW l lo+w<=256 ^ l.length*4294967296 ->
  WI (putF f l lo w).1 (putF f l lo w).2.1 (putF f l lo w).2.2/\(∃ s,s<=f/\(putF f l lo w).1.length=l.length+s/\nW (putF f l lo w).1 (putF f l lo w).2.1=nW l lo*256 ^ s/\(putF f l lo w).2.2=w*256 ^ s)/\ (RI b l lo r v->0<=v->v<w->RI b (putF f l lo w).1 (putF f l lo w).2.1 (nrmV f r v w).1 (nrmV f r v w).2.1/\(nrmV f r v w).2.2=(putF f l lo w).2.2/\0<=(nrmV f r v w).2.1/\(nrmV f r v w).2.1<(nrmV f r v w).2.2):=by
 intro f
 induction f with
 | zero=>
  intro l lo w r v hl h0 hw hw2 hf;have hw:16777216<=w:=by simpa using hw
  refine ⟨⟨hl,h0,⟨hw,hw2⟩,hf⟩,⟨0,Nat.le_refl _,rfl,?_,?_⟩,λ h1 h2 h3=>⟨h1,rfl,h2,h3⟩⟩
  ·show nW l lo=nW l lo*256 ^ 0;simp
  ·show w=w*256 ^ 0;simp
 | succ f ih=>
  intro l lo w r v hl h0 hw hw2 hf;rw[putF,nrmV];by_cases hq:w<16777216
  ·rw[decide_eq_true hq];have hw0:0<=w:=by
    rcases Int.lt_or_le w 0 with q | q
    ·have:w*256 ^ (f+1)<=0:=Int.mul_nonpos_of_nonpos_of_nonneg (Int.le_of_lt q) (Int.pow_nonneg (by decide));omega
    ·exact q
   have e:IntKind.u32.wrap (w*2 ^ 8)=w*256:=IntWalk.u32_in _ (by show 0<=w*256/\w*256<=_;omega);obtain ⟨k1,k2,k3,k4⟩:=qzj hl h0;have hf':nW (wshL l lo) (IntKind.u32.wrap (lo*2 ^ 8))+w*256<=256 ^ (wshL l lo).length*4294967296:=by
    rw[k4,k2,Int.pow_succ];generalize (256:Int) ^ l.length=P at *;omega
   rw[e];obtain ⟨i1,⟨s,i2,i3,i4,i5⟩,i6⟩:=ih (wshL l lo) (IntKind.u32.wrap (lo*2 ^ 8)) (w*256) (rshV r v).1 (rshV r v).2 k1 k3 (by rw[<- qpp];exact hw) (by omega) hf';refine ⟨i1,⟨s+1,by omega,?_,?_,?_⟩,λ h1 h2 h3=>?_⟩
   ·show (putF f (wshL l lo) _ (w*256)).1.length=_
    rw[i3,k2];omega
   ·show nW (putF f (wshL l lo) _ (w*256)).1 _=_
    rw[i4,k4,qpp,Int.mul_comm 256]
   ·show (putF f (wshL l lo) _ (w*256)).2.2=_
    rw[i5,qpp]
   ·obtain ⟨r1,r2⟩:=h1;have er:=quc hb (k:=l.length+4) (v:=v) ⟨h2,by omega⟩;rw[<- r1] at er;have g:=qhw hb (l.length+4);refine i6 ⟨?_,?_⟩ ?_ ?_
    ·rw[er,k2]
    ·rw[er,k4,k2]
     show 256*v+gtB b (l.length+4)=pv b (l.length+1+4)-_
     rw[show l.length+1+4=(l.length+4)+1 by omega,pv,r2];omega
    ·rw[er];show 0<=256*v+_;omega
    ·rw[er];show 256*v+_<w*256;omega
  ·rw[decide_eq_false hq];refine ⟨(⟨hl,h0,⟨by omega,hw2⟩,hf⟩:WI l lo w),⟨0,Nat.zero_le _,rfl,?_,?_⟩,λ h1 h2 h3=>⟨h1,rfl,h2,h3⟩⟩
   ·show nW l lo=nW l lo*256 ^ 0;simp
   ·show w=w*256 ^ 0;simp
theorem pow4:(256:Int) ^ 4=4294967296:=by decide
theorem qgn {b l c:List Int} {lo w t:Int} (hb:byL b) (hW:WI l lo w) (ht:qa7 c t) {x:Nat} (hx:x<256) :
  WI (putV l c lo w t x).1 (putV l c lo w t x).2.1 (putV l c lo w t x).2.2/\∃ s,s<=4/\(putV l c lo w t x).1.length=l.length+s/\  nW (putV l c lo w t x).1 (putV l c lo w t x).2.1=(nW l lo+uu w t*sm (c.take x))*256 ^ s/\(putV l c lo w t x).2.2=uu w t*gtU c x*256 ^ s/\  (∀ r v,RI b l lo r v->0<=v->uu w t*sm (c.take x)<=v->v<uu w t*sm (c.take x)+uu w t*gtU c x->(nxtV r c v w t).1=((x:Int),true)/\RI b (putV l c lo w t x).1 (putV l c lo w t x).2.1 (nxtV r c v w t).2.1 (nxtV r c v w t).2.2.1/\(nxtV r c v w t).2.2.2=(putV l c lo w t x).2.2/\0<=(nxtV r c v w t).2.2.1/\(nxtV r c v w t).2.2.1<(nxtV r c v w t).2.2.2):=by
 obtain ⟨p1,p2,p3,p4,p5,p6,p7,p8⟩:=qmq hW ht hx;have hg:=qew ht hx;have hxl:x<c.length:=by rw[ht.1];exact hx
 have hs:=qb9 hxl;have hT:=qe0 ht;have m1:0<=uu w t*sm (c.take x):=Int.mul_nonneg (by omega) (qb5 ht x).1;have m4:256<=uu w t*gtU c x:=by
  have:=Int.mul_le_mul p6 hg.1 (by decide) (by omega);omega
 have hw2:=hW.wk.2;have hf:=hW.fit;have key:=λ r v=>q13 hb 4 (qa6 l c lo w t x) (lowV c lo w t x) (wid2 c w t x) r v p1 p3 (by rw[p5,pow4];omega) (by rw[p5];omega) (by rw[p4,p5,p2];omega)
 obtain ⟨k1,⟨s,k2,k3,k4,k5⟩,_⟩:=key [] 0;refine ⟨k1,s,k2,by rw[<- p2];exact k3,by rw[<- p4];exact k4,by rw[<- p5];exact k5,λ r v hr hv0 hv1 hv2=>?_⟩;have k6:=(key r (v-uu w t*sm (c.take x))).2.2 ⟨by rw[p2];exact hr.1,by rw[p2,p4,hr.2];omega⟩ (by omega) (by rw[p5];omega);have eu:uniV w t=uu w t:=(qg2 hW.wk hT.1 hT.2).1;have hup:0<uu w t:=by omega
 have en:numV v w t=v / uu w t:=by
  unfold numV;rw[eu,IntWalk.u32_quo _ _ (by omega)]
 have q1:sm (c.take x)<=v / uu w t:=by
  rw[Int.le_ediv_iff_mul_le hup,Int.mul_comm];exact hv1
 have q2:v / uu w t<sm (c.take (x+1)):=by
  rw[Int.ediv_lt_iff_lt_mul hup,hs,Int.mul_comm,Int.mul_add];exact hv2
 have q3:=(qb5 ht (x+1)).2;have ea:atV c v w t=((x:Int),sm (c.take x)):=by
  unfold atV;rw[en];exact qwv ht (by have:=(qb5 ht x).1;omega) q1 q2
 have e1:subV c v w t=v-uu w t*sm (c.take x):=by
  unfold subV;rw[ea,eu]
  show IntKind.u32.wrap (v-IntKind.u32.wrap (uu w t*sm (c.take x)))=_
  rw[IntWalk.u32_in (uu w t*sm (c.take x)) (by omega),IntWalk.u32_in _ (by omega)]
 have e2:widV c v w t=wid2 c w t x:=by
  unfold widV;rw[ea];rfl
 have e3:nxtV r c v w t=(((x:Int),true),nrmV 4 r (v-uu w t*sm (c.take x)) (wid2 c w t x)):=by
  unfold nxtV;rw[en,decide_eq_false (by omega),ea,e1,e2]
 rw[e3];exact ⟨rfl,k6⟩
theorem q18 {c r:List Int} {v w t:Int} (hw:WOK w) (ht:qa7 c t) (hv:0<=v) (hv2:v<4294967296) (h:(nxtV r c v w t).1.2=true):∃ x:Nat,x<256/\uu w t*sm (c.take x)<=v/\v<uu w t*sm (c.take x)+uu w t*gtU c x:=by
 have hT:=qe0 ht;obtain ⟨u1,u2,u3⟩:=qg2 hw hT.1 hT.2;have eu:uniV w t=uu w t:=u1;have u2:256<=uu w t:=u2;have hup:0<uu w t:=by omega
 have en:numV v w t=v / uu w t:=by
  unfold numV;rw[eu,IntWalk.u32_quo _ _ (by have:=hw.2;omega)]
 unfold nxtV at h;rw[en] at h;by_cases hq:t<=v / uu w t
 ·rw[decide_eq_true hq] at h;cases h
 ·obtain ⟨_,k,k1,k2,k3,k4⟩:=qwu ht (n:=v / uu w t) (Int.ediv_nonneg hv (by omega)) (by omega);refine ⟨k,k1,?_,?_⟩
  ·rw[Int.le_ediv_iff_mul_le hup,Int.mul_comm] at k3;exact k3
  ·rw[Int.ediv_lt_iff_lt_mul hup,qb9 (by rw[ht.1];exact k1),Int.mul_comm,Int.mul_add] at k4;exact k4
def DOK (D:Nat->Tb):Prop:=∀ k,qa7 (D k).1 (D k).2
theorem qs0:DOK D0:=λ _=>qgm
theorem qkx {g:Nat} {D:Nat->Tb} (h:DOK D) (z:Nat) {x:Nat} (hx:x<256):DOK (nxD g D z x):=λ k=>by
 by_cases hg:g=0
 ·subst hg;exact h k
 ·rw[q1z hg];by_cases hk:k=atD g z
  ·rw[if_pos hk];exact qj3 (h k) hx
  ·rw[if_neg hk];exact h k
theorem q5f (g:Nat):∀ (xs:List Int),byL xs->∀ (D:Nat->Tb) (z:Nat) (l:List Int) (lo w:Int),DOK D->WI l lo w ->
  WI (eG g xs D z l lo w).1 (eG g xs D z l lo w).2.1 (eG g xs D z l lo w).2.2/\∃ s,(eG g xs D z l lo w).1.length=l.length+s/\nW l lo*256 ^ s<=nW (eG g xs D z l lo w).1 (eG g xs D z l lo w).2.1/\nW (eG g xs D z l lo w).1 (eG g xs D z l lo w).2.1+(eG g xs D z l lo w).2.2<=(nW l lo+w)*256 ^ s:=by
 intro xs
 induction xs with
 | nil=>
  intro _ D z l lo w _ hW;refine ⟨hW,0,rfl,?_,?_⟩
  ·show nW l lo*256 ^ 0<=nW l lo;simp
  ·show nW l lo+w<=(nW l lo+w)*256 ^ 0;simp
 | cons y xs ih=>
  intro hy D z l lo w hD hW;obtain ⟨x,rfl⟩:=Int.eq_ofNat_of_zero_le (hy y (List.mem_cons_self ..)).1;have hx:=(hy x (List.mem_cons_self ..)).2;have ht:=hD (atD g z);obtain ⟨s1,s,s2,s3,s4,s5,_⟩:=qgn (b:=[]) (λ _ h=>by cases h) hW ht (x:=x) (by omega);obtain ⟨p1,p2,p3,p4,p5,p6,p7,p8⟩:=qmq hW ht (x:=x) (by omega);rw[eG];obtain ⟨i1,s',i2,i3,i4⟩:=ih (λ a ha=>hy a (List.mem_cons_of_mem _ ha)) (nxD g D z x) (x:Int).toNat _ _ _ (qkx hD z (by omega)) s1;have m1:0<=uu w (D (atD g z)).2*sm ((D (atD g z)).1.take x):=Int.mul_nonneg (by omega) (qb5 ht x).1;have hp:(0:Int)<=256 ^ s*256 ^ s':=Int.mul_nonneg (Int.pow_nonneg (by decide)) (Int.pow_nonneg (by decide));refine ⟨i1,s+s',by rw[i2,s3];omega,?_,?_⟩
  ·refine Int.le_trans ?_ i3;rw[s4,Int.pow_add,Int.mul_assoc];exact Int.mul_le_mul_of_nonneg_right (by omega) hp
  ·refine Int.le_trans i4 ?_;rw[s4,s5,<- Int.add_mul,Int.pow_add,Int.mul_assoc];exact Int.mul_le_mul_of_nonneg_right (by omega) hp
theorem qwc {g:Nat} {b:List Int} (hb:byL b):∀ (k:Nat) (o r:List Int) (v w:Int) (D:Nat->Tb) (z:Nat) (l:List Int) (lo:Int),DOK D->WI l lo w->RI b l lo r v->0<=v->v<4294967296->∀ out,dG g k o r v w D z=some out ->
  ∃ xs,xs.length=k/\byL xs/\out=o++xs/\nW (eG g xs D z l lo w).1 (eG g xs D z l lo w).2.1=pv b ((eG g xs D z l lo w).1.length+4)/\b.length<=(eG g xs D z l lo w).1.length+4:=by
 intro k
 induction k with
 | zero=>
  intro o r v w D z l lo hD hW hr hv hv2 out h;rw[dG] at h
  cases hq:(decide (v=0)&&decide ((r.length:Int)=0)) with
  | false=>rw[hq] at h;cases h
  | true=>
   rw[hq] at h;cases h;simp only[Bool.and_eq_true,decide_eq_true_eq] at hq;obtain ⟨r1,r2⟩:=hr;have hlen:r.length=b.length-(l.length+4):=by rw[r1,List.length_drop]
   refine ⟨[],rfl,λ x hx=>(by cases hx),(List.append_nil _).symm,?_,?_⟩
   ·show nW l lo=pv b (l.length+4);omega
   ·show b.length<=l.length+4;omega
 | succ k ih=>
  intro o r v w D z l lo hD hW hr hv hv2 out h;rw[dG] at h
  cases hq:(nxtV r (D (atD g z)).1 v w (D (atD g z)).2).1.2 with
  | false=>rw[hq] at h;cases h
  | true=>
   rw[hq] at h;obtain ⟨x,hx,h1,h2⟩:=q18 hW.wk (hD _) hv hv2 hq;obtain ⟨s1,s,s2,s3,s4,s5,s6⟩:=qgn hb hW (hD (atD g z)) hx;obtain ⟨t1,t2,t3,t4,t5⟩:=s6 r v hr hv h1 h2;rw[t1] at h;have ew:(nxtV r (D (atD g z)).1 v w (D (atD g z)).2).2.2.2<=4294967295:=by rw[t3];exact s1.wk.2
   obtain ⟨xs,i1,i2,i3,i4,i5⟩:=ih _ _ _ _ _ _ _ _ (qkx hD z hx) (by rw[t3];exact s1) t2 t4 (by omega) out h;refine ⟨(x:Int)::xs,by rw[List.length_cons,i1],λ y hy=>?_,by rw[i3,List.append_assoc];rfl,?_,?_⟩
   ·rcases List.mem_cons.1 hy with q | q
    ·rw[q];omega
    ·exact i2 y q
   ·rw[eG];rw[t3] at i4;exact i4
   ·rw[eG];rw[t3] at i5;exact i5
theorem qux {b:List Int} (hb:byL b) (k:Nat):∀ s,pv b k*256 ^ s<=pv b (k+s)/\pv b (k+s)<(pv b k+1)*256 ^ s
 | 0=>by
  show pv b k*256 ^ 0<=pv b k/\pv b k<(pv b k+1)*256 ^ 0
  simp;omega
 | s+1=>by
  obtain ⟨h1,h2⟩:=qux hb k s;have g:=qhw hb (k+s);have e1:pv b k*256 ^ (s+1)=256*(pv b k*256 ^ s):=by rw[qpp,Int.mul_assoc,Int.mul_left_comm]
  have e2:(pv b k+1)*256 ^ (s+1)=256*((pv b k+1)*256 ^ s):=by rw[qpp,Int.mul_assoc,Int.mul_left_comm]
  show _<=256*pv b (k+s)+gtB b (k+s)/\256*pv b (k+s)+gtB b (k+s)<_
  rw[e1,e2];omega
theorem pow_pos (s:Nat):(0:Int)<256 ^ s:=Int.pow_pos (by decide)
theorem qre {a c X:Int} {s:Nat} (h1:a*256 ^ s<=X) (h2:X<c*256 ^ s):a<c:=
 Int.lt_of_mul_lt_mul_right (Int.lt_of_le_of_lt h1 h2) (Int.le_of_lt (pow_pos s))
theorem qyt {g:Nat} {b:List Int} (hb:byL b):∀ (xs:List Int),byL xs->∀ (o r:List Int) (v w:Int) (D:Nat->Tb) (z:Nat) (l:List Int) (lo:Int),DOK D->WI l lo w->RI b l lo r v->0<=v ->
  nW (eG g xs D z l lo w).1 (eG g xs D z l lo w).2.1=pv b ((eG g xs D z l lo w).1.length+4)->b.length<=(eG g xs D z l lo w).1.length+4->dG g xs.length o r v w D z=some (o++xs):=by
 intro xs
 induction xs with
 | nil=>
  intro _ o r v w D z l lo hD hW hr hv h1 h2;have h1:nW l lo=pv b (l.length+4):=h1;have h2:b.length<=l.length+4:=h2;obtain ⟨r1,r2⟩:=hr;have e1:v=0:=by omega
  have e2:r=[]:=by rw[r1];exact List.drop_eq_nil_of_le h2
  subst e1;subst e2;rw[List.append_nil];rfl
 | cons y xs ih=>
  intro hy o r v w D z l lo hD hW hr hv h1 h2;obtain ⟨x,rfl⟩:=Int.eq_ofNat_of_zero_le (hy y (List.mem_cons_self ..)).1;have hx:=(hy x (List.mem_cons_self ..)).2;have hx:x<256:=by omega
  have hxs:byL xs:=λ a ha=>hy a (List.mem_cons_of_mem _ ha)
  obtain ⟨s1,s,s2,s3,s4,s5,s6⟩:=qgn hb hW (hD (atD g z)) hx;rw[eG] at h1 h2;obtain ⟨i1,s',i2,i3,i4⟩:=q5f g xs hxs (nxD g D z x) (x:Int).toNat _ _ _ (qkx hD z hx) s1;have iw:=i1.wk.1;obtain ⟨d1,d2⟩:=qux hb ((putV l (D (atD g z)).1 lo w (D (atD g z)).2 x).1.length+4) s';have e:(putV l (D (atD g z)).1 lo w (D (atD g z)).2 x).1.length+4+s'=(eG g xs (nxD g D z x) (x:Int).toNat (putV l (D (atD g z)).1 lo w (D (atD g z)).2 x).1 (putV l (D (atD g z)).1 lo w (D (atD g z)).2 x).2.1 (putV l (D (atD g z)).1 lo w (D (atD g z)).2 x).2.2).1.length+4:=by rw[i2];omega
  rw[e,<- h1] at d1 d2;have a1:=qre d1 (Int.lt_of_lt_of_le (by omega) i4);have a2:=qre i3 d2;rw[s4,s5] at a1;rw[s4] at a2;rw[<- Int.add_mul] at a1;obtain ⟨f1,f2⟩:=qux hb (l.length+4) s;have e':l.length+4+s=(putV l (D (atD g z)).1 lo w (D (atD g z)).2 x).1.length+4:=by rw[s3];omega
  rw[e'] at f1 f2;have b1:=qre f1 a1;have b2:=qre (Int.le_of_lt_add_one a2) f2;have hv':=hr.2;obtain ⟨t1,t2,t3,t4,t5⟩:=s6 r v hr hv (by omega) (by omega);have tt1:(nxtV r (D (atD g z)).1 v w (D (atD g z)).2).1.2=true:=by rw[t1]
  have tt2:(nxtV r (D (atD g z)).1 v w (D (atD g z)).2).1.1=(x:Int):=by rw[t1]
  rw[List.length_cons,dG,tt1];have ii:=ih hxs (o++[(x:Int)]) (nxtV r (D (atD g z)).1 v w (D (atD g z)).2).2.1 (nxtV r (D (atD g z)).1 v w (D (atD g z)).2).2.2.1 (putV l (D (atD g z)).1 lo w (D (atD g z)).2 x).2.2 (nxD g D z x) (x:Int).toNat _ _ (qkx hD z hx) s1 t2 t4 h1 h2;rw[List.append_assoc] at ii
  show dG g xs.length _ _ _ _ _ _=_
  rw[tt2,t3];exact ii
theorem qzx:∀ (k:Nat) (l:List Int) (lo:Int),byL l->(0<=lo/\lo<4294967296)->byL (outF k (l,lo)).1/\(outF k (l,lo)).1.length=l.length+k/\(0<=(outF k (l,lo)).2/\(outF k (l,lo)).2<4294967296)/\nW (outF k (l,lo)).1 (outF k (l,lo)).2=256 ^ k*nW l lo
 | 0,l,lo,h,h0=>⟨h,rfl,h0,by show nW l lo=256 ^ 0*nW l lo;simp⟩
 | k+1,l,lo,h,h0=>by
  obtain ⟨w1,w2,w3,w4⟩:=qzj h h0;obtain ⟨i1,i2,i3,i4⟩:=qzx k (wshL l lo) (IntKind.u32.wrap (lo*2 ^ 8)) w1 w3;rw[outF];refine ⟨i1,by rw[i2,w2];omega,i3,?_⟩
  show nW (outF k (wshL l lo,IntKind.u32.wrap (lo*2 ^ 8))).1 (outF k (wshL l lo,IntKind.u32.wrap (lo*2 ^ 8))).2=_
  rw[i4,w4,Int.pow_succ,Int.mul_assoc]
theorem qu5 {l:List Int} {lo:Int} (h:byL l) (h0:0<=lo/\lo<4294967296):byL (outF 4 (l,lo)).1/\(outF 4 (l,lo)).1.length=l.length+4/\pv (outF 4 (l,lo)).1 (l.length+4)=nW l lo:=by
 obtain ⟨i1,i2,i3,i4⟩:=qzx 4 l lo h h0;refine ⟨i1,i2,?_⟩;rw[pow4] at i4;have e:nW (outF 4 (l,lo)).1 (outF 4 (l,lo)).2=pv (outF 4 (l,lo)).1 (l.length+4)*4294967296+(outF 4 (l,lo)).2:=by rw[<- i2];rfl
 omega
theorem qvq {L:List Int} {s j:Nat}:gtB (L.take s) j=if j<s then gtB L j else 0:=by
 show ((L.take s)[j]?).getD (0:Int)=if j<s then (L[j]?).getD (0:Int) else 0
 rw[List.getElem?_take];by_cases h:j<s
 ·rw[if_pos h,if_pos h]
 ·rw[if_neg h,if_neg h];rfl
theorem qne {L:List Int} {n:Nat} (h:n<L.length):ezV (L.take (n+1))=decide (gtB L n=0):=by
 have hl:(L.take (n+1)).length=n+1:=by rw[List.length_take];omega
 unfold ezV;rw[hl,decide_eq_true (by omega),Bool.true_and,Nat.add_sub_cancel,qvq,if_pos (by omega)]
theorem qme (L:List Int):∀ n,n<=L.length->qao L n<=n/\(∀ j,qao L n<=j->j<n->gtB L j=0)/\ezV (L.take (qao L n))=false
 | 0,_=>⟨Nat.le_refl _,λ j _ h=>absurd h (by omega),rfl⟩
 | n+1,hn=>by
  have e:ezV (winL uB 0 (n+1) L)=decide (gtB L n=0):=qne hn;rw[qao,e];by_cases h:gtB L n=0
  ·rw[decide_eq_true h];obtain ⟨i1,i2,i3⟩:=qme L n (by omega);refine ⟨Nat.le_succ_of_le i1,λ j h1 h2=>?_,i3⟩;by_cases hj:j=n
   ·rw[hj];exact h
   ·exact i2 j h1 (by omega)
  ·rw[decide_eq_false h];refine ⟨Nat.le_refl _,λ j (h1:n+1<=j) h2=>absurd h2 (by omega),?_⟩
   show ezV (L.take (n+1))=false
   rw[qne hn,decide_eq_false h]
theorem qzv {a b:List Int} (ha:byL a) (hb:byL b):∀ k,pv a k=pv b k->∀ j,j<k->gtB a j=gtB b j
 | 0,_,j,hj=>absurd hj (by omega)
 | k+1,h,j,hj=>by
  have g1:=qhw ha k;have g2:=qhw hb k;rw[pv,pv] at h;by_cases hk:j=k
  ·rw[hk];omega
  ·exact qzv ha hb k (by omega) j (by omega)
theorem qon {a:List Int} {j:Nat} (h:a.length<=j):gtB a j=0:=by
 show (a[j]?).getD (0:Int)=0
 rw[List.getElem?_eq_none h];rfl
theorem q2s {a:List Int} (h:ezV a=false) (h0:0<a.length):gtB a (a.length-1)≠0:=λ e=>by
 unfold ezV at h;rw[decide_eq_true h0,decide_eq_true e] at h;cases h
theorem no_ez {a b:List Int} {K:Nat} (ha:ezV a=false) (hb:ezV b=false) (h1:a.length<=K) (h2:b.length<=K) (h:∀ j,j<K->gtB a j=gtB b j):a=b:=by
 have hl:∀ {a b:List Int},ezV a=false->a.length<=K->(∀ j,j<K->gtB a j=gtB b j)->a.length<=b.length:=by
  intro a b ha h1 h;rcases Nat.lt_or_ge b.length a.length with q | q
  ·exfalso;have:=h (a.length-1) (by omega);rw[qon (a:=b) (by omega)] at this;exact q2s ha (by omega) this
  ·exact q
 have l1:=hl ha h1 h;have l2:=hl hb h2 λ j hj=>(h j hj).symm
 refine List.ext_getElem (by omega) λ j j1 j2=>?_
 have:=h j (by omega);rw[qi1 j1,qi1 j2] at this;exact this
def qfp (g:Nat) (b:List Int):List Int:=(outG g b).take (qao (outG g b) (outG g b).length)
theorem wi_0:WI [] 0 4294967295:=⟨(λ x hx=>by cases hx),⟨by decide,by decide⟩,⟨by decide,by decide⟩,by decide⟩
theorem qkz (g:Nat) {b:List Int} (hb:byL b):byL (qfp g b)/\ezV (qfp g b)=false/\(qfp g b).length<=(eG g b D0 0 [] 0 4294967295).1.length+4/\pv (qfp g b) ((eG g b D0 0 [] 0 4294967295).1.length+4)=nW (eG g b D0 0 [] 0 4294967295).1 (eG g b D0 0 [] 0 4294967295).2.1:=by
 obtain ⟨i1,_⟩:=q5f g b hb D0 0 [] 0 4294967295 qs0 wi_0;obtain ⟨o1,o2,o3⟩:=qu5 i1.by' i1.lo0
 have e:outG g b=(outF 4 ((eG g b D0 0 [] 0 4294967295).1,(eG g b D0 0 [] 0 4294967295).2.1)).1:=rfl;rw[<- e] at o1 o2 o3;obtain ⟨s1,s2,s3⟩:=qme (outG g b) (outG g b).length (Nat.le_refl _);refine ⟨λ x hx=>o1 x (List.mem_of_mem_take hx),s3,?_,?_⟩
 ·unfold qfp;rw[List.length_take,<- o2];exact Nat.min_le_right _ _
 ·rw[<- o3];refine qhf _ λ j hj=>?_
  unfold qfp;rw[qvq];by_cases h:j<qao (outG g b) (outG g b).length
  ·rw[if_pos h]
  ·rw[if_neg h,s2 j (by omega) (by omega)]
theorem qum {b:List Int} (hb:byL b):rdF 4 (b,0)=(b.drop 4,pv b 4):=by
 have h:∀ k,k<=3->rshV (b.drop k) (pv b k)=(b.drop (k+1),pv b (k+1)):=λ k hk=>by
  have q:=q1o hb k;have:(256:Int) ^ k<=16777216:=by
   rcases (by omega:k=0\/k=1\/k=2\/k=3) with rfl | rfl | rfl | rfl <;> decide
  rw[quc hb ⟨q.1,by omega⟩];rfl
 show rdF 4 (b.drop 0,pv b 0)=_
 rw[rdF]
 show rdF 3 (rshV (b.drop 0) (pv b 0))=_
 rw[h 0 (by omega),rdF]
 show rdF 2 (rshV (b.drop 1) (pv b 1))=_
 rw[h 1 (by omega),rdF]
 show rdF 1 (rshV (b.drop 2) (pv b 2))=_
 rw[h 2 (by omega),rdF]
 show rdF 0 (rshV (b.drop 3) (pv b 3))=_
 rw[h 3 (by omega)];rfl
theorem ri_0 (b:List Int):RI b [] 0 (b.drop 4) (pv b 4):=⟨rfl,by show pv b 4=pv b 4-(0*4294967296+0);omega⟩
theorem pv4 {b:List Int} (hb:byL b):0<=pv b 4/\pv b 4<4294967296:=by
 have:=q1o hb 4;rw[pow4] at this;exact this
theorem q2y (g:Nat) {b:List Int} (hb:byL b) (h6:b.length<=65536):decG g (qfp g b) b.length=(b,0):=by
 obtain ⟨c1,c2,c3,c4⟩:=qkz g hb;have h:=qyt (g:=g) c1 b hb [] _ _ 4294967295 D0 0 [] 0 qs0 wi_0 (ri_0 _) (pv4 c1).1 c4.symm c3;unfold decG;rw[decide_eq_false (by omega),decide_eq_false (by omega),c2,qum c1];rw[Int.toNat_natCast]
 show (match dG g b.length [] ((qfp g b).drop 4) (pv (qfp g b) 4) 4294967295 D0 0 with
  | some o=>(o,(0:Int))
  | none=>([],130))=_
 rw[h];rfl
theorem q2v (g:Nat) {y:List Int} (hy:byL y) {n:Int}:decG g y n=([],130)\/∃ o,decG g y n=(o,0)/\0<=n/\n<=65536/\(o.length:Int)=n/\byL o/\qfp g o=y:=by
 unfold decG;by_cases h0:n<0
 ·rw[decide_eq_true h0];exact .inl rfl
 by_cases h1:65536<n
 ·rw[decide_eq_false h0,decide_eq_true h1];exact .inl rfl
 cases h2:ezV y with
 | true=>rw[decide_eq_false h0,decide_eq_false h1];exact .inl rfl
 | false=>
  rw[decide_eq_false h0,decide_eq_false h1,qum hy]
  show (match dG g n.toNat [] (y.drop 4) (pv y 4) 4294967295 D0 0 with
   | some o=>(o,(0:Int))
   | none=>([],130))=_\/_
  cases hd:dG g n.toNat [] (y.drop 4) (pv y 4) 4294967295 D0 0 with
  | none=>exact .inl rfl
  | some out=>
   obtain ⟨xs,x1,x2,x3,x4,x5⟩:=qwc hy _ _ _ _ _ _ _ _ _ qs0 wi_0 (ri_0 y) (pv4 hy).1 (pv4 hy).2 out hd;rw[List.nil_append] at x3;subst x3;refine .inr ⟨out,?_,by omega,by omega,by omega,x2,?_⟩
   ·show (match some out with
     | some o=>(o,(0:Int))
     | none=>([],130))=_
    rfl
   ·obtain ⟨c1,c2,c3,c4⟩:=qkz g x2;exact no_ez c2 h2 c3 x5 (qzv c1 hy _ (by rw[c4,x4]))
def CSz:CV:=[(17,.inl ctEncA)]
set_option maxRecDepth 100000
theorem q3l (m:Int) (b:List Int) (Q:QT) (R:RT):sA CSz Try.f18 Q R [.code (qah Try.f18)] (entry [iI,.sl uB] (m,b,())) =
  (ctEncA.pre (m,b,())/\Q [.i (↑(encA m b).2.1:Int),.i (encA m b).2.2] [(1045056,.row 5 uB (encA m b).1)]):=by kernel_rfl
theorem q31 (b:List Int) (n:Int) (Q:QT) (R:RT):sA [] Try.f15 Q R [.code (qah Try.f15)] (entry [.sl uB,iI] (b,n,())) =
  (bc (decide (n<(b.length:Int))) ((0:Int)<=n/\n<=(b.length:Int)/\Q [.sl uB (List.take n.toNat b)] []) (Q [.sl uB b] [])):=by kernel_rfl
def ctSizA:Ctr:=⟨[iI,.sl uB],λ x=>byL x.2.1,λ x=>[.i (encA x.1 x.2.1).2.1,.i (encA x.1 x.2.1).2.2],λ _=>[]⟩
theorem cxSz:CxOK Try.prog tt G0 CSz:=cx0.k enc_held (fn:=Try.f17)
theorem siz_held:Held Try.prog G0 18 ctSizA:=Held.of cxSz (fn:=Try.f18) rfl rfl ⟨by decide,by decide⟩ λ ⟨m,b,_⟩ hp=>by
 exact qbf cxSz (q3l m b _ _) ⟨hp,QC.flat rfl rfl rfl⟩
def ctLim:Ctr:=⟨[.sl uB,iI],λ x=>(0:Int)<=x.2.1,λ x=>[.sl uB (List.take x.2.1.toNat x.1)],λ _=>[]⟩
theorem q2l (b:List Int) (n:Int) (hp:0<=n):GD 15 Try.f15 (QC ctLim (b,n,())) [.code (qah Try.f15)] (entry [.sl uB,iI] (b,n,())):=by
 refine qbf cx0 (q31 b n _ _) (qaj (λ h=>?_) (λ h=>?_))
 ·have h:n<(b.length:Int):=of_decide_eq_true h;exact ⟨hp,by omega,QC.flat rfl rfl rfl⟩
 ·have h:¬ n<(b.length:Int):=of_decide_eq_false h;refine QC.flat ?_ rfl rfl
  show [SV.sl uB (List.take n.toNat b)]=_
  rw[List.take_of_length_le (by omega)]
theorem qx9:Held Try.prog G0 15 ctLim:=Held.of cx0 (fn:=Try.f15) rfl rfl ⟨by decide,by decide⟩ λ ⟨b,n,_⟩ hp=>q2l b n hp
def CS:CV:=[(17,.inl ctEncA),(19,.inl ctDecA),(18,.inl ctSizA)]
set_option maxRecDepth 100000
theorem q3o  (Q:QT) (R:RT):sA CS Try.f14 Q R [.code (qah Try.f14)] (entry [] ()) =
  ((0:Nat)+1<=((List.replicate (1:Nat) uB.dflt).set (0:Nat) (1:Int)).length/\ctEncA.pre ((0:Int),winL uB 0 1 ((List.replicate (1:Nat) uB.dflt).set (0:Nat) (1:Int)),())/\(0:Nat)+3<=((((List.replicate (3:Nat) uB.dflt).set (0:Nat) (0:Int)).set (1:Nat) (0:Int)).set (2:Nat) (0:Int)).length/\ctEncA.pre ((1:Int),winL uB 0 3 ((((List.replicate (3:Nat) uB.dflt).set (0:Nat) (0:Int)).set (1:Nat) (0:Int)).set (2:Nat) (0:Int)),())/\(0:Nat)+4<=(((((List.replicate (4:Nat) uB.dflt).set (0:Nat) (0:Int)).set (1:Nat) (255:Int)).set (2:Nat) (255:Int)).set (3:Nat) (255:Int)).length/\ctDecA.pre ((0:Int),winL uB 0 4 (((((List.replicate (4:Nat) uB.dflt).set (0:Nat) (0:Int)).set (1:Nat) (255:Int)).set (2:Nat) (255:Int)).set (3:Nat) (255:Int)),(1:Int),())/\ctDecA.pre ((2:Int),[],(3:Int),())/\ctEncA.pre ((3:Int),[],())/\(0:Nat)+1<=((List.replicate (1:Nat) uB.dflt).set (0:Nat) (0:Int)).length/\ctDecA.pre ((0:Int),winL uB 0 1 ((List.replicate (1:Nat) uB.dflt).set (0:Nat) (0:Int)),(0:Int),())/\ctDecA.pre ((0:Int),[],(-1:Int),())/\(0:Int)<=65537/\(65537:Int)<=65537/\(65537:Int)<2 ^ 24/\(↑(1:Nat):Int)*(65537:Int)<=2 ^ 48/\(0:Nat)+Int.toNat (65537:Int)<=(List.replicate (Int.toNat (65537:Int)) uB.dflt).length/\ctEncA.pre ((0:Int),winL uB 0 (Int.toNat (65537:Int)) (List.replicate (Int.toNat (65537:Int)) uB.dflt),())/\(0:Nat)+1<=((List.replicate (1:Nat) uB.dflt).set (0:Nat) (1:Int)).length/\ctSizA.pre ((0:Int),winL uB 0 1 ((List.replicate (1:Nat) uB.dflt).set (0:Nat) (1:Int)),())/\(0:Nat)+(encA (0:Int) (winL uB 0 1 ((List.replicate (1:Nat) uB.dflt).set (0:Nat) (1:Int)))).2.1<=(encA (0:Int) (winL uB 0 1 ((List.replicate (1:Nat) uB.dflt).set (0:Nat) (1:Int)))).1.length/\(0:Nat)+4<=(((((List.replicate (4:Nat) uB.dflt).set (0:Nat) (0:Int)).set (1:Nat) (255:Int)).set (2:Nat) (255:Int)).set (3:Nat) (255:Int)).length/\(0:Nat)+(decA (0:Int) (winL uB 0 4 (((((List.replicate (4:Nat) uB.dflt).set (0:Nat) (0:Int)).set (1:Nat) (255:Int)).set (2:Nat) (255:Int)).set (3:Nat) (255:Int))) (1:Int)).1.length<=(decA (0:Int) (winL uB 0 4 (((((List.replicate (4:Nat) uB.dflt).set (0:Nat) (0:Int)).set (1:Nat) (255:Int)).set (2:Nat) (255:Int)).set (3:Nat) (255:Int))) (1:Int)).1.length/\(0:Nat)+1<=((List.replicate (1:Nat) uB.dflt).set (0:Nat) (1:Int)).length/\(0:Nat)+(decA (2:Int) [] (3:Int)).1.length<=(decA (2:Int) [] (3:Int)).1.length/\(0:Nat)+3<=((((List.replicate (3:Nat) uB.dflt).set (0:Nat) (0:Int)).set (1:Nat) (0:Int)).set (2:Nat) (0:Int)).length/\Q [.bool (bif true then decide ((↑(encA (0:Int) (winL uB 0 1 ((List.replicate (1:Nat) uB.dflt).set (0:Nat) (1:Int)))).2.1:Int)=(4:Int)) else false)] [(21,.row 5 uB ((List.replicate (1:Nat) uB.dflt).set (0:Nat) (1:Int))),(26,.row 5 uB ((((List.replicate (3:Nat) uB.dflt).set (0:Nat) (0:Int)).set (1:Nat) (0:Int)).set (2:Nat) (0:Int))),(31,.row 5 uB (((((List.replicate (4:Nat) uB.dflt).set (0:Nat) (0:Int)).set (1:Nat) (255:Int)).set (2:Nat) (255:Int)).set (3:Nat) (255:Int))),(44,.row 5 uB ((List.replicate (1:Nat) uB.dflt).set (0:Nat) (0:Int))),(53,.row 5 uB (List.replicate (Int.toNat (65537:Int)) uB.dflt)),(58,.row 5 uB ((List.replicate (1:Nat) uB.dflt).set (0:Nat) (1:Int))),(100,.row 5 uB (((((List.replicate (4:Nat) uB.dflt).set (0:Nat) (0:Int)).set (1:Nat) (255:Int)).set (2:Nat) (255:Int)).set (3:Nat) (255:Int))),(112,.row 5 uB ((List.replicate (1:Nat) uB.dflt).set (0:Nat) (1:Int))),(119,.row 5 uB ((((List.replicate (3:Nat) uB.dflt).set (0:Nat) (0:Int)).set (1:Nat) (0:Int)).set (2:Nat) (0:Int))),(1090112,.row 5 uB (encA (0:Int) (winL uB 0 1 ((List.replicate (1:Nat) uB.dflt).set (0:Nat) (1:Int)))).1),(1110592,.row 5 uB (encA (1:Int) (winL uB 0 3 ((((List.replicate (3:Nat) uB.dflt).set (0:Nat) (0:Int)).set (1:Nat) (0:Int)).set (2:Nat) (0:Int)))).1),(1131072,.row 5 uB (decA (0:Int) (winL uB 0 4 (((((List.replicate (4:Nat) uB.dflt).set (0:Nat) (0:Int)).set (1:Nat) (255:Int)).set (2:Nat) (255:Int)).set (3:Nat) (255:Int))) (1:Int)).1),(1147456,.row 5 uB (decA (2:Int) [] (3:Int)).1),(1163840,.row 5 uB (encA (3:Int) []).1),(1184320,.row 5 uB (decA (0:Int) (winL uB 0 1 ((List.replicate (1:Nat) uB.dflt).set (0:Nat) (0:Int))) (0:Int)).1),(1200704,.row 5 uB (decA (0:Int) [] (-1:Int)).1),(1221184,.row 5 uB (encA (0:Int) (winL uB 0 (Int.toNat (65537:Int)) (List.replicate (Int.toNat (65537:Int)) uB.dflt))).1)]):=by kernel_rfl
def ctSan:Ctr:=⟨[],λ _=>True,λ _=>[.bool true],λ _=>[]⟩
theorem cxS:CxOK Try.prog tt G0 CS:=((cx0.k siz_held (fn:=Try.f18)).k dec_held (fn:=Try.f19)).k enc_held (fn:=Try.f17)
theorem qry {l:List Int} (h:(l.all λ x=>decide (0<=x)&&decide (x<256))=true):byL l:=λ x hx=>by
 have:=List.all_eq_true.1 h x hx;simpa using this
theorem q29 (n:Nat):byL (List.replicate n 0):=λ x hx=>by rw[List.eq_of_mem_replicate hx];decide
theorem qxf:Held Try.prog G0 14 ctSan:=Held.of cxS (fn:=Try.f14) rfl rfl ⟨by decide,by decide⟩ λ _ _=>by
 have e1:(encA (0:Int) (winL uB (0:Nat) (1:Nat) ((List.replicate (1:Nat) uB.dflt).set (0:Nat) (1:Int)))).2.1=4:=by decide +kernel
 have e2:ctEncA.pre ((0:Int),winL uB (0:Nat) (Int.toNat (65537:Int)) (List.replicate (Int.toNat (65537:Int)) uB.dflt),()):=λ x hx=>q29 _ x (List.mem_of_mem_take hx)
 refine qbf cxS (q3o _ _) ⟨by decide,qry (by decide),by decide,qry (by decide),by decide,(by decide:(4:Nat)<1099511627776),(by decide:(0:Nat)<1099511627776),qry (by decide),by decide,(by decide:(1:Nat)<1099511627776),(by decide:(0:Nat)<1099511627776),by decide,by decide,by decide,by decide,?_,e2,by decide,qry (by decide),?_,by decide,Nat.le_of_eq (Nat.zero_add _),by decide,Nat.le_of_eq (Nat.zero_add _),by decide,?_⟩
 ·rw[List.length_replicate,Nat.zero_add];exact Nat.le_refl _
 ·decide +kernel
 ·refine QC.flat ?_ rfl rfl
  show [SV.bool true]=_
  rw[e1];rfl
end Go.Proofs.Ytdlnmlepljepjaa
