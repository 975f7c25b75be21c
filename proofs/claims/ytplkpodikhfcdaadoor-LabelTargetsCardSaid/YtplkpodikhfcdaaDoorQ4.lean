/-
  A part of the proof: what pieces of the program give; conditions: those of each theorem.
-/
import Derived.Test.YtplkpodikhfcdaaDoorQ3
import Derived.Test.YtplkpodikhfcdaaDoorQ2
import Derived.Test.YtplkpodikhfcdaaDoorHD
set_option linter.unusedVariables false
set_option linter.unusedSimpArgs false
namespace Go.Proofs.YtplkpodikhfcdaaDoor
open Go.Px Go.Ax
set_option maxRecDepth 100000
set_option linter.unusedSimpArgs false
attribute [local irreducible] Go.Px.sy Go.Px.syE
def ctT:Ctr:=⟨[.sl a4S],fun _=>True,fun _=>[.bool true],fun _=>[]⟩
abbrev tgG (l:List (List Int)) (it:List Item) (S:PS):Prop:=GD 5 Tryd.f5 (QC ctT (l,())) it S
abbrev tgD (w:Int) (i:Nat):Int:=(decT w (4*(i:Int))).2.2.2.2
theorem qys (l:List (List Int)) (W L:List Int) (M nd:List Bool) (hn:nd.length=L.length) (hL:L.length<1000) (hy:∀ j,j<L.length->gtM nd j=true) (hi:inc L.length L):∀ (k i:Nat),L.length-i=k->i<=L.length ->
  tgG l (hd Tryd.f5 1) ⟨[(3,.bool true),(5,.ptr 5 0),(9,.win true .bool 61 0 nd.length),(14,.int .i64 (i:Nat))],[(5,.var [.sl u4 W,.sl .bool M,.sl iI L]),(61,.row 4 .bool nd)]⟩:=by
 intro k
 induction k with
 | zero=>
  intro i hk hle;refine qap cxT5 (q1l W L M nd i _ _) ?_;rw[decide_eq_false (by omega),bc_f];exact QC.flat rfl rfl rfl
 | succ k ih=>
  intro i hk hle;have hlt:i<L.length:=by omega
  refine qap cxT5 (q1l W L M nd i _ _) ?_;have nx:=ih (i+1) (by omega) (by omega);rw[decide_eq_true (show (i:Int)<(L.length:Int) by omega),bc_t,Int.toNat_natCast,Nat.zero_add,hy i hlt,IntWalk.i64_in ((i:Int)+1) (by omega)];refine ⟨by omega,by omega,by omega,?_⟩
  show bc false _ _
  rw[bc_f];have fin:tgG l (hd Tryd.f5 1) ⟨[(3,.bool true),(5,.ptr 5 0),(9,.win true .bool 61 0 nd.length),(14,.int .i64 ((i:Int)+1))],[(5,.var [.sl u4 W,.sl .bool M,.sl iI L]),(61,.row 4 .bool nd)]⟩:=nx;refine qat (fun h=>?_) (fun h=>⟨rfl,fin⟩);have h:(0:Int)<(i:Int):=of_decide_eq_true h;have ew:IntKind.i64.wrap ((i:Int)-1)=((i-1:Nat):Int):=by rw[IntWalk.i64_in _ (by omega)];omega
  rw[ew,Int.toNat_natCast];have hlt2:=hi (i-1) i (by omega) hlt;refine ⟨by omega,by omega,by omega,by omega,?_⟩;rw[decide_eq_false (show ¬ gtI L i<=gtI L (i-1) by omega)];exact fin
theorem qyq {ws:List Int} {nd:List Bool} (inv:∀ i',∀ h:i'<ws.length,isLk ws.length ws[i'] i'=true->gtM nd (iofV (qbt ws) (tgD ws[i'] i'))=true):∀ j,j<(qbt ws).length->gtM nd j=true:=by
 intro j hj;obtain ⟨_,g2,_,g4⟩:=qnx ws;obtain ⟨r,hr,e⟩:=List.mem_map.1 ((g4 _).1 ⟨j,hj,rfl⟩);obtain ⟨j',h,e1,e2⟩:=(qgm ws 0 r).1 hr;simp only[Nat.zero_add] at e1 e2;have:=inv j' h e2;have et:tgD ws[j'] j'=gtI (qbt ws) j:=by rw[<- e,e1]
 rw[et,q2b g2 hj] at this;exact this
theorem q40 {n:Nat} {w:Int} {i:Nat} (h:¬ (5<=opV w/\opV w<=8/\0<=tgD w i/\tgD w i<4*n)):isLk n w i=false:=by
 unfold isLk;rw[Bool.and_eq_false_iff,Bool.and_eq_false_iff,decide_eq_false_iff_not,decide_eq_false_iff_not,decide_eq_false_iff_not];rw[qrj];by_cases h1:5<=opV w/\opV w<=8
 ·by_cases h2:0<=tgD w i
  ·exact .inr (.inr (fun q=>h ⟨h1.1,h1.2,h2,q⟩))
  ·exact .inr (.inl h2)
 ·exact .inl h1
theorem q0a {n:Nat} {w:Int} {i:Nat} (h:5<=opV w/\opV w<=8/\0<=tgD w i/\tgD w i<4*n):isLk n w i=true:=by
 unfold isLk;rw[Bool.and_eq_true,Bool.and_eq_true,decide_eq_true_iff,decide_eq_true_iff,decide_eq_true_iff,qrj];exact ⟨⟨h.1,h.2.1⟩,h.2.2.1,h.2.2.2⟩
theorem q3e {w d:Int} (hw:0<=w/\w<4294967296) (hd:d=16777215\/d=65535) {p:Nat} (hp:p<65536) {x:Int} (hx:x=bitI .or .u32 (bitI .andNot .u32 w d) (IntKind.u32.wrap (p:Int))) :
  IntKind.i64.wrap (bitI .and .u32 x 65535)=(p:Int)/\Int.fdiv x ((2:Int) ^ min 24 IntKind.u32.bits)=Int.fdiv w ((2:Int) ^ min 24 IntKind.u32.bits):=by
 obtain ⟨b1,b2,b3,b4⟩:=q5i hw hd hp;rw[<- hx] at b1 b2 b3 b4;refine ⟨by rw[b2,IntWalk.i64_in _ (by omega)],?_⟩
 show Int.fdiv x 16777216=Int.fdiv w 16777216
 rw[Int.fdiv_eq_ediv_of_nonneg _ (by decide),Int.fdiv_eq_ediv_of_nonneg _ (by decide)];exact b1
theorem qyr (l:List (List Int)) (b ws:List Int) (hb:b.length=4*ws.length) (hn12:ws.length<=12) (hr:∀ w∈ws,0<=w/\w<4294967296):∀ (k i:Nat) (nd:List Bool),ws.length-i=k->i<=ws.length->nd.length=(qbt ws).length ->
  (∀ i',i'<i->∀ h:i'<ws.length,isLk ws.length ws[i'] i'=true->gtM nd (iofV (qbt ws) (tgD ws[i'] i'))=true) ->
  tgG l (hd Tryd.f5 0) ⟨[(3,.bool true),(4,.sl uB b),(5,.ptr 5 0),(7,.sl u4 ws),(9,.win true .bool 61 0 nd.length),(10,.int .i64 (i:Nat))],[(5,.var [.sl u4 (lfV ws).1,.sl .bool (lfV ws).2,.sl iI (qbt ws)]),(61,.row 4 .bool nd)]⟩:=by
 obtain ⟨f1,f2,f3⟩:=q19 ws;obtain ⟨g1,g2,g3,g4⟩:=qnx ws;have hk12:(lnk ws).length<=ws.length:=qki _ _ _;intro k
 induction k with
 | zero=>
  intro i nd hk hle hnd inv;refine qap cxT5 (q1k b ws (lfV ws).1 (qbt ws) (lfV ws).2 nd i _ _) ?_;rw[decide_eq_false (by omega),bc_f];exact (qys l (lfV ws).1 (qbt ws) (lfV ws).2 nd hnd (by omega) (qyq (fun i' h hk=>inv i' (by omega) h hk)) g2 _ 0 rfl (Nat.zero_le _)).only ⟨rfl,rfl,rfl,rfl,trivial⟩ ⟨rfl,rfl,trivial⟩
 | succ k ih=>
  intro i nd hk hle hnd inv;have hlt:i<ws.length:=by omega
  refine qap cxT5 (q1k b ws (lfV ws).1 (qbt ws) (lfV ws).2 nd i _ _) ?_;obtain ⟨m1,m2,m3⟩:=f3 i hlt;have hw:=hr _ (List.getElem_mem hlt);have hlen:(b.length:Int)=4*(ws.length:Int):=by omega
  have nxt:∀ nd':List Bool,nd'.length=nd.length->(∀ i',i'<i+1->∀ h:i'<ws.length,isLk ws.length ws[i'] i'=true->gtM nd' (iofV (qbt ws) (tgD ws[i'] i'))=true) ->
    tgG l (hd Tryd.f5 0) ⟨[(3,.bool true),(4,.sl uB b),(5,.ptr 5 0),(7,.sl u4 ws),(9,.win true .bool 61 0 nd.length),(10,.int .i64 ((i:Int)+1))],[(5,.var [.sl u4 (lfV ws).1,.sl .bool (lfV ws).2,.sl iI (qbt ws)]),(61,.row 4 .bool nd')]⟩:=fun nd' h1 h2=>by
   have:=ih (i+1) nd' (by omega) (by omega) (by omega) h2;rw[h1] at this;exact this
  rw[decide_eq_true (show (i:Int)<(ws.length:Int) by omega),bc_t,Int.toNat_natCast,qfa hlt,IntWalk.i64_in (4*(i:Int)) (by omega),IntWalk.i64_in ((i:Int)+1) (by omega),hlen,m1];refine ⟨by omega,by omega,⟨hw,by show 0<=4*(i:Int)/\4*(i:Int)<=65540;omega⟩,?_⟩;have et:numN ws[i] (4*(i:Int)) (kd (opV ws[i])).2.2.1 (kd (opV ws[i])).2.2.2.1 (kd (opV ws[i])).2.2.2.2=tgD ws[i] i:=rfl;rw[et];by_cases hin:5<=opV ws[i]/\opV ws[i]<=8/\0<=tgD ws[i] i/\tgD ws[i] i<4*ws.length
  ·have hk:=q0a hin;obtain ⟨h5,h8,h0,h4⟩:=hin;obtain ⟨m4,p,hp,e1,e2⟩:=m3 hk;have hx:gtW (lfV ws).1 i=bitI .or .u32 (bitI .andNot .u32 ws[i] (dbV (opV ws[i]))) (IntKind.u32.wrap (p:Int)):=by
    rw[m4];unfold lfW;rw[qfa hlt,e2];rfl
   obtain ⟨t1,t2⟩:=q3e hw (q5c ((qrj _).2 ⟨h5,h8⟩)) (by omega) hx;have e1:gtI (qbt ws) p=tgD ws[i] i:=e1;have e2:iofV (qbt ws) (tgD ws[i] i)=p:=e2
   have fin:=nxt (nd.set (0+p) true) (List.length_set ..) (fun i' hi' h hk'=>by
    rw[Nat.zero_add,qw7 (by omega)];by_cases q:i'=i
    ·subst q;rw[if_pos e2]
    ·split
     ·rfl
     ·exact inv i' (by omega) h hk')
   simp only[decide_eq_true h5,decide_eq_true h8,decide_eq_true h0,decide_eq_true h4,bc_t,bc_f,hk,t1,t2,Int.toNat_natCast,e1,beq_self_eq_true,Bool.not_true,cond_true,cond_false,ne_eq,not_true_eq_false,decide_false,decide_eq_false (show ¬ ((qbt ws).length:Int)<=(p:Int) by omega)]
   repeat' first
    | refine And.intro ?_ ?_
    | omega
    | exact trivial
    | exact fin
    | rfl
  ·have hk:=q40 hin;have hx:=m2 hk
   have fin:=nxt nd rfl (fun i' hi' h hk'=>by
    by_cases q:i'=i
    ·subst q;rw[hk] at hk';cases hk'
    ·exact inv i' (by omega) h hk')
   rw[hk,hx];have q0:decide (ws[i]≠ws[i])=false:=decide_eq_false (fun q=>q rfl);by_cases h5:5<=opV ws[i]
   ·by_cases h8:opV ws[i]<=8
    ·by_cases h0:0<=tgD ws[i] i
     ·have h4:¬ tgD ws[i] i<4*ws.length:=fun q=>hin ⟨h5,h8,h0,q⟩
      simp only[decide_eq_true h5,decide_eq_true h8,decide_eq_true h0,decide_eq_false h4,bc_t,bc_f,beq_self_eq_true,Bool.not_true,Bool.not_false,cond_true,cond_false,q0]
      repeat' first
       | refine And.intro ?_ ?_
       | omega
       | exact trivial
       | exact fin
       | rfl
     ·simp only[decide_eq_true h5,decide_eq_true h8,decide_eq_false h0,bc_t,bc_f,beq_self_eq_true,Bool.not_true,Bool.not_false,cond_true,cond_false,q0]
      repeat' first
       | refine And.intro ?_ ?_
       | omega
       | exact trivial
       | exact fin
       | rfl
    ·simp only[decide_eq_true h5,decide_eq_false h8,bc_t,bc_f,beq_self_eq_true,Bool.not_true,Bool.not_false,cond_true,cond_false,q0]
     repeat' first
      | refine And.intro ?_ ?_
      | omega
      | exact trivial
      | exact fin
      | rfl
   ·simp only[decide_eq_false h5,bc_t,bc_f,beq_self_eq_true,Bool.not_true,Bool.not_false,cond_true,cond_false,q0]
    repeat' first
     | refine And.intro ?_ ?_
     | omega
     | exact trivial
     | exact fin
     | rfl
theorem qzw:Held Tryd.prog G0 5 ctT:=by
 refine Held.of cxT5 (fn:=Tryd.f5) rfl rfl ⟨by decide,by decide⟩ ?_;rintro ⟨l,⟨⟩⟩ _;refine qap cxT5 (q5r l _ _) ?_;have hcl:=q0z (l:=l) (n:=12) ⟨by decide,by decide⟩;have hb:=qn8 (codW l 12);have h8:=q2m (codW l 12);have hn:(codW l 12).length<=12:=by rw[hcl];exact Nat.min_le_right _ _
 rw[winA (e:=uB) (bytL (codW l 12))];refine ⟨trivial,⟨(by decide:(0:Int)<=12),(by decide:(12:Int)<=1000)⟩,by omega,?_⟩;generalize bytL (codW l 12)=b at *;generalize (codW l 12).length=n at *;obtain ⟨c1,c2,c3,c4⟩:=q5g hb h8 hn;have cw:qze b:=(c4 (by omega)).1;have el:=qz2 (b:=b) (by omega) c1;obtain ⟨f1,f2,f3⟩:=q19 (qai b).1;obtain ⟨g1,g2,g3,g4⟩:=qnx (qai b).1;have hk12:(lnk (qai b).1).length<=(qai b).1.length:=qki _ _ _;refine ⟨c4,by omega,cw,?_⟩;have ek:(qae b).k=(qbt (qai b).1).length:=by rw[el,g1]
 have et:(qae b).k<=(qae b).t.length:=by
  rw[el];have s1:=(qvg (tgO (lnk (qai b).1))).1;rw[<- qfj] at s1;have h1:=(qxp s1).1;have h2:=(qxp s1).2.1
  show (tgV (qai b).1).2.1<=(tgV (qai b).1).2.2.length
  unfold tgV;omega
 have ew:(qae b).w.length=(qai b).1.length:=by rw[el];exact f1
 have em:(qae b).m.length=(qai b).1.length:=by rw[el];exact f2
 rw[decide_eq_false (show ¬ (qae b).e≠0 by rw[el];exact fun q=>q rfl),bc_f];rw[decide_eq_false (show ¬ (qai b).2≠0 by rw[c1];exact fun q=>q rfl)];rw[decide_eq_false (show ¬ ((qae b).w.length:Int)≠((qai b).1.length:Int) by omega),decide_eq_false (show ¬ ((qae b).m.length:Int)≠((qai b).1.length:Int) by omega),decide_eq_false (show ¬ ((qai b).1.length:Int)<((qae b).k:Int) by omega)];refine ⟨by omega,by omega,by omega,by omega,?_⟩;refine frzG (i:=1069632) (e:=uB) (et:=5) (xs:=b) rfl rfl ?_;refine frzG (i:=1081920) (e:=u4) (et:=53) (xs:=(qae b).w) rfl rfl ?_;refine frzG (i:=1081921) (e:=.bool) (et:=4) (xs:=(qae b).m) rfl rfl ?_;refine Good.frz (i:=1081922) (e:=iI) (et:=3) (xs:=(qae b).t) rfl (fun c hm=>?_) ?_
 ·rw[show cdP 1081922 (qae b).t.length _=[0+(qae b).k<=(qae b).t.length] from rfl,List.mem_singleton] at hm;subst hm;omega
 refine frzG (i:=1102400) (e:=u4) (et:=53) (xs:=(qai b).1) rfl rfl ?_;have lp:=qyr l b (qai b).1 (by omega) (by omega) c3 _ 0 (List.replicate (qbt (qai b).1).length false) rfl (Nat.zero_le _) (List.length_replicate ..) (fun i' h=>by omega);refine lp.only ⟨rfl,?_,rfl,?_,?_,rfl,trivial⟩ ⟨?_,?_,trivial⟩
 ·exact congrArg (fun z=>some (SV.sl uB z)) (winA (e:=uB) b)
 ·exact congrArg (fun z=>some (SV.sl u4 z)) (winA (e:=u4) (qai b).1)
 ·rw[List.length_replicate,<- ek];rfl
 ·show some (LB.var [SV.sl u4 (winL u4 0 (qae b).w.length (qae b).w),SV.sl Sh.bool (winL .bool 0 (qae b).m.length (qae b).m),SV.sl iI (winL iI 0 (qae b).k (qae b).t)])=_
  rw[winA (e:=u4),winA (e:=.bool),el];rfl
 ·rw[<- ek];rfl
end Go.Proofs.YtplkpodikhfcdaaDoor
namespace Go.Proofs.YtplkpodikhfcdaaDoor
open Go.Px Go.Ax
set_option maxRecDepth 100000
theorem qul {g:Nat} {x:ABlk} (h:rawG.get g=some x):g=0/\x=.cells qii 91 2:=by
 unfold rawG T.get at h;split at h
 ·rename_i e;cases h;exact ⟨e,rfl⟩
 ·split at h <;> (simp[T.get] at h)
theorem hG:Glob G0.raw:=⟨fun g x h=>by rw[(qul h).1];decide,fun g x h=>by rw[(qul h).2];decide⟩
abbrev H0:AHeap:=⟨qjc,G0.raw⟩
def Z0:Nat->Option ABlk:=fun g=>rawG.get g
theorem gz0:GZ Z0 G0:=by
 refine ⟨fun g x e=>?_,fun g x e=>e⟩;simp only[G0,lk] at e;split at e
 ·rename_i h;subst h;cases e;refine ⟨by decide,fun ν=>⟨0,0,qii,91,2,rfl,rfl,by decide,?_⟩⟩;exact qy4 (.arr 9 kindSh) kindsL ⟨rfl,fun x _=>⟨trivial,trivial,trivial,trivial,trivial⟩⟩
 ·cases e
theorem fro0:Px.Fro G0 H0:=⟨fun i x h=>by rw[(qul h).2];rfl,fun i x h=>by rw[(qul h).2];trivial,fun i x h=>by rw[(qul h).1];decide,gz0⟩
end Go.Proofs.YtplkpodikhfcdaaDoor
