/-
  A part of the proof: what pieces of the program give; conditions: those of each theorem.
-/
import Derived.Test.YtnmkfdgnenkhpaaDoorQ2
import Derived.Test.YtnmkfdgnenkhpaaDoorHD
set_option linter.unusedVariables false
set_option linter.unusedSimpArgs false
namespace Go.Proofs.YtnmkfdgnenkhpaaDoor
open Go.Px Go.Ax
set_option maxRecDepth 100000
theorem qed (s:SyT):kOK (rkd s)/\rkd s≠3/\canB (rkd s) s=true:=by
 unfold rkd;cases h:s.1 with
 | false=>
  show kOK 4/\(4:Int)≠3/\canB 4 s=true
  refine ⟨by unfold kOK;omega,by omega,?_⟩;simp[canB,h]
 | true=>
  by_cases hb:s.2.2≠0
  ·simp only[if_pos hb];refine ⟨by unfold kOK;omega,by omega,?_⟩;simp[canB,h]
  ·simp only[if_neg hb];refine ⟨by unfold kOK;omega,by omega,?_⟩;have hb:s.2.2=0:=by omega
   simp[canB,h,hb]
theorem qwb (s:SyT):newO s=mdK (rkd s) [s]:=by
 obtain ⟨h1,h2,_⟩:=qed s;have e:gtY [s] 0=s:=qp2 s [];unfold newO mdK;rw[e,if_neg h2];refine Prod.ext rfl (Prod.ext rfl (Prod.ext rfl (Prod.ext rfl ?_)))
 show (if rkd s=1 then [] else [s.2.2])=if rkd s=2\/rkd s=4 then [s.2.2] else []
 by_cases h:rkd s=1
 ·rw[if_pos h,if_neg (by omega)]
 ·rw[if_neg h,if_pos (by unfold kOK at h1;omega)]
theorem qjm {a b:List SyT} {j:Nat} (h:j<a.length):gtY (a++b) j=gtY a j:=by
 rw[qbn (by rw[List.length_append];omega),qbn h,List.getElem_append_left h]
theorem qrp (a:List SyT) (s:SyT):gtY (a++[s]) a.length=s:=by
 rw[qbn (by rw[List.length_append];simp)];simp
structure InvO (m:Int) (l:List SyT) (i:Nat) (r:List OpT × OpT) (seg:List SyT):Prop where
 len:1<=seg.length
 md:r.2=mdK (rkd (gtY l i)) seg
 is:isK (rkd (gtY l i)) seg seg.length
 tk:symF r.1++seg=l.take (i+1)
 rt:∀ x∈r.1,isRB x m=true
 last:gtY seg (seg.length-1)=gtY l i
theorem qwu (s:SyT):isK (rkd s) [s] 1:=fun j hj=>by
 have hj:j=0:=by omega
 subst hj;rw[qp2];exact ⟨(qed s).2.2,fun _=>by simp,fun _=>rfl⟩
theorem qo7 {l:List SyT} {i:Nat} (h:i<l.length):l.take (i+1)=l.take i++[gtY l i]:=by
 rw[List.take_add_one,List.getElem?_eq_getElem h,<- qbn h];rfl
theorem qqs (x:OpT):symF [x]=qay x.1.toNat x:=by simp[symF]
theorem qvz {m:Int} {l:List SyT} (hr:∀ s∈l,sOK m s=true) (h1:m<=65536) (hl:l.length<=65536):∀ i,i<l.length->∃ seg,InvO m l i (ofR l i) seg
 | 0,h=>by
  refine ⟨[gtY l 0],Nat.le_refl _,qwb _,qwu _,?_,fun x hx=>?_,qp2 _ _⟩
  ·rw[qo7 h];rfl
  ·have hx:x∈[]:=hx;cases hx
 | i+1,h=>by
  obtain ⟨seg,a1,a2,a3,a4,a5,a6⟩:=qvz hr h1 hl i (by omega);have hs:=hr _ (show gtY l (i+1)∈l by rw[qbn h];exact List.getElem_mem h);have hp:=hr _ (show gtY l i∈l by rw[qbn (show i<l.length by omega)];exact List.getElem_mem _);have hmem:∀ s∈seg,s∈l:=fun s hs=>List.mem_of_mem_take (i:=i+1) (by rw[<- a4];exact List.mem_append_right _ hs)
  have hsl:seg.length<=65536:=by
   have:=congrArg List.length a4;rw[List.length_append,List.length_take] at this;omega
  obtain ⟨c1,c2,c3⟩:=qed (gtY l (i+1))
  show ∃ seg',InvO m l (i+1) (stpR (ofR l i) (gtY l i) (gtY l (i+1))) seg'
  cases hg:rgoB (gtY l i) (gtY l (i+1)) with
  | false=>
   refine ⟨[gtY l (i+1)],Nat.le_refl _,?_,qwu _,?_,?_,qp2 _ _⟩
   ·unfold stpR;rw[hg];exact qwb _
   ·unfold stpR;rw[hg]
    show symF ((ofR l i).1++[(ofR l i).2])++[gtY l (i+1)]=_
    rw[qjd,qqs,a2,show (mdK (rkd (gtY l i)) seg).1.toNat=(rkd (gtY l i)).toNat from rfl,qpv (m:=m) (by omega) (qed _).1 (fun s hs=>hr s (hmem s hs)) a3,a4,<- qo7 h]
   ·unfold stpR;rw[hg];intro x hx;have hx:x∈(ofR l i).1++[(ofR l i).2]:=hx;rcases List.mem_append.1 hx with hx | hx
    ·exact a5 x hx
    ·rw[List.mem_singleton] at hx;rw[hx,a2];exact qkk (m:=m) (by omega) (qed _).1 (fun s hs=>hr s (hmem s hs)) a3 a1 hsl
  | true=>
   have hg2:=hg;simp only[rgoB,Bool.and_eq_true,Bool.or_eq_true,Bool.not_eq_true',decide_eq_true_eq] at hg2;obtain ⟨g1,g2⟩:=hg2;refine ⟨seg++[gtY l (i+1)],by simp,?_,?_,?_,?_,?_⟩
   ·unfold stpR;rw[hg]
    show extO (ofR l i).2 (gtY l (i+1))=_
    rw[a2,<- g1];obtain ⟨b1,b2,_⟩:=qed (gtY l i);unfold extO mdK;rw[qjm (by omega),if_neg b2];refine Prod.ext rfl (Prod.ext rfl (Prod.ext ?_ (Prod.ext rfl ?_)))
    ·show (seg.length:Int)+1=((seg++[gtY l (i+1)]).length:Int)
     rw[List.length_append];simp
    ·show (if rkd (gtY l i)=1 then (if rkd (gtY l i)=2\/rkd (gtY l i)=4 then seg.map (fun s=>s.2.2) else []) else (if rkd (gtY l i)=2\/rkd (gtY l i)=4 then seg.map (fun s=>s.2.2) else [])++[(gtY l (i+1)).2.2])=if rkd (gtY l i)=2\/rkd (gtY l i)=4 then (seg++[gtY l (i+1)]).map (fun s=>s.2.2) else []
     by_cases h:rkd (gtY l i)=1
     ·rw[if_pos h,if_neg (by omega),if_neg (by omega)]
     ·rw[if_neg h,if_pos (by unfold kOK at b1;omega),if_pos (by unfold kOK at b1;omega),List.map_append];rfl
   ·rw[List.length_append,List.length_singleton];rw[<- g1];intro j hj;rcases Nat.lt_or_ge j seg.length with hj2 | hj2
    ·rw[qjm hj2,qjm (by omega)];exact a3 j hj2
    ·have hj3:j=seg.length:=by omega
     subst hj3;rw[qrp,qjm (by omega)];refine ⟨by rw[g1];exact c3,fun hk=>?_,fun hk=>absurd hk (qed _).2.1⟩;have hL:=(a3 (seg.length-1) (by omega)).2.1 hk;rw[a6] at hL;have hpo:(gtY l i).1=true:=by
      rcases hk with hk | hk <;> (unfold rkd at hk;cases hq:(gtY l i).1 with
       | true=>rfl
       | false=>rw[hq] at hk;simp at hk)
     rcases g2 with g2 | g2
     ·rw[hpo] at g2;cases g2
     ·have hb:=qpd hp hpo;rw[IntWalk.i64_in _ (by omega)] at g2;rw[g2,hL];omega
   ·unfold stpR;rw[hg]
    show symF (ofR l i).1++(seg++[gtY l (i+1)])=_
    rw[<- List.append_assoc,a4,<- qo7 h]
   ·unfold stpR;rw[hg];exact a5
   ·rw[List.length_append,List.length_singleton,Nat.add_sub_cancel,qrp]
theorem q85 {m:Int} {l:List SyT} (hr:∀ s∈l,sOK m s=true) (h0:0<=m) (h1:m<=65536) (hl:l.length<=4096) :
  ofRV l m=(((false,m,(l.length:Int),ofO l):PaT),(0:Int))/\(chkV (false,m,(l.length:Int),ofO l)).2=0/\symF (ofO l)=l:=by
 have hO:symF (ofO l)=l/\(∀ x∈ofO l,isRB x m=true)/\(ofO l).length<=l.length:=by
  cases hn:l.length with
  | zero=>
   have:l=[]:=List.eq_nil_of_length_eq_zero hn;subst this;exact ⟨rfl,fun x hx=>by simp[ofO] at hx,by simp[ofO]⟩
  | succ n=>
   obtain ⟨seg,a1,a2,a3,a4,a5,a6⟩:=qvz hr h1 (by omega) n (by omega);have hmem:∀ s∈seg,s∈l:=fun s hs=>List.mem_of_mem_take (i:=n+1) (by rw[<- a4];exact List.mem_append_right _ hs)
   have hsl:seg.length<=65536:=by
    have:=congrArg List.length a4;rw[List.length_append,List.length_take] at this;omega
   have e:ofO l=(ofR l n).1++[(ofR l n).2]:=by unfold ofO;rw[hn]
   obtain ⟨_,_,b4,_,_⟩:=qm1 l n;rw[e];refine ⟨?_,fun x hx=>?_,?_⟩
   ·rw[qjd,qqs,a2,show (mdK (rkd (gtY l n)) seg).1.toNat=(rkd (gtY l n)).toNat from rfl,qpv (m:=m) (by omega) (qed _).1 (fun s hs=>hr s (hmem s hs)) a3,a4,<- hn,List.take_length]
   ·rcases List.mem_append.1 hx with hx | hx
    ·exact a5 x hx
    ·rw[List.mem_singleton] at hx;rw[hx,a2];exact qkk (m:=m) (by omega) (qed _).1 (fun s hs=>hr s (hmem s hs)) a3 a1 hsl
   ·rw[List.length_append,List.length_singleton];omega
 obtain ⟨k1,k2,k3⟩:=hO;have hs:=qfs k2;rw[k1] at hs;refine ⟨?_,?_,k1⟩
 ·rw[qpo m l h0 h1 (by omega) fun j hj=>hr _ (by rw[qbn hj];exact List.getElem_mem hj),if_neg (by omega)]
 ·have:=qw9 (li:=false) (o:=(l.length:Int)) h0 h1 (by omega) (by omega) k2 hs.symm;rw[this]
open Go.IntKind(i64 u32 u8)
abbrev rgS:Sh:=.pair iI iI
abbrev gtR (l:List (Int × Int)) (i:Nat):Int × Int:=gt rgS l i
abbrev slY:Sh:=.sl syS
abbrev ySy:List Sh:=[iI,syS]
abbrev yBo:List Sh:=[iI,.bool]
abbrev fT:AK:=.fn 34 [] []
abbrev fC:AK:=.fn 56 [] [.ptr [.dat slY]]
abbrev fR:AK:=.fn 42 [] []
abbrev capT:List AK:=[.ptr [.dat slY],.ptr [fT]]
abbrev capC:List AK:=[.ptr [.dat slY],.ptr [fC]]
abbrev capR:List AK:=[.ptr [.dat (.sl .bool)],.ptr [fR]]
def tcB (i:Int) (s:SyT):Bool := !decide ((s.1,s.2.1,s.2.2)=(true,i,(0:Int)))
def ctTc:Ctr:=⟨[iI,syS],fun _=>True,fun x=>[.bool (tcB x.1 x.2.1)],fun _=>[]⟩
def clB (b:List SyT) (i:Int) (s:SyT):Bool:=tcB i s&&(tcB i (gtY b i.toNat) && !decide ((s.1,s.2.1,s.2.2)=((gtY b i.toNat).1,(gtY b i.toNat).2.1,(gtY b i.toNat).2.2)))
def q47 (b:List SyT) (i:Int):Prop:=0<=i/\i<b.length
def ctC1:CtrI:=⟨[.dat iI,.dat syS,.ptr [.dat slY]],fun x=>q47 x.2.2.1.1 x.1,fun x=>[.bool (clB x.2.2.1.1 x.1 x.2.1)],fun x=>bkKL 0 [.dat iI,.dat syS,.ptr [.dat slY]] x⟩
def CC1:CV:=[(56,.inr ctC1)]
def ctR1:Ctr:=⟨[iI,.bool],fun _=>True,fun x=>[.bool x.2.1],fun _=>[]⟩
set_option maxRecDepth 100000
theorem q67 (i:Int) (f:Bool) (a b:Int) (Q:QT) (R:RT):sy tt G0 [] Tryd.f34.ntmps Tryd.f34.results.toList Q R 1000 [.code (qae Tryd.f34)] (entry [iI,syS] (i,(f,a,b),())) =
  (Q [.bool !decide ([Cl.cb f,Cl.ci i64 a,Cl.ci u8 b]=[Cl.cb true,Cl.ci i64 i,Cl.ci u8 (0:Int)])] [(3,.var [.bool f,.int .i64 a,.int .u8 b])]):=by kernel_rfl
theorem q7i (i:Int) (f:Bool) (Q:QT) (R:RT):sy tt G0 [] Tryd.f42.ntmps Tryd.f42.results.toList Q R 1000 [.code (qae Tryd.f42)] (entry [iI,.bool] (i,f,())) =
  (Q [.bool f] []):=by kernel_rfl
theorem q62 (l:List SyT) (Q:QT) (R:RT):sy tt G0 [] Tryd.f33.ntmps Tryd.f33.results.toList Q R 1000 [.code (qae Tryd.f33)] (qbj [.dat slY,fT] (l,((),()),())) =
  (Q [.fn (57:Nat) [] [.ptr (2:Nat) 0,.ptr 3 0]] [(2,.var [.sl syS l]),(3,.var [.fn (34:Nat) [] []])]):=by kernel_rfl
theorem q64 (l b:List SyT) (Q:QT) (R:RT):sy tt G0 [] Tryd.f33.ntmps Tryd.f33.results.toList Q R 1000 [.code (qae Tryd.f33)] (qbj [.dat slY,fC] (l,((),((b,()),())),())) =
  (Q [.fn (57:Nat) [] [.ptr (2:Nat) 0,.ptr 3 0]] [(2,.var [.sl syS l]),(3,.var [.fn (56:Nat) [] [.ptr 1099511627776 0]]),(1099511627776,.var [.sl syS b])]):=by kernel_rfl
theorem q63 (l:List Bool) (Q:QT) (R:RT):sy tt G0 [] Tryd.f44.ntmps Tryd.f44.results.toList Q R 1000 [.code (qae Tryd.f44)] (qbj [.dat (.sl .bool),fR] (l,((),()),())) =
  (Q [.fn (61:Nat) [] [.ptr (2:Nat) 0,.ptr 3 0]] [(2,.var [.sl Sh.bool l]),(3,.var [.fn (42:Nat) [] []])]):=by kernel_rfl
theorem q76 (i:Int) (f:Bool) (a c:Int) (b:List SyT) (Q:QT) (R:RT):sy tt G0 [(34,.inl ctTc)] Tryd.f56.ntmps Tryd.f56.results.toList Q R 1000 [.code (qae Tryd.f56)] (qbj [.dat iI,.dat syS,.ptr [.dat slY]] (i,(f,a,c),(b,()),())) =
  (ctTc.pre (i,(f,a,c),()) /\
 bc (tcB i (f,a,c)) ((0:Int)<=i /\
 i<(b.length:Int) /\
 ctTc.pre (i,(gtY b i.toNat),()) /\
 bc (bif true then tcB i (gtY b i.toNat) else false) ((0:Int)<=i /\
 i<(b.length:Int) /\
 Q [.bool (bif true then !decide ([Cl.cb f,Cl.ci i64 a,Cl.ci u8 c]=[Cl.cb (gtY b i.toNat).1,Cl.ci i64 (gtY b i.toNat).2.1,Cl.ci u8 (gtY b i.toNat).2.2]) else false)] [(4,.var [.bool f,.int .i64 a,.int .u8 c]),(1099511627776,.var [.sl syS b])]) (false=false /\
 Q [.bool false] [(4,.var [.bool f,.int .i64 a,.int .u8 c]),(1099511627776,.var [.sl syS b])])) (false=false /\
 false=false /\
 Q [.bool false] [(4,.var [.bool f,.int .i64 a,.int .u8 c]),(1099511627776,.var [.sl syS b])])):=by kernel_rfl
theorem q7u (l:List SyT) (lp:Nat) (ys:List (DL ySy)) (Q:AExit->Nat × Bool->PS->Prop) (R:List Item->Nat × Bool->PS->Prop):syE tt G0 [(34,.inl ctTc)] Tryd.f57.ntmps ⟨lp,ySy,ys⟩ Q R .fn 1000 [.code (qae Tryd.f57)] (0,false) (ql1 lp capT ((l,()),(((),()),()),())) =
  (R (hd Tryd.f57 0) ((0:Nat),false) { env:=[(0,.yl lp),(1,.ptr 1099511627776 0),(2,.ptr 1099511627777 0),(6,.sl syS l),(7,.int .i64 (l.length:Int)),(8,.int .i64 0)],blk:=[(1099511627776,.var [.sl syS l]),(1099511627777,.var [.fn (34:Nat) [] []])] }):=by kernel_rfl
theorem qt9 (l:List SyT) (i:Int) (j:Nat) (q:Bool) (lp:Nat) (ys:List (DL ySy)) (Q:AExit->Nat × Bool->PS->Prop) (R:List Item->Nat × Bool->PS->Prop):syE tt G0 [(34,.inl ctTc)] Tryd.f57.ntmps ⟨lp,ySy,ys⟩ Q (fun it g S=>R it g (qa4 [0,1,2,6,7,8] [BIG,BIG+1] S)) .fn 1000 (hd Tryd.f57 0) (j,q) (⟨[(0,.yl lp),(1,.ptr BIG 0),(2,.ptr (BIG+1) 0),(6,.sl syS l),(7,.int .i64 (l.length:Nat)),(8,.int .i64 i)],[(BIG,.var [.sl syS l]),(BIG+1,.var [.fn 34 [] []])]⟩) =
  (bc (decide (i<(l.length:Int))) ((0:Int)<=i /\
 i<(l.length:Int) /\
 ctTc.pre (i,(gtY l i.toNat),()) /\
 bc (tcB i (gtY l i.toNat)) (lp=(Yp.mk lp ySy ys).l /\
 q=false /\
 (Yp.mk lp ySy ys).ys[j]?=some (i,(gtY l i.toNat),()) /\
 ∀ (r:Bool),bc (bif true then !r else false) (Q AExit.ret (j+1,!r) { env:=[(0,.yl lp),(1,.ptr 1099511627776 0),(2,.ptr 1099511627777 0),(4,.int .i64 i),(5,.ptr 5 0),(6,.sl syS l),(7,.int .i64 (l.length:Int)),(8,.int .i64 i),(9,.bool (decide (i<(l.length:Int)))),(10,.int .i64 i),(11,.elv syS (gtY l i.toNat)),(12,.agg [.bool (gtY l i.toNat).1,.int .i64 (gtY l i.toNat).2.1,.int .u8 (gtY l i.toNat).2.2]),(13,.fn (34:Nat) [] []),(14,.int .i64 i),(15,.agg [.bool (gtY l i.toNat).1,.int .i64 (gtY l i.toNat).2.1,.int .u8 (gtY l i.toNat).2.2]),(16,.bool (tcB i (gtY l i.toNat))),(17,.bool true),(18,.yl lp),(19,.int .i64 i),(20,.agg [.bool (gtY l i.toNat).1,.int .i64 (gtY l i.toNat).2.1,.int .u8 (gtY l i.toNat).2.2]),(21,.bool r),(22,.bool !r),(23,.bool (bif true then !r else false))],blk:=[(5,.var [.bool (gtY l i.toNat).1,.int .i64 (gtY l i.toNat).2.1,.int .u8 (gtY l i.toNat).2.2]),(1099511627776,.var [.sl syS l]),(1099511627777,.var [.fn (34:Nat) [] []])] }) (R (hd Tryd.f57 0) (j+1,!r) { env:=[(0,.yl lp),(1,.ptr 1099511627776 0),(2,.ptr 1099511627777 0),(6,.sl syS l),(7,.int .i64 (l.length:Int)),(8,.int .i64 (i64.wrap (i+1)))],blk:=[(1099511627776,.var [.sl syS l]),(1099511627777,.var [.fn (34:Nat) [] []])] })) (false=false /\
 R (hd Tryd.f57 0) (j,q) { env:=[(0,.yl lp),(1,.ptr 1099511627776 0),(2,.ptr 1099511627777 0),(6,.sl syS l),(7,.int .i64 (l.length:Int)),(8,.int .i64 (i64.wrap (i+1)))],blk:=[(1099511627776,.var [.sl syS l]),(1099511627777,.var [.fn (34:Nat) [] []])] })) (Q AExit.normal (j,q) { env:=[(0,.yl lp),(1,.ptr 1099511627776 0),(2,.ptr 1099511627777 0),(6,.sl syS l),(7,.int .i64 (l.length:Int)),(8,.int .i64 i),(9,.bool (decide (i<(l.length:Int))))],blk:=[(1099511627776,.var [.sl syS l]),(1099511627777,.var [.fn (34:Nat) [] []])] })):=by kernel_rfl
theorem q7w (l b:List SyT) (lp:Nat) (ys:List (DL ySy)) (Q:AExit->Nat × Bool->PS->Prop) (R:List Item->Nat × Bool->PS->Prop):syE tt G0 CC1 Tryd.f57.ntmps ⟨lp,ySy,ys⟩ Q R .fn 1000 [.code (qae Tryd.f57)] (0,false) (ql1 lp capC ((l,()),(((),((b,()),())),()),())) =
  (R (hd Tryd.f57 0) ((0:Nat),false) { env:=[(0,.yl lp),(1,.ptr 1099511627776 0),(2,.ptr 1099511627777 0),(6,.sl syS l),(7,.int .i64 (l.length:Int)),(8,.int .i64 0)],blk:=[(1099511627776,.var [.sl syS l]),(1099511627777,.var [.fn (56:Nat) [] [.ptr 1099511627778 0]]),(1099511627778,.var [.sl syS b])] }):=by kernel_rfl
theorem qub (l b:List SyT) (i:Int) (j:Nat) (q:Bool) (lp:Nat) (ys:List (DL ySy)) (Q:AExit->Nat × Bool->PS->Prop) (R:List Item->Nat × Bool->PS->Prop):syE tt G0 CC1 Tryd.f57.ntmps ⟨lp,ySy,ys⟩ Q (fun it g S=>R it g (qa4 [0,1,2,6,7,8] [BIG,BIG+1,BIG+2] S)) .fn 1000 (hd Tryd.f57 0) (j,q) (⟨[(0,.yl lp),(1,.ptr BIG 0),(2,.ptr (BIG+1) 0),(6,.sl syS l),(7,.int .i64 (l.length:Nat)),(8,.int .i64 i)],[(BIG,.var [.sl syS l]),(BIG+1,.var [.fn 56 [] [.ptr (BIG+2) 0]]),(BIG+2,.var [.sl syS b])]⟩) =
  (bc (decide (i<(l.length:Int))) ((0:Int)<=i /\
 i<(l.length:Int) /\
 ctC1.pre (i,(gtY l i.toNat),(b,()),()) /\
 bc (clB b i (gtY l i.toNat)) (lp=(Yp.mk lp ySy ys).l /\
 q=false /\
 (Yp.mk lp ySy ys).ys[j]?=some (i,(gtY l i.toNat),()) /\
 ∀ (r:Bool),bc (bif true then !r else false) (Q AExit.ret (j+1,!r) { env:=[(0,.yl lp),(1,.ptr 1099511627776 0),(2,.ptr 1099511627777 0),(4,.int .i64 i),(5,.ptr 5 0),(6,.sl syS l),(7,.int .i64 (l.length:Int)),(8,.int .i64 i),(9,.bool (decide (i<(l.length:Int)))),(10,.int .i64 i),(11,.elv syS (gtY l i.toNat)),(12,.agg [.bool (gtY l i.toNat).1,.int .i64 (gtY l i.toNat).2.1,.int .u8 (gtY l i.toNat).2.2]),(13,.fn (56:Nat) [] [.ptr 1099511627778 0]),(14,.int .i64 i),(15,.agg [.bool (gtY l i.toNat).1,.int .i64 (gtY l i.toNat).2.1,.int .u8 (gtY l i.toNat).2.2]),(16,.bool (clB b i (gtY l i.toNat))),(17,.bool true),(18,.yl lp),(19,.int .i64 i),(20,.agg [.bool (gtY l i.toNat).1,.int .i64 (gtY l i.toNat).2.1,.int .u8 (gtY l i.toNat).2.2]),(21,.bool r),(22,.bool !r),(23,.bool (bif true then !r else false))],blk:=[(5,.var [.bool (gtY l i.toNat).1,.int .i64 (gtY l i.toNat).2.1,.int .u8 (gtY l i.toNat).2.2]),(1099511627776,.var [.sl syS l]),(1099511627777,.var [.fn (56:Nat) [] [.ptr 1099511627778 0]]),(1099511627778,.var [.sl syS b])] }) (R (hd Tryd.f57 0) (j+1,!r) { env:=[(0,.yl lp),(1,.ptr 1099511627776 0),(2,.ptr 1099511627777 0),(6,.sl syS l),(7,.int .i64 (l.length:Int)),(8,.int .i64 (i64.wrap (i+1)))],blk:=[(1099511627776,.var [.sl syS l]),(1099511627777,.var [.fn (56:Nat) [] [.ptr 1099511627778 0]]),(1099511627778,.var [.sl syS b])] })) (false=false /\
 R (hd Tryd.f57 0) (j,q) { env:=[(0,.yl lp),(1,.ptr 1099511627776 0),(2,.ptr 1099511627777 0),(6,.sl syS l),(7,.int .i64 (l.length:Int)),(8,.int .i64 (i64.wrap (i+1)))],blk:=[(1099511627776,.var [.sl syS l]),(1099511627777,.var [.fn (56:Nat) [] [.ptr 1099511627778 0]]),(1099511627778,.var [.sl syS b])] })) (Q AExit.normal (j,q) { env:=[(0,.yl lp),(1,.ptr 1099511627776 0),(2,.ptr 1099511627777 0),(6,.sl syS l),(7,.int .i64 (l.length:Int)),(8,.int .i64 i),(9,.bool (decide (i<(l.length:Int))))],blk:=[(1099511627776,.var [.sl syS l]),(1099511627777,.var [.fn (56:Nat) [] [.ptr 1099511627778 0]]),(1099511627778,.var [.sl syS b])] })):=by kernel_rfl
theorem q7v (l:List Bool) (lp:Nat) (ys:List (DL yBo)) (Q:AExit->Nat × Bool->PS->Prop) (R:List Item->Nat × Bool->PS->Prop):syE tt G0 [(42,.inl ctR1)] Tryd.f61.ntmps ⟨lp,yBo,ys⟩ Q R .fn 1000 [.code (qae Tryd.f61)] (0,false) (ql1 lp capR ((l,()),(((),()),()),())) =
  (R (hd Tryd.f61 0) ((0:Nat),false) { env:=[(0,.yl lp),(1,.ptr 1099511627776 0),(2,.ptr 1099511627777 0),(6,.sl Sh.bool l),(7,.int .i64 (l.length:Int)),(8,.int .i64 0)],blk:=[(1099511627776,.var [.sl Sh.bool l]),(1099511627777,.var [.fn (42:Nat) [] []])] }):=by kernel_rfl
theorem qua (l:List Bool) (i:Int) (j:Nat) (q:Bool) (lp:Nat) (ys:List (DL yBo)) (Q:AExit->Nat × Bool->PS->Prop) (R:List Item->Nat × Bool->PS->Prop):syE tt G0 [(42,.inl ctR1)] Tryd.f61.ntmps ⟨lp,yBo,ys⟩ Q (fun it g S=>R it g (qa4 [0,1,2,6,7,8] [BIG,BIG+1] S)) .fn 1000 (hd Tryd.f61 0) (j,q) (⟨[(0,.yl lp),(1,.ptr BIG 0),(2,.ptr (BIG+1) 0),(6,.sl .bool l),(7,.int .i64 (l.length:Nat)),(8,.int .i64 i)],[(BIG,.var [.sl .bool l]),(BIG+1,.var [.fn 42 [] []])]⟩) =
  (bc (decide (i<(l.length:Int))) ((0:Int)<=i /\
 i<(l.length:Int) /\
 ctR1.pre (i,gt Sh.bool l i.toNat,()) /\
 bc (gt Sh.bool l i.toNat) (lp=(Yp.mk lp yBo ys).l /\
 q=false /\
 (Yp.mk lp yBo ys).ys[j]?=some (i,gt Sh.bool l i.toNat,()) /\
 ∀ (r:Bool),bc (bif true then !r else false) (Q AExit.ret (j+1,!r) { env:=[(0,.yl lp),(1,.ptr 1099511627776 0),(2,.ptr 1099511627777 0),(4,.int .i64 i),(5,.bool (gt Sh.bool l i.toNat)),(6,.sl Sh.bool l),(7,.int .i64 (l.length:Int)),(8,.int .i64 i),(9,.bool (decide (i<(l.length:Int)))),(10,.int .i64 i),(11,.elv Sh.bool (gt Sh.bool l i.toNat)),(12,.bool (gt Sh.bool l i.toNat)),(13,.fn (42:Nat) [] []),(14,.int .i64 i),(15,.bool (gt Sh.bool l i.toNat)),(16,.bool (gt Sh.bool l i.toNat)),(17,.bool true),(18,.yl lp),(19,.int .i64 i),(20,.bool (gt Sh.bool l i.toNat)),(21,.bool r),(22,.bool !r),(23,.bool (bif true then !r else false))],blk:=[(1099511627776,.var [.sl Sh.bool l]),(1099511627777,.var [.fn (42:Nat) [] []])] }) (R (hd Tryd.f61 0) (j+1,!r) { env:=[(0,.yl lp),(1,.ptr 1099511627776 0),(2,.ptr 1099511627777 0),(6,.sl Sh.bool l),(7,.int .i64 (l.length:Int)),(8,.int .i64 (i64.wrap (i+1)))],blk:=[(1099511627776,.var [.sl Sh.bool l]),(1099511627777,.var [.fn (42:Nat) [] []])] })) (false=false /\
 R (hd Tryd.f61 0) (j,q) { env:=[(0,.yl lp),(1,.ptr 1099511627776 0),(2,.ptr 1099511627777 0),(6,.sl Sh.bool l),(7,.int .i64 (l.length:Int)),(8,.int .i64 (i64.wrap (i+1)))],blk:=[(1099511627776,.var [.sl Sh.bool l]),(1099511627777,.var [.fn (42:Nat) [] []])] })) (Q AExit.normal (j,q) { env:=[(0,.yl lp),(1,.ptr 1099511627776 0),(2,.ptr 1099511627777 0),(6,.sl Sh.bool l),(7,.int .i64 (l.length:Int)),(8,.int .i64 i),(9,.bool (decide (i<(l.length:Int))))],blk:=[(1099511627776,.var [.sl Sh.bool l]),(1099511627777,.var [.fn (42:Nat) [] []])] })):=by kernel_rfl
attribute [local irreducible] Go.Px.sy Go.Px.syE
abbrev GE (f:Nat) (fn:Func) (Y:Yp) (K:AExit->Nat × Bool->PS->Prop) (it:List Item) (g:Nat × Bool) (S:PS):Prop:=Px.GoodE Tryd.prog G0 f fn.ntmps .fn Y K it g S
theorem qo6:Held Tryd.prog G0 34 ctTc:=by
 refine Held.run cx0 (fn:=Tryd.f34) rfl rfl ⟨by decide,by decide⟩ fun ⟨i,⟨f,a,b⟩,_⟩ _=>(q67 i f a b _ _).mpr (QC.flat ?_ rfl rfl)
 show [SV.bool (tcB i (f,a,b))]=_
 have e:decide ([Cl.cb f,Cl.ci i64 a,Cl.ci u8 b]=[Cl.cb true,Cl.ci i64 i,Cl.ci u8 (0:Int)])=decide ((f,a,b)=(true,i,(0:Int))):=decide_eq_decide.2 (by simp);rw[e];rfl
theorem q42:Held Tryd.prog G0 42 ctR1:=Held.run cx0 (fn:=Tryd.f42) rfl rfl ⟨by decide,by decide⟩ fun ⟨i,f,_⟩ _=>(q7i i f _ _).mpr (QC.flat rfl rfl rfl)
theorem qxb {i a c:Int} {f v:Bool} {b:List SyT} {w:LB} (h:clB b i (f,a,c)=v):QI ctC1 (i,(f,a,c),(b,()),()) [SV.bool v] [(4,w),(BIG,LB.var [SV.sl syS b])]:=by
 refine QI.self ?_ rfl rfl (fun p hp=>?_)
 ·show [SV.bool (clB b i (f,a,c))]=_;rw[h]
 ·have hp:p∈[(BIG,LB.var [SV.sl syS b])]:=hp;rw[List.mem_singleton] at hp;subst hp;rfl
theorem q6w:HeldI Tryd.prog G0 56 ctC1:=by
 refine HeldI.run (cx0.cons qo6 (fn:=Tryd.f34) rfl rfl rfl) (fn:=Tryd.f56) rfl rfl ⟨by decide,by decide⟩ fun ⟨i,⟨f,a,c⟩,⟨b,⟨⟩⟩,⟨⟩⟩ hp=>(q76 i f a c b _ _).mpr ⟨trivial,?_⟩
 have hp:q47 b i:=hp;obtain ⟨h0,h1⟩:=hp;have e:∀ s:SyT,decide ([Cl.cb f,Cl.ci i64 a,Cl.ci u8 c]=[Cl.cb s.1,Cl.ci i64 s.2.1,Cl.ci u8 s.2.2])=decide ((f,a,c)=(s.1,s.2.1,s.2.2)):=fun s=>decide_eq_decide.2 (by simp)
 refine qaf (fun k1=>⟨h0,h1,trivial,qaf (fun k2=>⟨h0,h1,?_⟩) (fun k2=>⟨rfl,?_⟩)⟩) (fun k1=>⟨rfl,rfl,?_⟩)
 ·have k2:tcB i (gtY b i.toNat)=true:=k2;have v:clB b i (f,a,c) = !decide ((f,a,c)=((gtY b i.toNat).1,(gtY b i.toNat).2.1,(gtY b i.toNat).2.2)):=by unfold clB;rw[k1,k2];rfl
  rw[e];exact qxb v
 ·have k2:tcB i (gtY b i.toNat)=false:=k2;exact qxb (by unfold clB;rw[k1,k2];simp)
 ·exact qxb (by unfold clB;rw[k1];simp)
theorem cC1:CxOK Tryd.prog tt G0 CC1:=cx0.consI q6w (fn:=Tryd.f56) rfl rfl rfl
def whF {α:Type} (p:Int->α->Bool):Nat->List α->List (Int × α)
 | _,[]=>[]
 | i,s::r=>match p i s with
  | true=>((i:Int),s)::whF p (i+1) r
  | false=>whF p (i+1) r
abbrev yS (x:Int × SyT):DL ySy:=(x.1,x.2,())
abbrev yB (x:Int × Bool):DL yBo:=(x.1,x.2,())
theorem qa3 {α:Type} {l:List α} {i:Nat} (h:i<l.length):l.drop i=l[i]::l.drop (i+1):=List.drop_eq_getElem_cons h
theorem q6c {l:List Bool} {i:Nat} (h:i<l.length):gt Sh.bool l i=l[i]:=gtE (e:=.bool) h
def preT (x:DI capT):Prop:=x.1.1.length<1000000
def preC (x:DI capC):Prop:=x.1.1.length<1000000/\x.1.1.length<=x.2.1.1.2.1.1.length
def preR (x:DI capR):Prop:=x.1.1.length<1000000
theorem cT1:CxOK Tryd.prog tt G0 [(34,.inl ctTc)]:=cx0.cons qo6 (fn:=Tryd.f34) rfl rfl rfl
theorem cR1:CxOK Tryd.prog tt G0 [(42,.inl ctR1)]:=cx0.cons q42 (fn:=Tryd.f42) rfl rfl rfl
theorem qzu (l:List SyT) (hl:l.length<1000000) (lp:Nat) (ys:List (DL ySy)):∀ (k i j:Nat),l.length-i=k->i<=l.length->j<=ys.length->ys.drop j=(whF tcB i (l.drop i)).map yS ->
  GE 57 Tryd.f57 ⟨lp,ySy,ys⟩ (endY ys.length) (hd Tryd.f57 0) (j,false) ⟨[(0,.yl lp),(1,.ptr BIG 0),(2,.ptr (BIG+1) 0),(6,.sl syS l),(7,.int .i64 (l.length:Nat)),(8,.int .i64 (i:Nat))],[(BIG,.var [.sl syS l]),(BIG+1,.var [.fn 34 [] []])]⟩:=by
 intro k
 induction k with
 | zero=>
  intro i j hk hi hj hd;have hi:i=l.length:=by omega
  subst hi;refine qh1 cT1 (qt9 l (l.length:Nat) j false lp ys _ _) ?_;rw[decide_eq_false (by omega),bc_f];rw[List.drop_length] at hd;have:=congrArg List.length hd;simp only[List.length_drop,whF,List.map_nil,List.length_nil] at this;exact .inr (by omega)
 | succ k ih=>
  intro i j hk hi hj hd;have hil:i<l.length:=by omega
  refine qh1 cT1 (qt9 l (i:Nat) j false lp ys _ _) ?_;rw[decide_eq_true (show (i:Int)<(l.length:Int) by omega),bc_t];simp only[Int.toNat_natCast];rw[wr2 i (by omega)];rw[qa3 hil,whF,<- qbn hil] at hd;refine ⟨by omega,by omega,trivial,qaf (fun h=>?_) (fun h=>⟨trivial,?_⟩)⟩
  ·have h:tcB i (gtY l i)=true:=h;rw[h] at hd;simp only[List.map_cons] at hd;have hil:j<ys.length:=by
    rcases Nat.lt_or_ge j ys.length with q | q
    ·exact q
    ·rw[List.drop_eq_nil_of_le q] at hd;cases hd
   have hget:ys[j]?=some ((i:Int),gtY l i,()):=by
    rw[qa3 hil] at hd;rw[List.getElem?_eq_getElem hil];exact congrArg some (List.cons.inj hd).1
   have hd2:=hd;rw[qa3 hil] at hd2;have hd2:=(List.cons.inj hd2).2;refine ⟨trivial,trivial,hget,fun r=>?_⟩
   cases r with
   | false=>exact qaf (fun _=>.inl rfl) (fun h=>by cases h)
   | true=>exact qaf (fun h=>by cases h) (fun _=>ih (i+1) (j+1) (by omega) (by omega) (by omega) hd2)
  ·have h:tcB i (gtY l i)=false:=h;rw[h] at hd;exact ih (i+1) j (by omega) (by omega) hj hd
def ctTY:CtrY:=⟨capT,fun x=>preT x,ySy,fun x=>(whF tcB 0 x.1.1).map yS⟩
theorem qjk:HeldY Tryd.prog G0 57 ctTY:=HeldY.of (fn:=Tryd.f57) rfl rfl rfl ⟨by decide,by decide⟩ fun ⟨⟨l,_⟩,_,_⟩ hp lp=>by
 have hp:l.length<1000000:=hp;exact qc7 cT1 (q7u l lp _ _ _) (qzu l hp lp _ _ 0 0 rfl (Nat.zero_le _) (Nat.zero_le _) rfl)
theorem qzx (l:List SyT) (b:List SyT) (hl:l.length<1000000) (hb:l.length<=b.length) (lp:Nat) (ys:List (DL ySy)):∀ (k i j:Nat),l.length-i=k->i<=l.length->j<=ys.length->ys.drop j=(whF (clB b) i (l.drop i)).map yS ->
  GE 57 Tryd.f57 ⟨lp,ySy,ys⟩ (endY ys.length) (hd Tryd.f57 0) (j,false) ⟨[(0,.yl lp),(1,.ptr BIG 0),(2,.ptr (BIG+1) 0),(6,.sl syS l),(7,.int .i64 (l.length:Nat)),(8,.int .i64 (i:Nat))],[(BIG,.var [.sl syS l]),(BIG+1,.var [.fn 56 [] [.ptr (BIG+2) 0]]),(BIG+2,.var [.sl syS b])]⟩:=by
 intro k
 induction k with
 | zero=>
  intro i j hk hi hj hd;have hi:i=l.length:=by omega
  subst hi;refine qh1 cC1 (qub l b (l.length:Nat) j false lp ys _ _) ?_;rw[decide_eq_false (by omega),bc_f];rw[List.drop_length] at hd;have:=congrArg List.length hd;simp only[List.length_drop,whF,List.map_nil,List.length_nil] at this;exact .inr (by omega)
 | succ k ih=>
  intro i j hk hi hj hd;have hil:i<l.length:=by omega
  refine qh1 cC1 (qub l b (i:Nat) j false lp ys _ _) ?_;rw[decide_eq_true (show (i:Int)<(l.length:Int) by omega),bc_t];simp only[Int.toNat_natCast];rw[wr2 i (by omega)];rw[qa3 hil,whF,<- qbn hil] at hd;refine ⟨by omega,by omega,(show q47 b (i:Nat) from ⟨by omega,by omega⟩),qaf (fun h=>?_) (fun h=>⟨trivial,?_⟩)⟩
  ·have h:clB b i (gtY l i)=true:=h;rw[h] at hd;simp only[List.map_cons] at hd;have hil:j<ys.length:=by
    rcases Nat.lt_or_ge j ys.length with q | q
    ·exact q
    ·rw[List.drop_eq_nil_of_le q] at hd;cases hd
   have hget:ys[j]?=some ((i:Int),gtY l i,()):=by
    rw[qa3 hil] at hd;rw[List.getElem?_eq_getElem hil];exact congrArg some (List.cons.inj hd).1
   have hd2:=hd;rw[qa3 hil] at hd2;have hd2:=(List.cons.inj hd2).2;refine ⟨trivial,trivial,hget,fun r=>?_⟩
   cases r with
   | false=>exact qaf (fun _=>.inl rfl) (fun h=>by cases h)
   | true=>exact qaf (fun h=>by cases h) (fun _=>ih (i+1) (j+1) (by omega) (by omega) (by omega) hd2)
  ·have h:clB b i (gtY l i)=false:=h;rw[h] at hd;exact ih (i+1) j (by omega) (by omega) hj hd
def ctCY:CtrY:=⟨capC,fun x=>preC x,ySy,fun x=>(whF (clB x.2.1.1.2.1.1) 0 x.1.1).map yS⟩
theorem qzy:HeldY Tryd.prog G0 57 ctCY:=HeldY.of (fn:=Tryd.f57) rfl rfl rfl ⟨by decide,by decide⟩ fun ⟨⟨l,_⟩,⟨⟨_,⟨⟨b,_⟩,_⟩⟩,_⟩,_⟩ hp lp=>by
 have hp:l.length<1000000/\l.length<=b.length:=hp;exact qc7 cC1 (q7w l b lp _ _ _) (qzx l b hp.1 hp.2 lp _ _ 0 0 rfl (Nat.zero_le _) (Nat.zero_le _) rfl)
theorem qzv (l:List Bool) (hl:l.length<1000000) (lp:Nat) (ys:List (DL yBo)):∀ (k i j:Nat),l.length-i=k->i<=l.length->j<=ys.length->ys.drop j=(whF (fun _ x=>x) i (l.drop i)).map yB ->
  GE 61 Tryd.f61 ⟨lp,yBo,ys⟩ (endY ys.length) (hd Tryd.f61 0) (j,false) ⟨[(0,.yl lp),(1,.ptr BIG 0),(2,.ptr (BIG+1) 0),(6,.sl .bool l),(7,.int .i64 (l.length:Nat)),(8,.int .i64 (i:Nat))],[(BIG,.var [.sl .bool l]),(BIG+1,.var [.fn 42 [] []])]⟩:=by
 intro k
 induction k with
 | zero=>
  intro i j hk hi hj hd;have hi:i=l.length:=by omega
  subst hi;refine qh1 cR1 (qua l (l.length:Nat) j false lp ys _ _) ?_;rw[decide_eq_false (by omega),bc_f];rw[List.drop_length] at hd;have:=congrArg List.length hd;simp only[List.length_drop,whF,List.map_nil,List.length_nil] at this;exact .inr (by omega)
 | succ k ih=>
  intro i j hk hi hj hd;have hil:i<l.length:=by omega
  refine qh1 cR1 (qua l (i:Nat) j false lp ys _ _) ?_;rw[decide_eq_true (show (i:Int)<(l.length:Int) by omega),bc_t];simp only[Int.toNat_natCast];rw[wr2 i (by omega)];rw[qa3 hil,whF,<- q6c hil] at hd;refine ⟨by omega,by omega,trivial,qaf (fun h=>?_) (fun h=>⟨trivial,?_⟩)⟩
  ·have h:gt Sh.bool l i=true:=h;rw[h] at hd;simp only[List.map_cons] at hd;have hil:j<ys.length:=by
    rcases Nat.lt_or_ge j ys.length with q | q
    ·exact q
    ·rw[List.drop_eq_nil_of_le q] at hd;cases hd
   have hget:ys[j]?=some ((i:Int),true,()):=by
    rw[qa3 hil] at hd;rw[List.getElem?_eq_getElem hil];exact congrArg some (List.cons.inj hd).1
   have hd2:=hd;rw[qa3 hil] at hd2;have hd2:=(List.cons.inj hd2).2;refine ⟨trivial,trivial,(by rw[h];exact hget),fun r=>?_⟩
   cases r with
   | false=>exact qaf (fun _=>.inl rfl) (fun h=>by cases h)
   | true=>exact qaf (fun h=>by cases h) (fun _=>ih (i+1) (j+1) (by omega) (by omega) (by omega) hd2)
  ·have h:gt Sh.bool l i=false:=h;rw[h] at hd;exact ih (i+1) j (by omega) (by omega) hj hd
def ctRY:CtrY:=⟨capR,fun x=>preR x,yBo,fun x=>(whF (fun _ x=>x) 0 x.1.1).map yB⟩
theorem qzw:HeldY Tryd.prog G0 61 ctRY:=HeldY.of (fn:=Tryd.f61) rfl rfl rfl ⟨by decide,by decide⟩ fun ⟨⟨l,_⟩,_,_⟩ hp lp=>by
 have hp:l.length<1000000:=hp;exact qc7 cR1 (q7v l lp _ _ _) (qzv l hp lp _ _ 0 0 rfl (Nat.zero_le _) (Nat.zero_le _) rfl)
theorem qa6 {π:Nat->Option Nat}:MtL π [] []:=by simp only[MtL]
theorem qa9 {π:Nat->Option Nat} {s t:SV} {l r:List SV} (h1:Mt π s t) (h2:MtL π l r):MtL π (s::l) (t::r):=by simp only[MtL];exact ⟨t,r,rfl,h1,h2⟩
theorem qkc {π:Nat->Option Nat} {i j o:Nat} (h:π i=some j):Mt π (.ptr i o) (.ptr j o):=by simp only[Mt];exact ⟨j,rfl,h⟩
theorem qs3 {π:Nat->Option Nat} {f:Nat} {a a' c c':List SV} (h1:MtL π a a') (h2:MtL π c c'):Mt π (.fn f a c) (.fn f a' c'):=by simp only[Mt];exact ⟨a',c',rfl,h1,h2⟩
def ctWhT:CtrI:=⟨[.dat slY,fT],fun _=>True,fun _=>[.fn 57 [] [.ptr 0 0,.ptr 1 0]],fun x=>[(0,.var [.sl syS x.1]),(1,.var [.fn 34 [] []])]⟩
def ctWhC:CtrI:=⟨[.dat slY,fC],fun _=>True,fun _=>[.fn 57 [] [.ptr 0 0,.ptr 1 0]],fun x=>[(0,.var [.sl syS x.1]),(1,.var [.fn 56 [] [.ptr BIG 0]]),(BIG,.var [.sl syS x.2.1.2.1.1])]⟩
def ctWhR:CtrI:=⟨[.dat (.sl .bool),fR],fun _=>True,fun _=>[.fn 61 [] [.ptr 0 0,.ptr 1 0]],fun x=>[(0,.var [.sl .bool x.1]),(1,.var [.fn 42 [] []])]⟩
abbrev KG:List AK:=[.ptr [.row 69 rgS]]
abbrev iT:AK:=.fn 57 [] capT
abbrev iC:AK:=.fn 57 [] capC
abbrev iR:AK:=.fn 61 [] capR
set_option maxRecDepth 100000
theorem q7e (l:List SyT) (Q:QT) (R:RT):sy tt G0 [] Tryd.f41.ntmps Tryd.f41.results.toList Q R 1000 [.code (qae Tryd.f41)] (qbj [iT] (((),(l,()),(((),()),()),()),())) =
  (R (hd Tryd.f41 0) { env:=[(0,.fn (57:Nat) [] [.ptr (1099511627776:Nat) 0,.ptr 1099511627777 0]),(2,.nils),(3,.ptr 3 0),(6,.fn (57:Nat) [] [.ptr (1099511627776:Nat) 0,.ptr 1099511627777 0])],blk:=[(3,.var [.nils]),(1099511627776,.var [.sl syS l]),(1099511627777,.var [.fn (34:Nat) [] []])] }):=by kernel_rfl
theorem q7g (l b:List SyT) (Q:QT) (R:RT):sy tt G0 [] Tryd.f41.ntmps Tryd.f41.results.toList Q R 1000 [.code (qae Tryd.f41)] (qbj [iC] (((),(l,()),(((),((b,()),())),()),()),())) =
  (R (hd Tryd.f41 0) { env:=[(0,.fn (57:Nat) [] [.ptr (1099511627776:Nat) 0,.ptr 1099511627777 0]),(2,.nils),(3,.ptr 3 0),(6,.fn (57:Nat) [] [.ptr (1099511627776:Nat) 0,.ptr 1099511627777 0])],blk:=[(3,.var [.nils]),(1099511627776,.var [.sl syS l]),(1099511627777,.var [.fn (56:Nat) [] [.ptr 1099511627778 0]]),(1099511627778,.var [.sl syS b])] }):=by kernel_rfl
theorem q7f (l:List Bool) (Q:QT) (R:RT):sy tt G0 [] Tryd.f43.ntmps Tryd.f43.results.toList Q R 1000 [.code (qae Tryd.f43)] (qbj [iR] (((),(l,()),(((),()),()),()),())) =
  (R (hd Tryd.f43 0) { env:=[(0,.fn (61:Nat) [] [.ptr (1099511627776:Nat) 0,.ptr 1099511627777 0]),(2,.nils),(3,.ptr 3 0),(6,.fn (61:Nat) [] [.ptr (1099511627776:Nat) 0,.ptr 1099511627777 0])],blk:=[(3,.var [.nils]),(1099511627776,.var [.sl Sh.bool l]),(1099511627777,.var [.fn (42:Nat) [] []])] }):=by kernel_rfl
theorem q28 (o:List (Int × Int)) (i:Int) (s:SyT) (j:Nat) (q:Bool) (Q:AExit->Nat × Bool->PS->Prop) (R:List Item->Nat × Bool->PS->Prop):syE tt G0 [] Tryd.f41.ntmps Y0 Q R .ready 1000 (rnd Tryd.f41 0) (j,q) (qdt [3] [7,8] KG ySy ((o,()),()) (i,s,())) =
  (bc (decide ((0:Int)<(o.length:Int))) ((0:Int)<=i64.wrap ((o.length:Int)-1) /\
 i64.wrap ((o.length:Int)-1)<(o.length:Int) /\
 0+(i64.wrap ((o.length:Int)-1)).toNat<o.length /\
 bc (decide ((gtR o (0+(i64.wrap ((o.length:Int)-1)).toNat)).2=i)) ((0:Int)<=i64.wrap ((o.length:Int)-1) /\
 i64.wrap ((o.length:Int)-1)<(o.length:Int) /\
 0+(i64.wrap ((o.length:Int)-1)).toNat<o.length /\
 (0:Int)<=i64.wrap ((o.length:Int)-1) /\
 i64.wrap ((o.length:Int)-1)<(o.length:Int) /\
 0+(i64.wrap ((o.length:Int)-1)).toNat<o.length /\
 Q AExit.normal (j,q) { env:=[(4,.int .i64 i),(5,.int .i64 (o.length:Int)),(7,.int .i64 i),(8,.agg [.bool s.1,.int .i64 s.2.1,.int .u8 s.2.2]),(3,.ptr 1099511627776 0),(9,.win true rgS 1099511627777 0 o.length),(10,.int .i64 (o.length:Int)),(11,.int .i64 (o.length:Int)),(12,.bool (decide ((0:Int)<(o.length:Int)))),(13,.bool true),(14,.win true rgS 1099511627777 0 o.length),(15,.int .i64 (o.length:Int)),(16,.int .i64 (i64.wrap ((o.length:Int)-1))),(17,.elp rgS (1099511627777:Nat) (0+(i64.wrap ((o.length:Int)-1)).toNat) (0:Nat)),(18,.elp rgS (1099511627777:Nat) (0+(i64.wrap ((o.length:Int)-1)).toNat) (1:Nat)),(19,.int .i64 (gtR o (0+(i64.wrap ((o.length:Int)-1)).toNat)).2),(20,.int .i64 i),(21,.bool (decide ((gtR o (0+(i64.wrap ((o.length:Int)-1)).toNat)).2=i))),(22,.bool (decide ((gtR o (0+(i64.wrap ((o.length:Int)-1)).toNat)).2=i))),(23,.win true rgS 1099511627777 0 o.length),(24,.int .i64 (o.length:Int)),(25,.int .i64 (i64.wrap ((o.length:Int)-1))),(26,.elp rgS (1099511627777:Nat) (0+(i64.wrap ((o.length:Int)-1)).toNat) (0:Nat)),(27,.elp rgS (1099511627777:Nat) (0+(i64.wrap ((o.length:Int)-1)).toNat) (1:Nat)),(28,.int .i64 (gtR o (0+(i64.wrap ((o.length:Int)-1)).toNat)).2),(29,.int .i64 (i64.wrap ((gtR o (0+(i64.wrap ((o.length:Int)-1)).toNat)).2+1))),(30,.elp rgS (1099511627777:Nat) (0+(i64.wrap ((o.length:Int)-1)).toNat) (0:Nat)),(31,.elp rgS (1099511627777:Nat) (0+(i64.wrap ((o.length:Int)-1)).toNat) (1:Nat))],blk:=[(1099511627776,.var [.win true rgS 1099511627777 0 o.length]),(1099511627777,.row 69 rgS (o.set (0+(i64.wrap ((o.length:Int)-1)).toNat) ((gtR o (0+(i64.wrap ((o.length:Int)-1)).toNat)).1,i64.wrap ((gtR o (0+(i64.wrap ((o.length:Int)-1)).toNat)).2+1))))] }) (0+1<=([(i,i64.wrap (i+1))]:List rgS.D).length /\
 o.length=o.length /\
 (0:Nat)=(0:Nat) /\
 o.length+(([(i,i64.wrap (i+1))]:List rgS.D)).length<2 ^ 30 /\
 (16:Nat)<=2 ^ 10 /\
 Q AExit.normal (j,q) { env:=[(4,.int .i64 i),(5,.int .i64 (o.length:Int)),(7,.int .i64 i),(8,.agg [.bool s.1,.int .i64 s.2.1,.int .u8 s.2.2]),(3,.ptr 1099511627776 0),(9,.dead),(10,.int .i64 (o.length:Int)),(11,.int .i64 (o.length:Int)),(12,.bool (decide ((0:Int)<(o.length:Int)))),(13,.bool true),(14,.dead),(15,.int .i64 (o.length:Int)),(16,.int .i64 (i64.wrap ((o.length:Int)-1))),(17,.dead),(18,.dead),(19,.int .i64 (gtR o (0+(i64.wrap ((o.length:Int)-1)).toNat)).2),(20,.int .i64 i),(21,.bool (decide ((gtR o (0+(i64.wrap ((o.length:Int)-1)).toNat)).2=i))),(22,.bool (decide ((gtR o (0+(i64.wrap ((o.length:Int)-1)).toNat)).2=i))),(32,.dead),(33,.int .i64 i),(34,.int .i64 i),(35,.int .i64 (i64.wrap (i+1))),(36,.agg [.int .i64 i,.int .i64 (i64.wrap (i+1))]),(37,.win true rgS 37 0 (1:Nat)),(38,.win true rgS 38 0 (o.length+(([(i,i64.wrap (i+1))]:List rgS.D)).length))],blk:=[(37,.row 69 rgS ([(i,i64.wrap (i+1))]:List rgS.D)),(38,.row 69 rgS (o++([(i,i64.wrap (i+1))]:List rgS.D))),(1099511627776,.var [.win true rgS 38 0 (o.length+(([(i,i64.wrap (i+1))]:List rgS.D)).length)])] })) (false=false /\
 0+1<=([(i,i64.wrap (i+1))]:List rgS.D).length /\
 o.length=o.length /\
 (0:Nat)=(0:Nat) /\
 o.length+(([(i,i64.wrap (i+1))]:List rgS.D)).length<2 ^ 30 /\
 (16:Nat)<=2 ^ 10 /\
 Q AExit.normal (j,q) { env:=[(4,.int .i64 i),(5,.int .i64 (o.length:Int)),(7,.int .i64 i),(8,.agg [.bool s.1,.int .i64 s.2.1,.int .u8 s.2.2]),(3,.ptr 1099511627776 0),(9,.dead),(10,.int .i64 (o.length:Int)),(11,.int .i64 (o.length:Int)),(12,.bool (decide ((0:Int)<(o.length:Int)))),(13,.bool false),(14,SV.tup []),(15,SV.tup []),(16,SV.tup []),(17,SV.tup []),(18,SV.tup []),(19,SV.tup []),(20,SV.tup []),(21,SV.tup []),(22,.bool false),(32,.dead),(33,.int .i64 i),(34,.int .i64 i),(35,.int .i64 (i64.wrap (i+1))),(36,.agg [.int .i64 i,.int .i64 (i64.wrap (i+1))]),(37,.win true rgS 37 0 (1:Nat)),(38,.win true rgS 38 0 (o.length+(([(i,i64.wrap (i+1))]:List rgS.D)).length))],blk:=[(37,.row 69 rgS ([(i,i64.wrap (i+1))]:List rgS.D)),(38,.row 69 rgS (o++([(i,i64.wrap (i+1))]:List rgS.D))),(1099511627776,.var [.win true rgS 38 0 (o.length+(([(i,i64.wrap (i+1))]:List rgS.D)).length)])] })):=by kernel_rfl
theorem q3a (o:List (Int × Int)) (i:Int) (s:Bool) (j:Nat) (q:Bool) (Q:AExit->Nat × Bool->PS->Prop) (R:List Item->Nat × Bool->PS->Prop):syE tt G0 [] Tryd.f43.ntmps Y0 Q R .ready 1000 (rnd Tryd.f43 0) (j,q) (qdt [3] [7,8] KG yBo ((o,()),()) (i,s,())) =
  (bc (decide ((0:Int)<(o.length:Int))) ((0:Int)<=i64.wrap ((o.length:Int)-1) /\
 i64.wrap ((o.length:Int)-1)<(o.length:Int) /\
 0+(i64.wrap ((o.length:Int)-1)).toNat<o.length /\
 bc (decide ((gtR o (0+(i64.wrap ((o.length:Int)-1)).toNat)).2=i)) ((0:Int)<=i64.wrap ((o.length:Int)-1) /\
 i64.wrap ((o.length:Int)-1)<(o.length:Int) /\
 0+(i64.wrap ((o.length:Int)-1)).toNat<o.length /\
 (0:Int)<=i64.wrap ((o.length:Int)-1) /\
 i64.wrap ((o.length:Int)-1)<(o.length:Int) /\
 0+(i64.wrap ((o.length:Int)-1)).toNat<o.length /\
 Q AExit.normal (j,q) { env:=[(4,.int .i64 i),(5,.int .i64 (o.length:Int)),(7,.int .i64 i),(8,.bool s),(3,.ptr 1099511627776 0),(9,.win true rgS 1099511627777 0 o.length),(10,.int .i64 (o.length:Int)),(11,.int .i64 (o.length:Int)),(12,.bool (decide ((0:Int)<(o.length:Int)))),(13,.bool true),(14,.win true rgS 1099511627777 0 o.length),(15,.int .i64 (o.length:Int)),(16,.int .i64 (i64.wrap ((o.length:Int)-1))),(17,.elp rgS (1099511627777:Nat) (0+(i64.wrap ((o.length:Int)-1)).toNat) (0:Nat)),(18,.elp rgS (1099511627777:Nat) (0+(i64.wrap ((o.length:Int)-1)).toNat) (1:Nat)),(19,.int .i64 (gtR o (0+(i64.wrap ((o.length:Int)-1)).toNat)).2),(20,.int .i64 i),(21,.bool (decide ((gtR o (0+(i64.wrap ((o.length:Int)-1)).toNat)).2=i))),(22,.bool (decide ((gtR o (0+(i64.wrap ((o.length:Int)-1)).toNat)).2=i))),(23,.win true rgS 1099511627777 0 o.length),(24,.int .i64 (o.length:Int)),(25,.int .i64 (i64.wrap ((o.length:Int)-1))),(26,.elp rgS (1099511627777:Nat) (0+(i64.wrap ((o.length:Int)-1)).toNat) (0:Nat)),(27,.elp rgS (1099511627777:Nat) (0+(i64.wrap ((o.length:Int)-1)).toNat) (1:Nat)),(28,.int .i64 (gtR o (0+(i64.wrap ((o.length:Int)-1)).toNat)).2),(29,.int .i64 (i64.wrap ((gtR o (0+(i64.wrap ((o.length:Int)-1)).toNat)).2+1))),(30,.elp rgS (1099511627777:Nat) (0+(i64.wrap ((o.length:Int)-1)).toNat) (0:Nat)),(31,.elp rgS (1099511627777:Nat) (0+(i64.wrap ((o.length:Int)-1)).toNat) (1:Nat))],blk:=[(1099511627776,.var [.win true rgS 1099511627777 0 o.length]),(1099511627777,.row 69 rgS (o.set (0+(i64.wrap ((o.length:Int)-1)).toNat) ((gtR o (0+(i64.wrap ((o.length:Int)-1)).toNat)).1,i64.wrap ((gtR o (0+(i64.wrap ((o.length:Int)-1)).toNat)).2+1))))] }) (0+1<=([(i,i64.wrap (i+1))]:List rgS.D).length /\
 o.length=o.length /\
 (0:Nat)=(0:Nat) /\
 o.length+(([(i,i64.wrap (i+1))]:List rgS.D)).length<2 ^ 30 /\
 (16:Nat)<=2 ^ 10 /\
 Q AExit.normal (j,q) { env:=[(4,.int .i64 i),(5,.int .i64 (o.length:Int)),(7,.int .i64 i),(8,.bool s),(3,.ptr 1099511627776 0),(9,.dead),(10,.int .i64 (o.length:Int)),(11,.int .i64 (o.length:Int)),(12,.bool (decide ((0:Int)<(o.length:Int)))),(13,.bool true),(14,.dead),(15,.int .i64 (o.length:Int)),(16,.int .i64 (i64.wrap ((o.length:Int)-1))),(17,.dead),(18,.dead),(19,.int .i64 (gtR o (0+(i64.wrap ((o.length:Int)-1)).toNat)).2),(20,.int .i64 i),(21,.bool (decide ((gtR o (0+(i64.wrap ((o.length:Int)-1)).toNat)).2=i))),(22,.bool (decide ((gtR o (0+(i64.wrap ((o.length:Int)-1)).toNat)).2=i))),(32,.dead),(33,.int .i64 i),(34,.int .i64 i),(35,.int .i64 (i64.wrap (i+1))),(36,.agg [.int .i64 i,.int .i64 (i64.wrap (i+1))]),(37,.win true rgS 37 0 (1:Nat)),(38,.win true rgS 38 0 (o.length+(([(i,i64.wrap (i+1))]:List rgS.D)).length))],blk:=[(37,.row 69 rgS ([(i,i64.wrap (i+1))]:List rgS.D)),(38,.row 69 rgS (o++([(i,i64.wrap (i+1))]:List rgS.D))),(1099511627776,.var [.win true rgS 38 0 (o.length+(([(i,i64.wrap (i+1))]:List rgS.D)).length)])] })) (false=false /\
 0+1<=([(i,i64.wrap (i+1))]:List rgS.D).length /\
 o.length=o.length /\
 (0:Nat)=(0:Nat) /\
 o.length+(([(i,i64.wrap (i+1))]:List rgS.D)).length<2 ^ 30 /\
 (16:Nat)<=2 ^ 10 /\
 Q AExit.normal (j,q) { env:=[(4,.int .i64 i),(5,.int .i64 (o.length:Int)),(7,.int .i64 i),(8,.bool s),(3,.ptr 1099511627776 0),(9,.dead),(10,.int .i64 (o.length:Int)),(11,.int .i64 (o.length:Int)),(12,.bool (decide ((0:Int)<(o.length:Int)))),(13,.bool false),(14,SV.tup []),(15,SV.tup []),(16,SV.tup []),(17,SV.tup []),(18,SV.tup []),(19,SV.tup []),(20,SV.tup []),(21,SV.tup []),(22,.bool false),(32,.dead),(33,.int .i64 i),(34,.int .i64 i),(35,.int .i64 (i64.wrap (i+1))),(36,.agg [.int .i64 i,.int .i64 (i64.wrap (i+1))]),(37,.win true rgS 37 0 (1:Nat)),(38,.win true rgS 38 0 (o.length+(([(i,i64.wrap (i+1))]:List rgS.D)).length))],blk:=[(37,.row 69 rgS ([(i,i64.wrap (i+1))]:List rgS.D)),(38,.row 69 rgS (o++([(i,i64.wrap (i+1))]:List rgS.D))),(1099511627776,.var [.win true rgS 38 0 (o.length+(([(i,i64.wrap (i+1))]:List rgS.D)).length)])] })):=by kernel_rfl
theorem qt5 (o:List (Int × Int)) (j:Nat) (q:Bool) (Q:AExit->Nat × Bool->PS->Prop) (R:List Item->Nat × Bool->PS->Prop):syE tt G0 [] Tryd.f41.ntmps Y0 Q R .fn 1000 (rfK Tryd.f41 0) (j,q) (⟨[(3,.ptr 3 0)],[(3,.var [.win true rgS 1086016 0 o.length]),(1086016,.row 69 rgS o)]⟩) =
  (Q AExit.ret (j,q) { env:=[(2,.win true rgS 1086016 0 o.length),(3,.ptr 3 0),(39,.win true rgS 1086016 0 o.length)],blk:=[(3,.var [.win true rgS 1086016 0 o.length]),(1086016,.row 69 rgS o)] }):=by kernel_rfl
theorem q29 (o:List (Int × Int)) (j:Nat) (q:Bool) (Q:AExit->Nat × Bool->PS->Prop) (R:List Item->Nat × Bool->PS->Prop):syE tt G0 [] Tryd.f43.ntmps Y0 Q R .fn 1000 (rfK Tryd.f43 0) (j,q) (⟨[(3,.ptr 3 0)],[(3,.var [.win true rgS 1086016 0 o.length]),(1086016,.row 69 rgS o)]⟩) =
  (Q AExit.ret (j,q) { env:=[(2,.win true rgS 1086016 0 o.length),(3,.ptr 3 0),(39,.win true rgS 1086016 0 o.length)],blk:=[(3,.var [.win true rgS 1086016 0 o.length]),(1086016,.row 69 rgS o)] }):=by kernel_rfl
theorem qxp:HeldI Tryd.prog G0 33 ctWhT:=HeldI.run cx0 (fn:=Tryd.f33) rfl rfl ⟨by decide,by decide⟩ fun ⟨l,_,_⟩ _=>by
 refine (q62 l _ _).mpr ⟨[(0,2),(1,3)],?_,?_,by decide,fun p hp=>?_⟩
 rotate_left 2
 ·simp only[List.mem_cons,List.not_mem_nil,or_false] at hp;rcases hp with rfl | rfl <;> decide
 all_goals
  have p0:piOf [(0,2),(1,3)] 0=some 2:=by decide
  have p1:piOf [(0,2),(1,3)] 1=some 3:=by decide
 ·exact qa9 (qs3 qa6 (qa9 (qkc p0) (qa9 (qkc p1) qa6))) qa6
 ·exact ⟨.inl ⟨2,_,p0,rfl,_,rfl,qdr _ _ rfl⟩,.inl ⟨3,_,p1,rfl,_,rfl,qa9 (qs3 qa6 qa6) qa6⟩,trivial⟩
theorem qxr:HeldI Tryd.prog G0 33 ctWhC:=HeldI.run cx0 (fn:=Tryd.f33) rfl rfl ⟨by decide,by decide⟩ fun ⟨l,⟨_,⟨b,_⟩,_⟩,_⟩ _=>by
 refine (q64 l b _ _).mpr ⟨[(0,2),(1,3)],?_,?_,by decide,fun p hp=>?_⟩
 rotate_left 2
 ·simp only[List.mem_cons,List.not_mem_nil,or_false] at hp;rcases hp with rfl | rfl <;> decide
 all_goals
  have p0:piOf [(0,2),(1,3)] 0=some 2:=by decide
  have p1:piOf [(0,2),(1,3)] 1=some 3:=by decide
  have p2:piOf [(0,2),(1,3)] BIG=some BIG:=by decide
 ·exact qa9 (qs3 qa6 (qa9 (qkc p0) (qa9 (qkc p1) qa6))) qa6
 ·exact ⟨.inl ⟨2,_,p0,rfl,_,rfl,qdr _ _ rfl⟩,.inl ⟨3,_,p1,rfl,_,rfl,qa9 (qs3 qa6 (qa9 (qkc p2) qa6)) qa6⟩,.inl ⟨BIG,_,p2,rfl,_,rfl,qdr _ _ rfl⟩,trivial⟩
theorem qxq:HeldI Tryd.prog G0 44 ctWhR:=HeldI.run cx0 (fn:=Tryd.f44) rfl rfl ⟨by decide,by decide⟩ fun ⟨l,_,_⟩ _=>by
 refine (q63 l _ _).mpr ⟨[(0,2),(1,3)],?_,?_,by decide,fun p hp=>?_⟩
 rotate_left 2
 ·simp only[List.mem_cons,List.not_mem_nil,or_false] at hp;rcases hp with rfl | rfl <;> decide
 all_goals
  have p0:piOf [(0,2),(1,3)] 0=some 2:=by decide
  have p1:piOf [(0,2),(1,3)] 1=some 3:=by decide
 ·exact qa9 (qs3 qa6 (qa9 (qkc p0) (qa9 (qkc p1) qa6))) qa6
 ·exact ⟨.inl ⟨2,_,p0,rfl,_,rfl,qdr _ _ rfl⟩,.inl ⟨3,_,p1,rfl,_,rfl,qa9 (qs3 qa6 qa6) qa6⟩,trivial⟩
def rngS (o:List (Int × Int)) (i:Int):List (Int × Int):=match decide (0<o.length/\(gtR o (o.length-1)).2=i) with
 | true=>o.set (o.length-1) ((gtR o (o.length-1)).1,i+1)
 | false=>o++[(i,i+1)]
def rngF:List Int->List (Int × Int)->List (Int × Int)
 | [],o=>o
 | i::r,o=>rngF r (rngS o i)
theorem qq1 (o:List (Int × Int)) (i:Int):(rngS o i).length<=o.length+1:=by
 unfold rngS;split
 ·rw[List.length_set];omega
 ·rw[List.length_append];exact Nat.le_refl _
theorem qgh {α:Type} {p:Int->α->Bool}:∀ (l:List α) (i:Nat),∀ x∈whF p i l,(i:Int)<=x.1/\x.1<i+l.length
 | [],i,x,h=>by simp[whF] at h
 | s::r,i,x,h=>by
  have go:x∈whF p (i+1) r->(i:Int)<=x.1/\x.1<i+(s::r).length:=fun h=>by
   have:=qgh r (i+1) x h;rw[List.length_cons];omega
  rw[whF] at h;split at h
  ·rcases List.mem_cons.1 h with rfl | h
   ·rw[List.length_cons];simp only;omega
   ·exact go h
  ·exact go h
theorem qmf {α:Type} {p:Int->α->Bool}:∀ (l:List α) (i:Nat),(whF p i l).length<=l.length
 | [],i=>Nat.le_refl _
 | s::r,i=>by
  have:=qmf (p:=p) r (i+1);rw[whF];split
  ·rw[List.length_cons,List.length_cons];omega
  ·rw[List.length_cons];omega
def bkG (x:DI KG):List (Nat × LB):=[(BIG,.var [.win true rgS 0 0 x.1.1.length]),(0,.row 69 rgS x.1.1)]
theorem hdSr:hd Tryd.f41 0=.code (.rangeFunc (.tmp 6) #[7,8] (rfA Tryd.f41 0) (rfB Tryd.f41 0))::rfK Tryd.f41 0:=by kernel_rfl
theorem rndSr:rnd Tryd.f41 0=[.code (rfA Tryd.f41 0),.beginRound,.code (rfB Tryd.f41 0)]:=by kernel_rfl
theorem qgl {QL:AExit->Nat × Bool->DI KG->Prop} {g:Nat × Bool}:∀ (rs:List (Int × SyT)) (o:List (Int × Int)),(∀ x∈rs,0<=x.1/\x.1<1000000)->o.length+rs.length<2 ^ 30->QL .normal g ((rngF (rs.map (·.1)) o,()),()) ->
  qll Tryd.prog G0 41 Tryd.f41.ntmps Y0 [3] [7,8] KG ySy (rfA Tryd.f41 0) (rfB Tryd.f41 0) QL (rs.map yS) g ((o,()),())
 | [],o,_,_,h=>h
 | (i,s)::rs,o,hb,hl,h=>by
  rw[List.length_cons] at hl;obtain ⟨hb0,hb1⟩:0<=i/\i<1000000:=hb (i,s) (by simp);have k:=qgl (QL:=QL) (g:=g) rs (rngS o i) (fun x hx=>hb x (by simp[hx])) (by have:=qq1 o i;omega) h
  show GoodE Tryd.prog G0 41 Tryd.f41.ntmps .ready Y0 _ [.code (rfA Tryd.f41 0),.beginRound,.code (rfB Tryd.f41 0)] g (qdt [3] [7,8] KG ySy ((o,()),()) (i,s,()))
  rw[<- rndSr];have e1:i64.wrap (i+1)=i+1:=IntWalk.i64_in _ (by omega);have new:rngS o i=o++[(i,i+1)]->0+1<=([(i,i64.wrap (i+(1:Int)))]:List rgS.D).length/\o.length=o.length/\(0:Nat)=0/\o.length+([(i,i64.wrap (i+(1:Int)))]:List rgS.D).length<2 ^ 30/\16<=2 ^ 10:=fun _=>⟨Nat.le_refl _,rfl,rfl,by simp only[List.length_singleton];omega,by decide⟩
  refine qc7 cx0 (q28 o i s g.1 g.2 _ _) (qaf (fun hp=>?_) (fun hp=>⟨rfl,?_⟩))
  ·have hp:=of_decide_eq_true hp;have e2:i64.wrap ((o.length:Int)-1)=((o.length-1:Nat):Int):=by rw[IntWalk.i64_in _ (by omega)];omega
   simp only[e2,Int.toNat_natCast,Nat.zero_add];refine ⟨by omega,by omega,by omega,qaf (fun hq=>?_) (fun hq=>?_)⟩
   ·have hq:=of_decide_eq_true hq;have e3:rngS o i=o.set (o.length-1) ((gtR o (o.length-1)).1,i+1):=by
     unfold rngS;rw[decide_eq_true ⟨by omega,hq⟩]
    rw[e3] at k;refine ⟨by omega,by omega,by omega,by omega,by omega,by omega,?_⟩;rw[hq,e1];exact ⟨[],((o.set (o.length-1) ((gtR o (o.length-1)).1,i+1),()),()),⟨⟨by show some (LB.var [SV.win true rgS (BIG+1) 0 o.length])=some (LB.var [SV.win true rgS (BIG+1) 0 (o.set _ _).length]);rw[List.length_set],rfl,trivial⟩,rfl,rfl⟩,k⟩
   ·have hq:=of_decide_eq_false hq;have e3:rngS o i=o++[(i,i+1)]:=by
     unfold rngS;rw[decide_eq_false fun h=>hq h.2]
    rw[e3] at k;rw[e1];refine ⟨Nat.le_refl _,trivial,trivial,(show o.length+1<2 ^ 30 by omega),by decide,?_⟩;exact ⟨[(BIG+1,38)],((o++[(i,i+1)],()),()),⟨⟨by show some (LB.var [SV.win true rgS 38 0 (o.length+1)])=some (LB.var [SV.win true rgS 38 0 (o++[(i,i+1)]).length]);rw[List.length_append,List.length_singleton],rfl,trivial⟩,rfl,rfl⟩,k⟩
  ·have hp:=of_decide_eq_false hp;have e3:rngS o i=o++[(i,i+1)]:=by
    unfold rngS;rw[decide_eq_false fun h=>hp (by omega)]
   rw[e3] at k;rw[e1];refine ⟨Nat.le_refl _,rfl,rfl,(show o.length+1<2 ^ 30 by omega),by decide,?_⟩;exact ⟨[(BIG+1,38)],((o++[(i,i+1)],()),()),⟨⟨by show some (LB.var [SV.win true rgS 38 0 (o.length+1)])=some (LB.var [SV.win true rgS 38 0 (o++[(i,i+1)]).length]);rw[List.length_append,List.length_singleton],rfl,trivial⟩,rfl,rfl⟩,k⟩
theorem hdBr:hd Tryd.f43 0=.code (.rangeFunc (.tmp 6) #[7,8] (rfA Tryd.f43 0) (rfB Tryd.f43 0))::rfK Tryd.f43 0:=by kernel_rfl
theorem rndBr:rnd Tryd.f43 0=[.code (rfA Tryd.f43 0),.beginRound,.code (rfB Tryd.f43 0)]:=by kernel_rfl
theorem qj2 {QL:AExit->Nat × Bool->DI KG->Prop} {g:Nat × Bool}:∀ (rs:List (Int × Bool)) (o:List (Int × Int)),(∀ x∈rs,0<=x.1/\x.1<1000000)->o.length+rs.length<2 ^ 30->QL .normal g ((rngF (rs.map (·.1)) o,()),()) ->
  qll Tryd.prog G0 43 Tryd.f43.ntmps Y0 [3] [7,8] KG yBo (rfA Tryd.f43 0) (rfB Tryd.f43 0) QL (rs.map yB) g ((o,()),())
 | [],o,_,_,h=>h
 | (i,s)::rs,o,hb,hl,h=>by
  rw[List.length_cons] at hl;obtain ⟨hb0,hb1⟩:0<=i/\i<1000000:=hb (i,s) (by simp);have k:=qj2 (QL:=QL) (g:=g) rs (rngS o i) (fun x hx=>hb x (by simp[hx])) (by have:=qq1 o i;omega) h
  show GoodE Tryd.prog G0 43 Tryd.f43.ntmps .ready Y0 _ [.code (rfA Tryd.f43 0),.beginRound,.code (rfB Tryd.f43 0)] g (qdt [3] [7,8] KG yBo ((o,()),()) (i,s,()))
  rw[<- rndBr];have e1:i64.wrap (i+1)=i+1:=IntWalk.i64_in _ (by omega);have new:rngS o i=o++[(i,i+1)]->0+1<=([(i,i64.wrap (i+(1:Int)))]:List rgS.D).length/\o.length=o.length/\(0:Nat)=0/\o.length+([(i,i64.wrap (i+(1:Int)))]:List rgS.D).length<2 ^ 30/\16<=2 ^ 10:=fun _=>⟨Nat.le_refl _,rfl,rfl,by simp only[List.length_singleton];omega,by decide⟩
  refine qc7 cx0 (q3a o i s g.1 g.2 _ _) (qaf (fun hp=>?_) (fun hp=>⟨rfl,?_⟩))
  ·have hp:=of_decide_eq_true hp;have e2:i64.wrap ((o.length:Int)-1)=((o.length-1:Nat):Int):=by rw[IntWalk.i64_in _ (by omega)];omega
   simp only[e2,Int.toNat_natCast,Nat.zero_add];refine ⟨by omega,by omega,by omega,qaf (fun hq=>?_) (fun hq=>?_)⟩
   ·have hq:=of_decide_eq_true hq;have e3:rngS o i=o.set (o.length-1) ((gtR o (o.length-1)).1,i+1):=by
     unfold rngS;rw[decide_eq_true ⟨by omega,hq⟩]
    rw[e3] at k;refine ⟨by omega,by omega,by omega,by omega,by omega,by omega,?_⟩;rw[hq,e1];exact ⟨[],((o.set (o.length-1) ((gtR o (o.length-1)).1,i+1),()),()),⟨⟨by show some (LB.var [SV.win true rgS (BIG+1) 0 o.length])=some (LB.var [SV.win true rgS (BIG+1) 0 (o.set _ _).length]);rw[List.length_set],rfl,trivial⟩,rfl,rfl⟩,k⟩
   ·have hq:=of_decide_eq_false hq;have e3:rngS o i=o++[(i,i+1)]:=by
     unfold rngS;rw[decide_eq_false fun h=>hq h.2]
    rw[e3] at k;rw[e1];refine ⟨Nat.le_refl _,trivial,trivial,(show o.length+1<2 ^ 30 by omega),by decide,?_⟩;exact ⟨[(BIG+1,38)],((o++[(i,i+1)],()),()),⟨⟨by show some (LB.var [SV.win true rgS 38 0 (o.length+1)])=some (LB.var [SV.win true rgS 38 0 (o++[(i,i+1)]).length]);rw[List.length_append,List.length_singleton],rfl,trivial⟩,rfl,rfl⟩,k⟩
  ·have hp:=of_decide_eq_false hp;have e3:rngS o i=o++[(i,i+1)]:=by
    unfold rngS;rw[decide_eq_false fun h=>hp (by omega)]
   rw[e3] at k;rw[e1];refine ⟨Nat.le_refl _,rfl,rfl,(show o.length+1<2 ^ 30 by omega),by decide,?_⟩;exact ⟨[(BIG+1,38)],((o++[(i,i+1)],()),()),⟨⟨by show some (LB.var [SV.win true rgS 38 0 (o.length+1)])=some (LB.var [SV.win true rgS 38 0 (o++[(i,i+1)]).length]);rw[List.length_append,List.length_singleton],rfl,trivial⟩,rfl,rfl⟩,k⟩
def rgTV (l:List SyT):List (Int × Int):=rngF ((whF tcB 0 l).map (·.1)) []
def ctRgT:CtrI:=⟨[iT],fun x=>preT x.1.2,fun x=>[.win true rgS 0 0 (rgTV x.1.2.1.1).length],fun x=>[(0,.row 69 rgS (rgTV x.1.2.1.1))]⟩
theorem qyr:HeldI Tryd.prog G0 41 ctRgT:=by
 refine HeldI.of cx0 (fn:=Tryd.f41) rfl rfl ⟨by decide,by decide⟩ fun ⟨⟨⟨⟩,⟨l,⟨⟩⟩,_,⟨⟩⟩,⟨⟩⟩ hp=>?_
 replace hp:l.length<1000000:=hp;refine qmi cx0 (q7e l _ _) ?_
 show GoodE Tryd.prog G0 41 Tryd.f41.ntmps .fn Y0 (endK tt G0 Tryd.f41.results.toList (QI ctRgT (((),(l,()),(((),()),()),()),()))) (hd Tryd.f41 0) (0,false) _
 rw[hdSr];refine GoodE.rangeF (gf:=57) (ct:=ctTY) (Ko:=KG) (xi:=((l,()),(((),()),()),())) (x0:=(([],()),())) (ns1:=[some BIG,some (BIG+1)]) (ns2:=[some 3,none]) (tl:=[(3,.ptr 3 0)]) (bkF:=bkG) (rF:=[(0,BIG+1)]) (d:=21) (m:=1)
  (by simp) ?_ qjk rfl rfl rfl ?_ hp ⟨rfl,trivial⟩ rfl ?_ (by decide) ⟨by decide,by decide,rfl⟩ rfl ?_ (by decide) ?_
 ·exact fun args w=>qaz (fn:=Tryd.f57) rfl rfl rfl args w
 ·exact fun c hc=>by cases hc
 ·exact fun c hc=>by cases hc
 ·exact fun x hx=>⟨⟨rfl,rfl,trivial⟩,by simp[bkG,rho,lk,BIG],fun p hp hb=>(by
   simp only[bkG,List.mem_cons,List.not_mem_nil,or_false] at hp;rcases hp with rfl | rfl
   ·exact ⟨rfl,rfl⟩
   ·exact absurd hb (show ¬ BIG<=0 by decide)),by kernel_rfl⟩
 ·have hw:=qmf (p:=tcB) l 0;refine qgl (whF tcB 0 l) [] (fun x hx=>?_) ?_ ?_
  ·have:=qgh l 0 x hx;omega
  ·simp only[List.length_nil];omega
  ·have e:GoodE Tryd.prog G0 41 Tryd.f41.ntmps .fn Y0 (endK tt G0 Tryd.f41.results.toList (QI ctRgT (((),(l,()),(((),()),()),()),()))) (rfK Tryd.f41 0) (0,false) ⟨[(3,.ptr 3 0)],[(3,.var [.win true rgS 1086016 0 (rgTV l).length]),(1086016,.row 69 rgS (rgTV l))]⟩:=by
    refine qc7 cx0 (qt5 _ 0 false _ _) ?_
    show QI ctRgT _ [.win true rgS 1086016 0 (rgTV l).length] _
    have p0:piOf [(0,1086016)] 0=some 1086016:=by decide
    refine ⟨[(0,1086016)],qa9 (by simp only[Mt];exact .inl ⟨true,1086016,rfl,p0,fun _=>rfl⟩) qa6,⟨.inl ⟨1086016,_,p0,rfl,rfl⟩,trivial⟩,by decide,fun p hp=>?_⟩;simp only[List.mem_cons,List.not_mem_nil,or_false] at hp;subst hp;decide
   exact e.only ⟨by kernel_rfl,trivial⟩ ⟨by kernel_rfl,by kernel_rfl,trivial⟩
def rgCV (l b:List SyT):List (Int × Int):=rngF ((whF (clB b) 0 l).map (·.1)) []
def ctRgC:CtrI:=⟨[iC],fun x=>preC x.1.2,fun x=>[.win true rgS 0 0 (rgCV x.1.2.1.1 x.1.2.2.1.1.2.1.1).length],fun x=>[(0,.row 69 rgS (rgCV x.1.2.1.1 x.1.2.2.1.1.2.1.1))]⟩
theorem qyu:HeldI Tryd.prog G0 41 ctRgC:=by
 refine HeldI.of cx0 (fn:=Tryd.f41) rfl rfl ⟨by decide,by decide⟩ fun ⟨⟨⟨⟩,⟨l,⟨⟩⟩,⟨⟨⟨⟩,⟨⟨b,⟨⟩⟩,⟨⟩⟩⟩,⟨⟩⟩,⟨⟩⟩,⟨⟩⟩ hp=>?_
 replace hp:l.length<1000000/\l.length<=b.length:=hp;have hp1:=hp.1;refine qmi cx0 (q7g l b _ _) ?_
 show GoodE Tryd.prog G0 41 Tryd.f41.ntmps .fn Y0 (endK tt G0 Tryd.f41.results.toList (QI ctRgC (((),(l,()),(((),((b,()),())),()),()),()))) (hd Tryd.f41 0) (0,false) _
 rw[hdSr];refine GoodE.rangeF (gf:=57) (ct:=ctCY) (Ko:=KG) (xi:=((l,()),(((),((b,()),())),()),())) (x0:=(([],()),())) (ns1:=[some BIG,some (BIG+1),some (BIG+2)]) (ns2:=[some 3,none]) (tl:=[(3,.ptr 3 0)]) (bkF:=bkG) (rF:=[(0,BIG+1)]) (d:=21) (m:=1)
  (by simp) ?_ qzy rfl rfl rfl ?_ hp ⟨rfl,trivial⟩ rfl ?_ (by decide) ⟨by decide,by decide,rfl⟩ rfl ?_ (by decide) ?_
 ·exact fun args w=>qaz (fn:=Tryd.f57) rfl rfl rfl args w
 ·exact fun c hc=>by cases hc
 ·exact fun c hc=>by cases hc
 ·exact fun x hx=>⟨⟨rfl,rfl,trivial⟩,by simp[bkG,rho,lk,BIG],fun p hp hb=>(by
   simp only[bkG,List.mem_cons,List.not_mem_nil,or_false] at hp;rcases hp with rfl | rfl
   ·exact ⟨rfl,rfl⟩
   ·exact absurd hb (show ¬ BIG<=0 by decide)),by kernel_rfl⟩
 ·have hw:=qmf (p:=(clB b)) l 0;refine qgl (whF (clB b) 0 l) [] (fun x hx=>?_) ?_ ?_
  ·have:=qgh l 0 x hx;omega
  ·simp only[List.length_nil];omega
  ·have e:GoodE Tryd.prog G0 41 Tryd.f41.ntmps .fn Y0 (endK tt G0 Tryd.f41.results.toList (QI ctRgC (((),(l,()),(((),((b,()),())),()),()),()))) (rfK Tryd.f41 0) (0,false) ⟨[(3,.ptr 3 0)],[(3,.var [.win true rgS 1086016 0 (rgCV l b).length]),(1086016,.row 69 rgS (rgCV l b))]⟩:=by
    refine qc7 cx0 (qt5 _ 0 false _ _) ?_
    show QI ctRgC _ [.win true rgS 1086016 0 (rgCV l b).length] _
    have p0:piOf [(0,1086016)] 0=some 1086016:=by decide
    refine ⟨[(0,1086016)],qa9 (by simp only[Mt];exact .inl ⟨true,1086016,rfl,p0,fun _=>rfl⟩) qa6,⟨.inl ⟨1086016,_,p0,rfl,rfl⟩,trivial⟩,by decide,fun p hp=>?_⟩;simp only[List.mem_cons,List.not_mem_nil,or_false] at hp;subst hp;decide
   exact e.only ⟨by kernel_rfl,trivial⟩ ⟨by kernel_rfl,by kernel_rfl,trivial⟩
def rgRV (l:List Bool):List (Int × Int):=rngF ((whF (fun _ x=>x) 0 l).map (·.1)) []
def ctRgR:CtrI:=⟨[iR],fun x=>preR x.1.2,fun x=>[.win true rgS 0 0 (rgRV x.1.2.1.1).length],fun x=>[(0,.row 69 rgS (rgRV x.1.2.1.1))]⟩
theorem qys:HeldI Tryd.prog G0 43 ctRgR:=by
 refine HeldI.of cx0 (fn:=Tryd.f43) rfl rfl ⟨by decide,by decide⟩ fun ⟨⟨⟨⟩,⟨l,⟨⟩⟩,_,⟨⟩⟩,⟨⟩⟩ hp=>?_
 replace hp:l.length<1000000:=hp;refine qmi cx0 (q7f l _ _) ?_
 show GoodE Tryd.prog G0 43 Tryd.f43.ntmps .fn Y0 (endK tt G0 Tryd.f43.results.toList (QI ctRgR (((),(l,()),(((),()),()),()),()))) (hd Tryd.f43 0) (0,false) _
 rw[hdBr];refine GoodE.rangeF (gf:=61) (ct:=ctRY) (Ko:=KG) (xi:=((l,()),(((),()),()),())) (x0:=(([],()),())) (ns1:=[some BIG,some (BIG+1)]) (ns2:=[some 3,none]) (tl:=[(3,.ptr 3 0)]) (bkF:=bkG) (rF:=[(0,BIG+1)]) (d:=21) (m:=1)
  (by simp) ?_ qzw rfl rfl rfl ?_ hp ⟨rfl,trivial⟩ rfl ?_ (by decide) ⟨by decide,by decide,rfl⟩ rfl ?_ (by decide) ?_
 ·exact fun args w=>qaz (fn:=Tryd.f61) rfl rfl rfl args w
 ·exact fun c hc=>by cases hc
 ·exact fun c hc=>by cases hc
 ·exact fun x hx=>⟨⟨rfl,rfl,trivial⟩,by simp[bkG,rho,lk,BIG],fun p hp hb=>(by
   simp only[bkG,List.mem_cons,List.not_mem_nil,or_false] at hp;rcases hp with rfl | rfl
   ·exact ⟨rfl,rfl⟩
   ·exact absurd hb (show ¬ BIG<=0 by decide)),by kernel_rfl⟩
 ·have hw:=qmf (p:=(fun _ x=>x)) l 0;refine qj2 (whF (fun _ x=>x) 0 l) [] (fun x hx=>?_) ?_ ?_
  ·have:=qgh l 0 x hx;omega
  ·simp only[List.length_nil];omega
  ·have e:GoodE Tryd.prog G0 43 Tryd.f43.ntmps .fn Y0 (endK tt G0 Tryd.f43.results.toList (QI ctRgR (((),(l,()),(((),()),()),()),()))) (rfK Tryd.f43 0) (0,false) ⟨[(3,.ptr 3 0)],[(3,.var [.win true rgS 1086016 0 (rgRV l).length]),(1086016,.row 69 rgS (rgRV l))]⟩:=by
    refine qc7 cx0 (q29 _ 0 false _ _) ?_
    show QI ctRgR _ [.win true rgS 1086016 0 (rgRV l).length] _
    have p0:piOf [(0,1086016)] 0=some 1086016:=by decide
    refine ⟨[(0,1086016)],qa9 (by simp only[Mt];exact .inl ⟨true,1086016,rfl,p0,fun _=>rfl⟩) qa6,⟨.inl ⟨1086016,_,p0,rfl,rfl⟩,trivial⟩,by decide,fun p hp=>?_⟩;simp only[List.mem_cons,List.not_mem_nil,or_false] at hp;subst hp;decide
   exact e.only ⟨by kernel_rfl,trivial⟩ ⟨by kernel_rfl,by kernel_rfl,trivial⟩
abbrev KB:List AK:=[.ptr [.row 4 .bool]]
abbrev gtT (l:List Bool) (i:Nat):Bool:=gt Sh.bool l i
def C7:CV:=[(41,.inr ctRgT),(41,.inr ctRgC),(43,.inr ctRgR),(33,.inr ctWhT),(33,.inr ctWhC),(44,.inr ctWhR),(34,.inl ctTc)]
theorem cx7:CxOK Tryd.prog tt G0 C7:=((((((cx0.cons qo6 (fn:=Tryd.f34) rfl rfl rfl).consI qxq (fn:=Tryd.f44) rfl rfl rfl).consI qxr (fn:=Tryd.f33) rfl rfl rfl).consI qxp (fn:=Tryd.f33) rfl rfl rfl).consI qys (fn:=Tryd.f43) rfl rfl rfl).consI qyu (fn:=Tryd.f41) rfl rfl rfl).consI qyr (fn:=Tryd.f41) rfl rfl rfl
set_option maxRecDepth 100000
theorem q7h (l:List SyT) (Q:QT) (R:RT):sy tt G0 C7 Tryd.f45.ntmps Tryd.f45.results.toList Q R 1000 [.code (qae Tryd.f45)] (entry [slY] (l,())) =
  ((0:Int)<=(l.length:Int) /\
 (l.length:Int)<=(l.length:Int) /\
 (l.length:Int)<2 ^ 24 /\
 (↑(1:Nat):Int)*(l.length:Int)<=2 ^ 48 /\
 ctWhT.pre (l,((),()),()) /\
 R (hd Tryd.f45 0) { env:=[(0,.sl syS l),(2,.nils),(3,.ptr 3 0),(6,.sl syS l),(7,.int .i64 (l.length:Int)),(8,.win true Sh.bool (8:Nat) (0:Nat) (l.length:Int).toNat),(9,.sl syS l),(10,.fn (57:Nat) [] [.ptr (1040960:Nat) 0,.ptr 1040961 0])],blk:=[(3,.var [.win true Sh.bool (8:Nat) (0:Nat) (l.length:Int).toNat]),(8,.row 4 Sh.bool (List.replicate (l.length:Int).toNat Sh.bool.dflt)),(1040960,.var [.sl syS l]),(1040961,.var [.fn (34:Nat) [] []])] }):=by kernel_rfl
theorem q3b (o:List Bool) (i:Int) (s:SyT) (j:Nat) (q:Bool) (Q:AExit->Nat × Bool->PS->Prop) (R:List Item->Nat × Bool->PS->Prop):syE tt G0 C7 Tryd.f45.ntmps Y0 Q R .ready 1000 (rnd Tryd.f45 0) (j,q) (qdt [3] [11,12] KB ySy ((o,()),()) (i,s,())) =
  (bc s.1 ((0:Int)<=s.2.1 /\
 s.2.1<(o.length:Int) /\
 0+Int.toNat s.2.1<o.length /\
 Q AExit.normal (j,q) { env:=[(5,.ptr 5 0),(11,.int .i64 i),(12,.agg [.bool s.1,.int .i64 s.2.1,.int .u8 s.2.2]),(3,.ptr 1099511627776 0),(13,.ptr 5 0),(14,.bool s.1),(15,.win true Sh.bool (1099511627777:Nat) (0:Nat) o.length),(16,.ptr 5 1),(17,.int .i64 s.2.1),(18,.elp Sh.bool (1099511627777:Nat) (0+Int.toNat s.2.1) (0:Nat))],blk:=[(5,.var [.bool s.1,.int .i64 s.2.1,.int .u8 s.2.2]),(1099511627776,.var [.win true Sh.bool (1099511627777:Nat) (0:Nat) o.length]),(1099511627777,.row 4 Sh.bool (o.set (0+Int.toNat s.2.1) true))] }) (Q AExit.normal (j,q) { env:=[(5,.ptr 5 0),(11,.int .i64 i),(12,.agg [.bool s.1,.int .i64 s.2.1,.int .u8 s.2.2]),(3,.ptr 1099511627776 0),(13,.ptr 5 0),(14,.bool s.1)],blk:=[(5,.var [.bool s.1,.int .i64 s.2.1,.int .u8 s.2.2]),(1099511627776,.var [.win true Sh.bool (1099511627777:Nat) (0:Nat) o.length]),(1099511627777,.row 4 Sh.bool o)] })):=by kernel_rfl
theorem q3c (o:List Bool) (j:Nat) (q:Bool) (Q:AExit->Nat × Bool->PS->Prop) (R:List Item->Nat × Bool->PS->Prop):syE tt G0 C7 Tryd.f45.ntmps Y0 Q R .fn 1000 (rfK Tryd.f45 0) (j,q) (⟨[(3,.ptr 3 0)],[(3,.var [.win true .bool 1086016 0 o.length]),(1086016,.row 4 .bool o)]⟩) =
  (Q AExit.ret (j,q) { env:=[(2,.win true Sh.bool (1086016:Nat) (0:Nat) o.length),(3,.ptr 3 0),(19,.win true Sh.bool (1086016:Nat) (0:Nat) o.length)],blk:=[(3,.var [.win true Sh.bool (1086016:Nat) (0:Nat) o.length]),(1086016,.row 4 Sh.bool o)] }):=by kernel_rfl
theorem q74 (a b:List SyT) (Q:QT) (R:RT):sy tt G0 C7 Tryd.f31.ntmps Tryd.f31.results.toList Q R 1000 [.code (qae Tryd.f31)] (entry [slY,slY] (a,b,())) =
  (ctWhC.pre (a,((),(b,()),()),()) /\
 ctRgC.pre (((),(a,()),(((),(b,()),()),()),()),()) /\
 Q [.win true rgS 1040960 0 (rgCV a b).length] [(1040960,.row 69 rgS (rgCV a b))]):=by kernel_rfl
theorem QC.row0 {ct:Ctr} {x:DL ct.args} {rs:List SV} {blk:List (Nat × LB)} {e:Sh} {et:TypeId} {a k:Nat} {xs:List e.D} (h:ct.out x=[.win true e 0 0 xs.length]) (hr:ct.rows x=[.row et e xs]) (hs:rs=[.win true e a 0 k]) (hk:k=xs.length) (hb:lk blk a=some (.row et e xs)):QC ct x rs blk:=by
 subst hs;subst hk;refine ⟨fun i=>if i=0 then some a else none,?_,?_,fun i j b h1 h2=>?_,by rw[hr];rfl⟩
 ·rw[h];exact ⟨_,_,rfl,.inl ⟨true,a,rfl,rfl,fun h=>h⟩,rfl⟩
 ·rw[hr];exact ⟨.inl ⟨a,rfl,hb⟩,trivial⟩
 ·simp only at h1 h2;split at h1
  ·split at h2
   ·omega
   ·cases h2
  ·cases h1
def ctCls:Ctr:=⟨[slY,slY],fun x=>x.1.length<1000000/\x.1.length<=x.2.1.length,fun x=>[.win true rgS 0 0 (rgCV x.1 x.2.1).length],fun x=>[.row 69 rgS (rgCV x.1 x.2.1)]⟩
theorem q0j:Held Tryd.prog G0 31 ctCls:=Held.run cx7 (fn:=Tryd.f31) rfl rfl ⟨by decide,by decide⟩ fun ⟨a,b,_⟩ hp=>by
 refine (q74 a b _ _).mpr ⟨trivial,hp,?_⟩;exact QC.row0 (e:=rgS) (xs:=rgCV a b) (et:=69) rfl rfl rfl rfl rfl
def rdbF:List (Int × SyT)->List Bool->List Bool
 | [],o=>o
 | x::r,o=>rdbF r (match x.2.1 with
  | true=>o.set x.2.2.1.toNat true
  | false=>o)
def rdbV (l:List SyT):List Bool:=rdbF (whF tcB 0 l) (List.replicate l.length false)
theorem qms:∀ (r:List (Int × SyT)) (o:List Bool),(rdbF r o).length=o.length
 | [],o=>rfl
 | x::r,o=>by
  rw[rdbF,qms r];split
  ·rw[List.length_set]
  ·rfl
def bkB (x:DI KB):List (Nat × LB):=[(BIG,.var [.win true .bool 0 0 x.1.1.length]),(0,.row 4 .bool x.1.1)]
theorem hdRb:hd Tryd.f45 0=.code (.rangeFunc (.tmp 10) #[11,12] (rfA Tryd.f45 0) (rfB Tryd.f45 0))::rfK Tryd.f45 0:=by kernel_rfl
theorem rndRb:rnd Tryd.f45 0=[.code (rfA Tryd.f45 0),.beginRound,.code (rfB Tryd.f45 0)]:=by kernel_rfl
theorem qh4 {QL:AExit->Nat × Bool->DI KB->Prop} {g:Nat × Bool}:∀ (rs:List (Int × SyT)) (o:List Bool),(∀ x∈rs,x.2.1=true->0<=x.2.2.1/\x.2.2.1<o.length)->QL .normal g ((rdbF rs o,()),()) ->
  qll Tryd.prog G0 45 Tryd.f45.ntmps Y0 [3] [11,12] KB ySy (rfA Tryd.f45 0) (rfB Tryd.f45 0) QL (rs.map yS) g ((o,()),())
 | [],o,_,h=>h
 | (i,s)::rs,o,hb,h=>by
  show GoodE Tryd.prog G0 45 Tryd.f45.ntmps .ready Y0 _ [.code (rfA Tryd.f45 0),.beginRound,.code (rfB Tryd.f45 0)] g (qdt [3] [11,12] KB ySy ((o,()),()) (i,s,()))
  rw[<- rndRb];rw[rdbF] at h;have hs:s.1=true->0<=s.2.1/\s.2.1<o.length:=hb (i,s) (by simp);refine qc7 cx7 (q3b o i s g.1 g.2 _ _) (qaf (fun hp=>?_) (fun hp=>?_))
  ·have hp:s.1=true:=hp;obtain ⟨h0,h1⟩:=hs hp;simp only[hp] at h;have k:=qh4 (QL:=QL) (g:=g) rs (o.set s.2.1.toNat true) (fun x hx=>by rw[List.length_set];exact hb x (by simp[hx])) h;rw[Nat.zero_add];refine ⟨h0,h1,by omega,?_⟩;exact ⟨[],((o.set s.2.1.toNat true,()),()),⟨⟨by show some (LB.var [SV.win true Sh.bool (BIG+1) 0 o.length])=some (LB.var [SV.win true Sh.bool (BIG+1) 0 (o.set _ _).length]);rw[List.length_set],rfl,trivial⟩,rfl,rfl⟩,k⟩
  ·have hp:s.1=false:=hp;simp only[hp] at h;have k:=qh4 (QL:=QL) (g:=g) rs o (fun x hx=>hb x (by simp[hx])) h;exact ⟨[],((o,()),()),⟨⟨rfl,rfl,trivial⟩,rfl,rfl⟩,k⟩
def evY (l:List SyT):Prop:=l.length<1000000/\∀ s∈l,s.1=true->0<=s.2.1/\s.2.1<l.length
def ctRdb:Ctr:=⟨[slY],fun x=>evY x.1,fun x=>[.win true .bool 0 0 (rdbV x.1).length],fun x=>[.row 4 .bool (rdbV x.1)]⟩
theorem qo5 {α:Type} {p:Int->α->Bool}:∀ (l:List α) (i:Nat),∀ x∈whF p i l,x.2∈l
 | [],i,x,h=>by simp[whF] at h
 | s::r,i,x,h=>by
  rw[whF] at h;split at h
  ·rcases List.mem_cons.1 h with rfl | h
   ·simp
   ·exact List.mem_cons_of_mem _ (qo5 r _ x h)
  ·exact List.mem_cons_of_mem _ (qo5 r _ x h)
theorem rdb_held:Held Tryd.prog G0 45 ctRdb:=by
 refine Held.of cx7 (fn:=Tryd.f45) rfl rfl ⟨by decide,by decide⟩ fun ⟨l,⟨⟩⟩ hp=>?_
 obtain ⟨hl,hr⟩:evY l:=hp;refine qmi cx7 (q7h l _ _) ⟨by omega,by omega,?_,?_,trivial,?_⟩
 ·show (l.length:Int)<2 ^ 24;omega
 ·show (((1:Nat):Int))*(l.length:Int)<=2 ^ 48;omega
 show GoodE Tryd.prog G0 45 Tryd.f45.ntmps .fn Y0 (endK tt G0 Tryd.f45.results.toList (QC ctRdb (l,()))) (hd Tryd.f45 0) (0,false) _
 rw[hdRb];simp only[Int.toNat_natCast];refine GoodE.rangeF (gf:=57) (ct:=ctTY) (Ko:=KB) (xi:=((l,()),(((),()),()),())) (x0:=((List.replicate l.length false,()),())) (ns1:=[some 1040960,some 1040961]) (ns2:=[some 3,some 8]) (tl:=[(3,.ptr 3 0)]) (bkF:=bkB) (rF:=[(0,BIG+1)]) (d:=21) (m:=2)
  (by simp) ?_ qjk rfl rfl rfl ?_ hl ⟨rfl,trivial⟩ rfl ?_ (by decide) ⟨by decide,by decide,rfl⟩ rfl ?_ (by decide) ?_
 ·exact fun args w=>qaz (fn:=Tryd.f57) rfl rfl rfl args w
 ·exact fun c hc=>by cases hc
 ·intro c hc;have hc:c∈[l.length=(List.replicate l.length false).length]:=hc;rw[List.mem_singleton] at hc;subst hc;rw[List.length_replicate]
 ·exact fun x hx=>⟨⟨rfl,rfl,trivial⟩,by simp[bkB,rho,lk,BIG],fun p hp hb=>(by
   simp only[bkB,List.mem_cons,List.not_mem_nil,or_false] at hp;rcases hp with rfl | rfl
   ·exact ⟨rfl,rfl⟩
   ·exact absurd hb (show ¬ BIG<=0 by decide)),by kernel_rfl⟩
 ·refine qh4 (whF tcB 0 l) (List.replicate l.length false) (fun x hx h=>?_) ?_
  ·rw[List.length_replicate];exact hr _ (qo5 l 0 x hx) h
  ·have e:GoodE Tryd.prog G0 45 Tryd.f45.ntmps .fn Y0 (endK tt G0 Tryd.f45.results.toList (QC ctRdb (l,()))) (rfK Tryd.f45 0) (0,false) ⟨[(3,.ptr 3 0)],[(3,.var [.win true .bool 1086016 0 (rdbV l).length]),(1086016,.row 4 .bool (rdbV l))]⟩:=by
    refine qc7 cx7 (q3c _ 0 false _ _) ?_
    show QC ctRdb _ [.win true .bool 1086016 0 (rdbV l).length] _
    exact QC.row0 (e:=.bool) (xs:=rdbV l) (et:=4) rfl rfl rfl rfl rfl
   exact e.only ⟨by kernel_rfl,trivial⟩ ⟨by kernel_rfl,by kernel_rfl,trivial⟩
abbrev KD:List AK:=[.ptr [.dat slY],.ptr [.dat .bool],.ptr [.row 4 .bool]]
def C8:CV:=(45,.inl ctRdb)::(31,.inl ctCls)::C7
theorem cx8:CxOK Tryd.prog tt G0 C8:=(cx7.cons q0j (fn:=Tryd.f31) rfl rfl rfl).cons rdb_held (fn:=Tryd.f45) rfl rfl rfl
abbrev fO:AK:=.fn 53 [] [.ptr [.dat (.sl paS)]]
abbrev fU:AK:=.fn 55 [] [.ptr [.dat (.sl paS)]]
abbrev gtP (l:List PaT) (i:Nat):PaT:=gt paS l i
def othB (l:List PaT) (p:PaT):Bool:=p.1 != (gtP l 0).1
def uneB (l:List PaT) (p:PaT):Bool:=decide (p.2.1≠p.2.2.1) || decide (p.2.1≠(gtP l 0).2.1)
abbrev K1:List AK:=[.dat paS,.ptr [.dat (.sl paS)]]
def ctOth:CtrI:=⟨K1,fun x=>0<x.2.1.1.length,fun x=>[.bool (othB x.2.1.1 x.1)],fun x=>bkKL 0 K1 x⟩
def ctUne:CtrI:=⟨K1,fun x=>0<x.2.1.1.length,fun x=>[.bool (uneB x.2.1.1 x.1)],fun x=>bkKL 0 K1 x⟩
set_option maxRecDepth 100000
theorem q72 (a b:List SyT) (Q:QT) (R:RT):sy tt G0 C8 Tryd.f60.ntmps Tryd.f60.results.toList Q R 1000 [.code (qae Tryd.f60)] (entry [slY,slY] (a,b,())) =
  (ctRdb.pre (b,()) /\
 ctWhT.pre (a,((),()),()) /\
 R (hd Tryd.f60 0) { env:=[(0,.sl syS a),(1,.sl syS b),(3,.ptr 3 0),(4,.ptr 4 0),(5,.ptr 5 0),(7,.sl syS b),(8,.win true Sh.bool (1032768:Nat) (0:Nat) (rdbV b).length),(9,.sl syS a),(10,.fn (57:Nat) [] [.ptr (1040960:Nat) 0,.ptr 1040961 0])],blk:=[(3,.var [.sl syS b]),(4,.var [.bool Sh.bool.dflt]),(5,.var [.win true Sh.bool (1032768:Nat) (0:Nat) (rdbV b).length]),(1032768,.row 4 Sh.bool (rdbV b)),(1040960,.var [.sl syS a]),(1040961,.var [.fn (34:Nat) [] []])] }):=by kernel_rfl
theorem quh (b:List SyT) (r:Bool) (o:List Bool) (i:Int) (s:SyT) (j:Nat) (q:Bool) (Q:AExit->Nat × Bool->PS->Prop) (R:List Item->Nat × Bool->PS->Prop):syE tt G0 C8 Tryd.f60.ntmps Y0 Q R .ready 1000 (rnd Tryd.f60 0) (j,q) (qdt [3,4,5] [11,12] KD ySy ((b,()),((r,()),((o,()),()))) (i,s,())) =
  ((0:Int)<=i /\
 i<(b.length:Int) /\
 ctTc.pre (i,(gtY b i.toNat),()) /\
 bc (tcB i (gtY b i.toNat)) (true=true /\
 Q AExit.ret (j,q) { env:=[(6,.int .i64 i),(11,.int .i64 i),(12,.agg [.bool s.1,.int .i64 s.2.1,.int .u8 s.2.2]),(3,.ptr 1099511627776 0),(4,.ptr 1099511627777 0),(5,.ptr 1099511627778 0),(13,.int .i64 i),(14,.sl syS b),(15,.int .i64 i),(16,.elv syS (gtY b i.toNat)),(17,.agg [.bool (gtY b i.toNat).1,.int .i64 (gtY b i.toNat).2.1,.int .u8 (gtY b i.toNat).2.2]),(18,.bool (tcB i (gtY b i.toNat))),(19,.bool true),(20,SV.tup []),(21,SV.tup []),(22,SV.tup []),(23,SV.tup []),(24,.bool true)],blk:=[(1099511627776,.var [.sl syS b]),(1099511627777,.var [.bool true]),(1099511627778,.var [.win true Sh.bool (1099511627779:Nat) (0:Nat) o.length]),(1099511627779,.row 4 Sh.bool o)] }) ((0:Int)<=i /\
 i<(o.length:Int) /\
 0+i.toNat<o.length /\
 bc (bif false then true else gt Sh.bool o (0+i.toNat)) (Q AExit.ret (j,q) { env:=[(6,.int .i64 i),(11,.int .i64 i),(12,.agg [.bool s.1,.int .i64 s.2.1,.int .u8 s.2.2]),(3,.ptr 1099511627776 0),(4,.ptr 1099511627777 0),(5,.ptr 1099511627778 0),(13,.int .i64 i),(14,.sl syS b),(15,.int .i64 i),(16,.elv syS (gtY b i.toNat)),(17,.agg [.bool (gtY b i.toNat).1,.int .i64 (gtY b i.toNat).2.1,.int .u8 (gtY b i.toNat).2.2]),(18,.bool (tcB i (gtY b i.toNat))),(19,.bool false),(20,.win true Sh.bool (1099511627779:Nat) (0:Nat) o.length),(21,.int .i64 i),(22,.elp Sh.bool (1099511627779:Nat) (0+i.toNat) (0:Nat)),(23,.bool (gt Sh.bool o (0+i.toNat))),(24,.bool (bif false then true else gt Sh.bool o (0+i.toNat)))],blk:=[(1099511627776,.var [.sl syS b]),(1099511627777,.var [.bool true]),(1099511627778,.var [.win true Sh.bool (1099511627779:Nat) (0:Nat) o.length]),(1099511627779,.row 4 Sh.bool o)] }) (Q AExit.normal (j,q) { env:=[(6,.int .i64 i),(11,.int .i64 i),(12,.agg [.bool s.1,.int .i64 s.2.1,.int .u8 s.2.2]),(3,.ptr 1099511627776 0),(4,.ptr 1099511627777 0),(5,.ptr 1099511627778 0),(13,.int .i64 i),(14,.sl syS b),(15,.int .i64 i),(16,.elv syS (gtY b i.toNat)),(17,.agg [.bool (gtY b i.toNat).1,.int .i64 (gtY b i.toNat).2.1,.int .u8 (gtY b i.toNat).2.2]),(18,.bool (tcB i (gtY b i.toNat))),(19,.bool false),(20,.win true Sh.bool (1099511627779:Nat) (0:Nat) o.length),(21,.int .i64 i),(22,.elp Sh.bool (1099511627779:Nat) (0+i.toNat) (0:Nat)),(23,.bool (gt Sh.bool o (0+i.toNat))),(24,.bool (bif false then true else gt Sh.bool o (0+i.toNat)))],blk:=[(1099511627776,.var [.sl syS b]),(1099511627777,.var [.bool r]),(1099511627778,.var [.win true Sh.bool (1099511627779:Nat) (0:Nat) o.length]),(1099511627779,.row 4 Sh.bool o)] }))):=by kernel_rfl
theorem q32 (r:Bool) (j:Nat) (q:Bool) (Q:AExit->Nat × Bool->PS->Prop) (R:List Item->Nat × Bool->PS->Prop):syE tt G0 C8 Tryd.f60.ntmps Y0 Q R .fn 1000 (rfK Tryd.f60 0) (j,q) (⟨[(4,.ptr 4 0)],[(4,.var [.bool r])]⟩) =
  (Q AExit.ret (j,q) { env:=[(4,.ptr 4 0)],blk:=[(4,.var [.bool false])] }):=by kernel_rfl
theorem q31 (r:Bool) (j:Nat) (q:Bool) (Q:AExit->Nat × Bool->PS->Prop) (R:List Item->Nat × Bool->PS->Prop):syE tt G0 C8 Tryd.f60.ntmps Y0 Q R .fn 1000 (qpz .ret++rfK Tryd.f60 0) (j,q) (⟨[(4,.ptr 4 0)],[(4,.var [.bool r])]⟩) =
  (Q AExit.ret (j,q) { env:=[(4,.ptr 4 0)],blk:=[(4,.var [.bool r])] }):=by kernel_rfl
theorem q7j (l:List PaT) (li:Bool) (m o:Int) (x:List OpT) (Q:QT) (R:RT):sy tt G0 [] Tryd.f53.ntmps Tryd.f53.results.toList Q R 1000 [.code (qae Tryd.f53)] (qbj K1 ((li,m,o,x),(l,()),())) =
  ((0:Int)<=0 /\
 (0:Int)<(l.length:Int) /\
 Q [.bool !li == (gt (Sh.bool.pair (iI.pair (iI.pair opS.sl))) l (0)).1] [(2,.var [.bool li,.int .i64 m,.int .i64 o,.sl opS x]),(1099511627776,.var [.sl (Sh.bool.pair (iI.pair (iI.pair opS.sl))) l])]):=by kernel_rfl
def qlt (l:List PaT) (li:Bool) (m o:Int) (x:List OpT):List (Nat × LB):=[(2,.var [.bool li,.int .i64 m,.int .i64 o,.sl opS x]),(1099511627776,.var [.sl (Sh.bool.pair (iI.pair (iI.pair opS.sl))) l])]
theorem q65 (l:List PaT) (li:Bool) (m o:Int) (x:List OpT) (Q:QT) (R:RT):sy tt G0 [] Tryd.f55.ntmps Tryd.f55.results.toList Q R 1000 [.code (qae Tryd.f55)] (qbj K1 ((li,m,o,x),(l,()),())) =
  (bc (decide (m≠o)) (true=true /\
 Q [.bool true] (qlt l li m o x)) ((0:Int)<=0 /\
 (0:Int)<(l.length:Int) /\
 Q [.bool (bif false then true else decide (m≠(gt (Sh.bool.pair (iI.pair (iI.pair opS.sl))) l (0)).2.1))] (qlt l li m o x))):=by kernel_rfl
def disP (b:List SyT) (x:Int × SyT):Bool:=tcB x.1 (gtY b x.1.toNat) || gtT (rdbV b) x.1.toNat
def disB (a b:List SyT):Bool:=(whF tcB 0 a).any (disP b)
def ctDis:Ctr:=⟨[slY,slY],fun x=>evY x.2.1/\x.1.length<=x.2.1.length,fun x=>[.bool (disB x.1 x.2.1)],fun _=>[]⟩
def bkD (x:DI KD):List (Nat × LB):=[(BIG,.var [.sl syS x.1.1]),(BIG+1,.var [.bool x.2.1.1]),(BIG+2,.var [.win true .bool 0 0 x.2.2.1.1.length]),(0,.row 4 .bool x.2.2.1.1)]
theorem hdDi:hd Tryd.f60 0=.code (.rangeFunc (.tmp 10) #[11,12] (rfA Tryd.f60 0) (rfB Tryd.f60 0))::rfK Tryd.f60 0:=by kernel_rfl
theorem q8t:rnd Tryd.f60 0=[.code (rfA Tryd.f60 0),.beginRound,.code (rfB Tryd.f60 0)]:=by kernel_rfl
theorem ql7 {b:List SyT} {QL:AExit->Nat × Bool->DI KD->Prop} {g:Nat × Bool} (hE:QL .ret g ((b,()),((true,()),((rdbV b,()),())))) (hl:(rdbV b).length=b.length):∀ (rs:List (Int × SyT)),(∀ x∈rs,0<=x.1/\x.1<b.length)->(rs.any (disP b)=false->QL .normal g ((b,()),((false,()),((rdbV b,()),())))) ->
  qll Tryd.prog G0 60 Tryd.f60.ntmps Y0 [3,4,5] [11,12] KD ySy (rfA Tryd.f60 0) (rfB Tryd.f60 0) QL (rs.map yS) g ((b,()),((false,()),((rdbV b,()),())))
 | [],_,h=>h rfl
 | (i,s)::rs,hb,h=>by
  show GoodE Tryd.prog G0 60 Tryd.f60.ntmps .ready Y0 _ [.code (rfA Tryd.f60 0),.beginRound,.code (rfB Tryd.f60 0)] g (qdt [3,4,5] [11,12] KD ySy ((b,()),((false,()),((rdbV b,()),()))) (i,s,()))
  rw[<- q8t];obtain ⟨h0,h1⟩:0<=i/\i<b.length:=hb (i,s) (by simp);refine qc7 cx8 (quh b false (rdbV b) i s g.1 g.2 _ _) ⟨h0,h1,trivial,qaf (fun k1=>⟨rfl,?_⟩) (fun k1=>⟨h0,by omega,by omega,?_⟩)⟩
  ·exact ⟨[],((b,()),((true,()),((rdbV b,()),()))),⟨⟨rfl,rfl,rfl,rfl,trivial⟩,rfl,rfl⟩,hE⟩
  ·rw[Nat.zero_add];refine qaf (fun k2=>?_) (fun k2=>?_)
   ·exact ⟨[],((b,()),((true,()),((rdbV b,()),()))),⟨⟨rfl,rfl,rfl,rfl,trivial⟩,rfl,rfl⟩,hE⟩
   ·have k1:tcB i (gtY b i.toNat)=false:=k1;have k2:gtT (rdbV b) i.toNat=false:=k2;have hp:disP b (i,s)=false:=by simp only[disP];rw[k1,k2];rfl
    have k:=ql7 (b:=b) (QL:=QL) (g:=g) hE hl rs (fun x hx=>hb x (by simp[hx])) (fun hq=>h (by rw[List.any_cons,hp,hq];rfl));exact ⟨[],((b,()),((false,()),((rdbV b,()),()))),⟨⟨rfl,rfl,rfl,rfl,trivial⟩,rfl,rfl⟩,k⟩
theorem qk1 {b:List SyT} {QL:AExit->Nat × Bool->DI KD->Prop} {g:Nat × Bool} (hl:(rdbV b).length=b.length):∀ (rs:List (Int × SyT)),(∀ x∈rs,0<=x.1/\x.1<b.length)->rs.any (disP b)=false->QL .normal g ((b,()),((false,()),((rdbV b,()),()))) ->
  qll Tryd.prog G0 60 Tryd.f60.ntmps Y0 [3,4,5] [11,12] KD ySy (rfA Tryd.f60 0) (rfB Tryd.f60 0) QL (rs.map yS) g ((b,()),((false,()),((rdbV b,()),())))
 | [],_,_,h=>h
 | (i,s)::rs,hb,hn,h=>by
  rw[List.any_cons,Bool.or_eq_false_iff] at hn;obtain ⟨hn0,hn⟩:=hn;have hn0:(tcB i (gtY b i.toNat) || gtT (rdbV b) i.toNat)=false:=hn0;rw[Bool.or_eq_false_iff] at hn0
  show GoodE Tryd.prog G0 60 Tryd.f60.ntmps .ready Y0 _ [.code (rfA Tryd.f60 0),.beginRound,.code (rfB Tryd.f60 0)] g (qdt [3,4,5] [11,12] KD ySy ((b,()),((false,()),((rdbV b,()),()))) (i,s,()))
  rw[<- q8t];obtain ⟨h0,h1⟩:0<=i/\i<b.length:=hb (i,s) (by simp);refine qc7 cx8 (quh b false (rdbV b) i s g.1 g.2 _ _) ⟨h0,h1,trivial,qaf (fun k1=>⟨rfl,?_⟩) (fun k1=>⟨h0,by omega,by omega,?_⟩)⟩
  ·exfalso;have k1:tcB i (gtY b i.toNat)=true:=k1;rw[k1] at hn0;cases hn0.1
  ·rw[Nat.zero_add];refine qaf (fun k2=>?_) (fun k2=>?_)
   ·exfalso;have k2:gtT (rdbV b) i.toNat=true:=k2;rw[k2] at hn0;cases hn0.2
   ·have k1:tcB i (gtY b i.toNat)=false:=k1;have k2:gtT (rdbV b) i.toNat=false:=k2;have hp:disP b (i,s)=false:=by simp only[disP];rw[k1,k2];rfl
    have k:=qk1 (b:=b) (QL:=QL) (g:=g) hl rs (fun x hx=>hb x (by simp[hx])) hn h;exact ⟨[],((b,()),((false,()),((rdbV b,()),()))),⟨⟨rfl,rfl,rfl,rfl,trivial⟩,rfl,rfl⟩,k⟩
theorem q2p (Q:List SV->List (Nat × LB)->Prop) (r:Bool) (g:Nat × Bool):endK tt G0 Tryd.f60.results.toList Q AExit.ret g { env:=[(4,SV.ptr 4 0)],blk:=[(4,LB.var [SV.bool r])] }=Q [SV.bool r] [(4,LB.var [SV.bool r])]:=by kernel_rfl
theorem q0f:Held Tryd.prog G0 60 ctDis:=by
 refine Held.of cx8 (fn:=Tryd.f60) rfl rfl ⟨by decide,by decide⟩ fun ⟨a,b,⟨⟩⟩ hp=>?_
 obtain ⟨hev,hab⟩:evY b/\a.length<=b.length:=hp;have hbl:=hev.1;have hrl:(rdbV b).length=b.length:=by unfold rdbV;rw[qms,List.length_replicate]
 refine qmi cx8 (q72 a b _ _) ⟨hev,trivial,?_⟩
 show GoodE Tryd.prog G0 60 Tryd.f60.ntmps .fn Y0 (endK tt G0 Tryd.f60.results.toList (QC ctDis (a,b,()))) (hd Tryd.f60 0) (0,false) _
 rw[hdDi];refine GoodE.rangeF (gf:=57) (ct:=ctTY) (Ko:=KD) (xi:=((a,()),(((),()),()),())) (x0:=((b,()),((false,()),((rdbV b,()),())))) (ns1:=[some 1040960,some 1040961]) (ns2:=[some 3,some 4,some 5,some 1032768]) (tl:=[(3,.ptr 3 0),(4,.ptr 4 0),(5,.ptr 5 0)]) (bkF:=bkD) (rF:=[(0,BIG+3)]) (d:=21) (m:=4)
  (by simp) ?_ qjk rfl rfl rfl ?_ (show a.length<1000000 by omega) ⟨rfl,rfl,rfl,trivial⟩ rfl ?_ (by decide) ⟨by decide,by decide,rfl⟩ rfl ?_ (by decide) ?_
 ·exact fun args w=>qaz (fn:=Tryd.f57) rfl rfl rfl args w
 ·exact fun c hc=>by cases hc
 ·intro c hc;have hc:c∈[(rdbV b).length=(rdbV b).length]:=hc;rw[List.mem_singleton] at hc;subst hc;rfl
 ·exact fun x hx=>⟨⟨rfl,rfl,rfl,rfl,trivial⟩,by simp[bkD,rho,lk,BIG],fun p hp hb=>(by
   simp only[bkD,List.mem_cons,List.not_mem_nil,or_false] at hp;rcases hp with rfl | rfl | rfl | rfl
   ·exact ⟨rfl,rfl⟩
   ·exact ⟨rfl,rfl⟩
   ·exact ⟨rfl,rfl⟩
   ·exact absurd hb (show ¬ BIG<=0 by decide)),by kernel_rfl⟩
 ·by_cases hany:(whF tcB 0 a).any (disP b)=true
  ·refine ql7 (b:=b) ?_ hrl (whF tcB 0 a) (fun x hx=>by have:=qgh a 0 x hx;omega) (fun hq=>by rw[hany] at hq;cases hq);have e:GoodE Tryd.prog G0 60 Tryd.f60.ntmps .fn Y0 (endK tt G0 Tryd.f60.results.toList (QC ctDis (a,b,()))) (qpz .ret++rfK Tryd.f60 0) (0,false) ⟨[(4,.ptr 4 0)],[(4,.var [.bool true])]⟩:=by
    refine qc7 cx8 (q31 true 0 false _ _) ?_;rw[q2p];exact QC.flat (by show [SV.bool (disB a b)]=_;unfold disB;rw[hany]) rfl rfl
   exact e.only ⟨by kernel_rfl,trivial⟩ ⟨by kernel_rfl,trivial⟩
  refine qk1 (b:=b) hrl (whF tcB 0 a) (fun x hx=>by have:=qgh a 0 x hx;omega) (by simpa using hany) ?_
  ·have hq:(whF tcB 0 a).any (disP b)=false:=by simpa using hany
   have e:GoodE Tryd.prog G0 60 Tryd.f60.ntmps .fn Y0 (endK tt G0 Tryd.f60.results.toList (QC ctDis (a,b,()))) (rfK Tryd.f60 0) (0,false) ⟨[(4,.ptr 4 0)],[(4,.var [.bool false])]⟩:=by
    refine qc7 cx8 (q32 false 0 false _ _) ?_;rw[q2p];exact QC.flat (by show [SV.bool (disB a b)]=_;unfold disB;rw[hq]) rfl rfl
   exact e.only ⟨by kernel_rfl,trivial⟩ ⟨by kernel_rfl,trivial⟩
theorem qy3:HeldI Tryd.prog G0 53 ctOth:=HeldI.run cx0 (fn:=Tryd.f53) rfl rfl ⟨by decide,by decide⟩ fun ⟨⟨li,m,o,x⟩,⟨l,⟨⟩⟩,⟨⟩⟩ hp=>by
 have hp:0<l.length:=hp;refine (q7j l li m o x _ _).mpr ⟨by omega,by omega,QI.self rfl rfl rfl (fun p hp=>?_)⟩;have hp:p∈[(BIG,LB.var [SV.sl paS l])]:=hp;rw[List.mem_singleton] at hp;subst hp;rfl
theorem qx4:HeldI Tryd.prog G0 55 ctUne:=HeldI.run cx0 (fn:=Tryd.f55) rfl rfl ⟨by decide,by decide⟩ fun ⟨⟨li,m,o,x⟩,⟨l,⟨⟩⟩,⟨⟩⟩ hp=>by
 have hp:0<l.length:=hp;have fin:∀ {v:Bool} {w:LB},uneB l (li,m,o,x)=v->QI ctUne ((li,m,o,x),(l,()),()) [SV.bool v] [(2,w),(BIG,LB.var [SV.sl paS l])]:=fun {v w} h=>by
  refine QI.self ?_ rfl rfl (fun p hp=>?_)
  ·show [SV.bool (uneB l (li,m,o,x))]=_;rw[h]
  ·have hp:p∈[(BIG,LB.var [SV.sl paS l])]:=hp;rw[List.mem_singleton] at hp;subst hp;rfl
 refine (q65 l li m o x _ _).mpr (qaf (fun h=>⟨rfl,fin ?_⟩) (fun h=>⟨by omega,by omega,fin ?_⟩))
 ·show (decide (m≠o) || _)=true
  have h:decide (m≠o)=true:=h;rw[h];rfl
 ·show (decide (m≠o) || decide (m≠(gtP l 0).2.1))=_
  have h:decide (m≠o)=false:=h;rw[h];rfl
abbrev slP:Sh:=.sl paS
def ixF (p:PaT->Bool):List PaT->Nat->Int
 | [],_ => -1
 | x::r,i=>match p x with
  | true=>(i:Int)
  | false=>ixF p r (i+1)
abbrev KO:List AK:=[.dat slP,fO]
abbrev KU:List AK:=[.dat slP,fU]
def qsu (l b:List PaT):Prop:=0<b.length/\l.length<1000000
def ctIfO:CtrI:=⟨KO,fun x=>qsu x.1 x.2.1.2.1.1,fun x=>[.int .i64 (ixF (othB x.2.1.2.1.1) x.1 0)],fun x=>bkKL 0 KO x⟩
def ctIfU:CtrI:=⟨KU,fun x=>qsu x.1 x.2.1.2.1.1,fun x=>[.int .i64 (ixF (uneB x.2.1.2.1.1) x.1 0)],fun x=>bkKL 0 KU x⟩
def C9:CV:=[(53,.inr ctOth),(55,.inr ctUne)]
theorem cx9:CxOK Tryd.prog tt G0 C9:=(cx0.consI qx4 (fn:=Tryd.f55) rfl rfl rfl).consI qy3 (fn:=Tryd.f53) rfl rfl rfl
set_option maxRecDepth 100000
theorem q70 (l b:List PaT) (Q:QT) (R:RT):sy tt G0 C9 Tryd.f66.ntmps Tryd.f66.results.toList Q (fun it S=>R it (qa4 [0,1,7,8] [BIG] S)) 1000 [.code (qae Tryd.f66)] (qbj KO (l,((),((b,()),())),())) =
  (R (hd Tryd.f66 0) { env:=[(0,.sl (Sh.bool.pair (iI.pair (iI.pair opS.sl))) l),(1,.fn (53:Nat) [] [.ptr 1099511627776 0]),(7,.int .i64 (l.length:Int)),(8,.int .i64 0)],blk:=[(1099511627776,.var [.sl (Sh.bool.pair (iI.pair (iI.pair opS.sl))) b])] }):=by kernel_rfl
theorem qug (l b:List PaT) (i:Nat) (Q:QT) (R:RT):sy tt G0 C9 Tryd.f66.ntmps Tryd.f66.results.toList Q (fun it S=>R it (qa4 [0,1,7,8] [BIG] S)) 1000 (hd Tryd.f66 0) ⟨[(0,.sl paS l),(1,.fn 53 [] [.ptr BIG 0]),(7,.int .i64 (l.length:Nat)),(8,.int .i64 (i:Nat))],[(BIG,.var [.sl paS b])]⟩ =
  (bc (decide ((i:Int)<(l.length:Int))) ((0:Int)<=(i:Int) /\
 (i:Int)<(l.length:Int) /\
 ctOth.pre ((gt (Sh.bool.pair (iI.pair (iI.pair opS.sl))) l (i:Int).toNat),(b,()),()) /\
 bc (othB b (gt (Sh.bool.pair (iI.pair (iI.pair opS.sl))) l (i:Int).toNat)) (Q [.int .i64 (i:Int)] [(1099511627776,.var [.sl (Sh.bool.pair (iI.pair (iI.pair opS.sl))) b])]) (R (hd Tryd.f66 0) { env:=[(0,.sl (Sh.bool.pair (iI.pair (iI.pair opS.sl))) l),(1,.fn (53:Nat) [] [.ptr 1099511627776 0]),(7,.int .i64 (l.length:Int)),(8,.int .i64 (IntKind.i64.wrap ((i:Int)+1)))],blk:=[(1099511627776,.var [.sl (Sh.bool.pair (iI.pair (iI.pair opS.sl))) b])] })) (Q [.int .i64 (-1:Int)] [(1099511627776,.var [.sl (Sh.bool.pair (iI.pair (iI.pair opS.sl))) b])])):=by kernel_rfl
theorem q8a (l b:List PaT) (Q:QT) (R:RT):sy tt G0 [(66,.inr ctIfO)] Tryd.f54.ntmps Tryd.f54.results.toList Q R 1000 [.code (qae Tryd.f54)] (qbj KO (l,((),((b,()),())),())) =
  (ctIfO.pre (l,((),(b,()),()),()) /\
 Q [.bool (decide ((0:Int)<=ixF (othB b) l (0:Nat)))] [(1099511627776,.var [.sl (Sh.bool.pair (iI.pair (iI.pair opS.sl))) b])]):=by kernel_rfl
theorem q7z (l b:List PaT) (Q:QT) (R:RT):sy tt G0 C9 Tryd.f66.ntmps Tryd.f66.results.toList Q (fun it S=>R it (qa4 [0,1,7,8] [BIG] S)) 1000 [.code (qae Tryd.f66)] (qbj KU (l,((),((b,()),())),())) =
  (R (hd Tryd.f66 0) { env:=[(0,.sl (Sh.bool.pair (iI.pair (iI.pair opS.sl))) l),(1,.fn (55:Nat) [] [.ptr 1099511627776 0]),(7,.int .i64 (l.length:Int)),(8,.int .i64 0)],blk:=[(1099511627776,.var [.sl (Sh.bool.pair (iI.pair (iI.pair opS.sl))) b])] }):=by kernel_rfl
theorem quf (l b:List PaT) (i:Nat) (Q:QT) (R:RT):sy tt G0 C9 Tryd.f66.ntmps Tryd.f66.results.toList Q (fun it S=>R it (qa4 [0,1,7,8] [BIG] S)) 1000 (hd Tryd.f66 0) ⟨[(0,.sl paS l),(1,.fn 55 [] [.ptr BIG 0]),(7,.int .i64 (l.length:Nat)),(8,.int .i64 (i:Nat))],[(BIG,.var [.sl paS b])]⟩ =
  (bc (decide ((i:Int)<(l.length:Int))) ((0:Int)<=(i:Int) /\
 (i:Int)<(l.length:Int) /\
 ctUne.pre ((gt (Sh.bool.pair (iI.pair (iI.pair opS.sl))) l (i:Int).toNat),(b,()),()) /\
 bc (uneB b (gt (Sh.bool.pair (iI.pair (iI.pair opS.sl))) l (i:Int).toNat)) (Q [.int .i64 (i:Int)] [(1099511627776,.var [.sl (Sh.bool.pair (iI.pair (iI.pair opS.sl))) b])]) (R (hd Tryd.f66 0) { env:=[(0,.sl (Sh.bool.pair (iI.pair (iI.pair opS.sl))) l),(1,.fn (55:Nat) [] [.ptr 1099511627776 0]),(7,.int .i64 (l.length:Int)),(8,.int .i64 (IntKind.i64.wrap ((i:Int)+1)))],blk:=[(1099511627776,.var [.sl (Sh.bool.pair (iI.pair (iI.pair opS.sl))) b])] })) (Q [.int .i64 (-1:Int)] [(1099511627776,.var [.sl (Sh.bool.pair (iI.pair (iI.pair opS.sl))) b])])):=by kernel_rfl
theorem q79 (l b:List PaT) (Q:QT) (R:RT):sy tt G0 [(66,.inr ctIfU)] Tryd.f54.ntmps Tryd.f54.results.toList Q R 1000 [.code (qae Tryd.f54)] (qbj KU (l,((),((b,()),())),())) =
  (ctIfU.pre (l,((),(b,()),()),()) /\
 Q [.bool (decide ((0:Int)<=ixF (uneB b) l (0:Nat)))] [(1099511627776,.var [.sl (Sh.bool.pair (iI.pair (iI.pair opS.sl))) b])]):=by kernel_rfl
abbrev QIx (b:List PaT) (v:SV):List SV->List (Nat × LB)->Prop:=fun rs blk=>rs=[v]/\lk blk BIG=some (LB.var [.sl paS b])
theorem qog {l:List PaT} {i:Nat} (h:i<l.length):gtP l i=l[i]:=gtE (e:=paS) h
theorem qp0 (p:PaT->Bool):∀ (l:List PaT) (i:Nat),decide ((0:Int)<=ixF p l i)=l.any p
 | [],i=>rfl
 | x::r,i=>by
  rw[ixF,List.any_cons];cases h:p x with
  | true=>simp only[Bool.true_or,decide_eq_true_eq];omega
  | false=>simp only[Bool.false_or];exact qp0 p r (i+1)
theorem qz4 {l b:List PaT} {v:SV} (hb:0<b.length) (hl:l.length<1000000):∀ (k i:Nat),l.length-i=k->i<=l.length->v=.int .i64 (ixF (othB b) (l.drop i) i)->GD 66 Tryd.f66 (QIx b v) (hd Tryd.f66 0) ⟨[(0,.sl paS l),(1,.fn 53 [] [.ptr BIG 0]),(7,.int .i64 (l.length:Nat)),(8,.int .i64 (i:Nat))],[(BIG,.var [.sl paS b])]⟩:=by
 intro k
 induction k with
 | zero=>
  intro i hk hi hv;have hi:i=l.length:=by omega
  subst hi;refine qak cx9 (qug l b l.length _ _) ?_;rw[decide_eq_false (by omega),bc_f];rw[List.drop_length] at hv;exact ⟨by rw[hv];rfl,rfl⟩
 | succ k ih=>
  intro i hk hi hv;have hil:i<l.length:=by omega
  refine qak cx9 (qug l b i _ _) ?_;rw[decide_eq_true (show (i:Int)<(l.length:Int) by omega),bc_t];simp only[Int.toNat_natCast];rw[qa3 hil,ixF,<- qog hil] at hv;refine ⟨by omega,by omega,hb,qaf (fun h=>?_) (fun h=>?_)⟩
  ·have h:othB b (gtP l i)=true:=h;rw[h] at hv;exact ⟨by rw[hv],rfl⟩
  ·have h:othB b (gtP l i)=false:=h;rw[h] at hv;have nx:=ih (i+1) (by omega) (by omega) hv;rw[wr2 i (by omega)];exact nx.only ⟨rfl,rfl,rfl,rfl,trivial⟩ ⟨rfl,trivial⟩
theorem qz5:HeldI Tryd.prog G0 66 ctIfO:=HeldI.of cx9 (fn:=Tryd.f66) rfl rfl ⟨by decide,by decide⟩ fun ⟨l,⟨⟨⟩,⟨⟨b,⟨⟩⟩,⟨⟩⟩⟩,⟨⟩⟩ hp=>by
 obtain ⟨hb,hl⟩:qsu l b:=hp;refine qak cx9 (q70 l b _ _) (((qz4 (v:=.int .i64 (ixF (othB b) l 0)) hb hl _ 0 rfl (Nat.zero_le _) rfl).post fun rs blk hq=>?_).only ⟨rfl,rfl,rfl,rfl,trivial⟩ ⟨rfl,trivial⟩);refine QI.self hq.1.symm (by rw[hq.1];rfl) rfl (fun p hp=>?_);have hp:p∈[(BIG,LB.var [SV.sl paS b])]:=hp;rw[List.mem_singleton] at hp;subst hp;exact hq.2
def ctCfO:CtrI:=⟨KO,fun x=>qsu x.1 x.2.1.2.1.1,fun x=>[.bool (List.any x.1 (othB x.2.1.2.1.1))],fun x=>bkKL 0 KO x⟩
theorem q0p:HeldI Tryd.prog G0 54 ctCfO:=HeldI.run (cx0.consI qz5 (fn:=Tryd.f66) rfl rfl rfl) (fn:=Tryd.f54) rfl rfl ⟨by decide,by decide⟩ fun ⟨l,⟨⟨⟩,⟨⟨b,⟨⟩⟩,⟨⟩⟩⟩,⟨⟩⟩ hp=>by
 refine (q8a l b _ _).mpr ⟨hp,QI.self ?_ rfl rfl (fun p hp=>?_)⟩
 ·show [SV.bool (List.any l (othB b))]=[SV.bool (decide ((0:Int)<=ixF (othB b) l 0))]
  rw[qp0]
 ·have hp:p∈[(BIG,LB.var [SV.sl paS b])]:=hp;rw[List.mem_singleton] at hp;subst hp;rfl
theorem qz2 {l b:List PaT} {v:SV} (hb:0<b.length) (hl:l.length<1000000):∀ (k i:Nat),l.length-i=k->i<=l.length->v=.int .i64 (ixF (uneB b) (l.drop i) i)->GD 66 Tryd.f66 (QIx b v) (hd Tryd.f66 0) ⟨[(0,.sl paS l),(1,.fn 55 [] [.ptr BIG 0]),(7,.int .i64 (l.length:Nat)),(8,.int .i64 (i:Nat))],[(BIG,.var [.sl paS b])]⟩:=by
 intro k
 induction k with
 | zero=>
  intro i hk hi hv;have hi:i=l.length:=by omega
  subst hi;refine qak cx9 (quf l b l.length _ _) ?_;rw[decide_eq_false (by omega),bc_f];rw[List.drop_length] at hv;exact ⟨by rw[hv];rfl,rfl⟩
 | succ k ih=>
  intro i hk hi hv;have hil:i<l.length:=by omega
  refine qak cx9 (quf l b i _ _) ?_;rw[decide_eq_true (show (i:Int)<(l.length:Int) by omega),bc_t];simp only[Int.toNat_natCast];rw[qa3 hil,ixF,<- qog hil] at hv;refine ⟨by omega,by omega,hb,qaf (fun h=>?_) (fun h=>?_)⟩
  ·have h:uneB b (gtP l i)=true:=h;rw[h] at hv;exact ⟨by rw[hv],rfl⟩
  ·have h:uneB b (gtP l i)=false:=h;rw[h] at hv;have nx:=ih (i+1) (by omega) (by omega) hv;rw[wr2 i (by omega)];exact nx.only ⟨rfl,rfl,rfl,rfl,trivial⟩ ⟨rfl,trivial⟩
theorem qz3:HeldI Tryd.prog G0 66 ctIfU:=HeldI.of cx9 (fn:=Tryd.f66) rfl rfl ⟨by decide,by decide⟩ fun ⟨l,⟨⟨⟩,⟨⟨b,⟨⟩⟩,⟨⟩⟩⟩,⟨⟩⟩ hp=>by
 obtain ⟨hb,hl⟩:qsu l b:=hp;refine qak cx9 (q7z l b _ _) (((qz2 (v:=.int .i64 (ixF (uneB b) l 0)) hb hl _ 0 rfl (Nat.zero_le _) rfl).post fun rs blk hq=>?_).only ⟨rfl,rfl,rfl,rfl,trivial⟩ ⟨rfl,trivial⟩);refine QI.self hq.1.symm (by rw[hq.1];rfl) rfl (fun p hp=>?_);have hp:p∈[(BIG,LB.var [SV.sl paS b])]:=hp;rw[List.mem_singleton] at hp;subst hp;exact hq.2
def ctCfU:CtrI:=⟨KU,fun x=>qsu x.1 x.2.1.2.1.1,fun x=>[.bool (List.any x.1 (uneB x.2.1.2.1.1))],fun x=>bkKL 0 KU x⟩
theorem q0o:HeldI Tryd.prog G0 54 ctCfU:=HeldI.run (cx0.consI qz3 (fn:=Tryd.f66) rfl rfl rfl) (fn:=Tryd.f54) rfl rfl ⟨by decide,by decide⟩ fun ⟨l,⟨⟨⟩,⟨⟨b,⟨⟩⟩,⟨⟩⟩⟩,⟨⟩⟩ hp=>by
 refine (q79 l b _ _).mpr ⟨hp,QI.self ?_ rfl rfl (fun p hp=>?_)⟩
 ·show [SV.bool (List.any l (uneB b))]=[SV.bool (decide ((0:Int)<=ixF (uneB b) l 0))]
  rw[qp0]
 ·have hp:p∈[(BIG,LB.var [SV.sl paS b])]:=hp;rw[List.mem_singleton] at hp;subst hp;rfl
def C10:CV:=[(28,.inl ctSym),(54,.inr ctCfO),(54,.inr ctCfU)]
theorem cx10:CxOK Tryd.prog tt G0 C10:=((cx0.consI q0o (fn:=Tryd.f54) rfl rfl rfl).consI q0p (fn:=Tryd.f54) rfl rfl rfl).cons qqr (fn:=Tryd.f28) rfl rfl rfl
set_option maxRecDepth 100000
theorem q69 (l:List PaT) (Q:QT) (R:RT):sy tt G0 C10 Tryd.f30.ntmps Tryd.f30.results.toList Q (fun it S=>R it (qa4 [1,4,11,12,13] [1,28] S)) 1000 [.code (qae Tryd.f30)] (entry [slP] (l,())) =
  (R (hd Tryd.f30 0) { env:=[(1,.ptr 1 0),(4,.nils),(11,.sl (Sh.bool.pair (iI.pair (iI.pair opS.sl))) l),(12,.int .i64 (l.length:Int)),(13,.int .i64 0)],blk:=[(1,.var [.sl (Sh.bool.pair (iI.pair (iI.pair opS.sl))) l])] }):=by kernel_rfl
theorem q22 (l:List PaT) (i:Nat) (Q:QT) (R:RT):sy tt G0 C10 Tryd.f30.ntmps Tryd.f30.results.toList Q (fun it S=>R it (qa4 [1,4,11,12,13] [1,28] S)) 1000 (hd Tryd.f30 0) ⟨[(1,.ptr 1 0),(4,.nils),(11,.sl paS l),(12,.int .i64 (l.length:Nat)),(13,.int .i64 (i:Nat))],[(1,.var [.sl paS l])]⟩ =
  (bc (decide ((i:Int)<(l.length:Int))) ((0:Int)<=(i:Int) /\
 (i:Int)<(l.length:Int) /\
 ctSym.pre ((gt (Sh.bool.pair (iI.pair (iI.pair opS.sl))) l (i:Int).toNat),()) /\
 bc (decide ((symV (gt (Sh.bool.pair (iI.pair (iI.pair opS.sl))) l (i:Int).toNat)).2≠0)) (Q [.nils,.int .i64 (symV (gt (Sh.bool.pair (iI.pair (iI.pair opS.sl))) l (i:Int).toNat)).2] [(1,.var [.sl (Sh.bool.pair (iI.pair (iI.pair opS.sl))) l]),(6,.var [.bool (gt (Sh.bool.pair (iI.pair (iI.pair opS.sl))) l (i:Int).toNat).1,.int .i64 (gt (Sh.bool.pair (iI.pair (iI.pair opS.sl))) l (i:Int).toNat).2.1,.int .i64 (gt (Sh.bool.pair (iI.pair (iI.pair opS.sl))) l (i:Int).toNat).2.2.1,.sl opS (gt (Sh.bool.pair (iI.pair (iI.pair opS.sl))) l (i:Int).toNat).2.2.2]),(1077824,.row 51 syS (symV (gt (Sh.bool.pair (iI.pair (iI.pair opS.sl))) l (i:Int).toNat)).1)]) (0+(symV (gt (Sh.bool.pair (iI.pair (iI.pair opS.sl))) l (i:Int).toNat)).1.length<=(symV (gt (Sh.bool.pair (iI.pair (iI.pair opS.sl))) l (i:Int).toNat)).1.length /\
 0+(symV (gt (Sh.bool.pair (iI.pair (iI.pair opS.sl))) l (i:Int).toNat)).1.length<=(symV (gt (Sh.bool.pair (iI.pair (iI.pair opS.sl))) l (i:Int).toNat)).1.length /\
 0+(symV (gt (Sh.bool.pair (iI.pair (iI.pair opS.sl))) l (i:Int).toNat)).1.length<=(symV (gt (Sh.bool.pair (iI.pair (iI.pair opS.sl))) l (i:Int).toNat)).1.length /\
 0+(symV (gt (Sh.bool.pair (iI.pair (iI.pair opS.sl))) l (i:Int).toNat)).1.length<=(symV (gt (Sh.bool.pair (iI.pair (iI.pair opS.sl))) l (i:Int).toNat)).1.length /\
 0+(symV (gt (Sh.bool.pair (iI.pair (iI.pair opS.sl))) l (i:Int).toNat)).1.length<=(symV (gt (Sh.bool.pair (iI.pair (iI.pair opS.sl))) l (i:Int).toNat)).1.length /\
 0+1<=((List.replicate (1:Nat) syS.sl.dflt).set (0:Nat) (winL syS 0 (symV (gt (Sh.bool.pair (iI.pair (iI.pair opS.sl))) l (i:Int).toNat)).1.length (symV (gt (Sh.bool.pair (iI.pair (iI.pair opS.sl))) l (i:Int).toNat)).1)).length /\
 (winL ((fun self=>self.6) (mkT (1:Nat) (24:Nat) false (TK.slice (51:TypeId)) syS.sl none)) (0:Nat) (1:Nat) ((List.replicate (1:Nat) syS.sl.dflt).set (0:Nat) (winL syS 0 (symV (gt (Sh.bool.pair (iI.pair (iI.pair opS.sl))) l (i:Int).toNat)).1.length (symV (gt (Sh.bool.pair (iI.pair (iI.pair opS.sl))) l (i:Int).toNat)).1))).length<2 ^ 30 /\
 (24:Nat)<=2 ^ 10 /\
 R (hd Tryd.f30 0) { env:=[(1,.ptr 1 0),(4,.win true syS.sl (28:Nat) (0:Nat) (1:Nat)),(11,.sl (Sh.bool.pair (iI.pair (iI.pair opS.sl))) l),(12,.int .i64 (l.length:Int)),(13,.int .i64 (IntKind.i64.wrap ((i:Int)+1)))],blk:=[(1,.var [.sl (Sh.bool.pair (iI.pair (iI.pair opS.sl))) l]),(28,.row 47 syS.sl (winL ((fun self=>self.6) (mkT (1:Nat) (24:Nat) false (TK.slice (51:TypeId)) syS.sl none)) (0:Nat) (1:Nat) ((List.replicate (1:Nat) syS.sl.dflt).set (0:Nat) (winL syS 0 (symV (gt (Sh.bool.pair (iI.pair (iI.pair opS.sl))) l (i:Int).toNat)).1.length (symV (gt (Sh.bool.pair (iI.pair (iI.pair opS.sl))) l (i:Int).toNat)).1))))] })) (ctCfO.pre (l,((),(l,()),()),()) /\
 bc (l.any (othB l)) (Q [.nils,.int .i64 62] [(1,.var [.sl (Sh.bool.pair (iI.pair (iI.pair opS.sl))) l])]) (ctCfU.pre (l,((),(l,()),()),()) /\
 bc (l.any (uneB l)) (Q [.nils,.int .i64 61] [(1,.var [.sl (Sh.bool.pair (iI.pair (iI.pair opS.sl))) l])]) (Q [.nils,.int .i64 0] [(1,.var [.sl (Sh.bool.pair (iI.pair (iI.pair opS.sl))) l])])))):=by kernel_rfl
theorem qt0 (l:List PaT) (a:List (List SyT)) (i:Nat) (Q:QT) (R:RT):sy tt G0 C10 Tryd.f30.ntmps Tryd.f30.results.toList Q (fun it S=>R it (qa4 [1,4,11,12,13] [1,28] S)) 1000 (hd Tryd.f30 0) ⟨[(1,.ptr 1 0),(4,.win true slY 28 0 a.length),(11,.sl paS l),(12,.int .i64 (l.length:Nat)),(13,.int .i64 (i:Nat))],[(1,.var [.sl paS l]),(28,.row 47 slY a)]⟩ =
  (bc (decide ((i:Int)<(l.length:Int))) ((0:Int)<=(i:Int) /\
 (i:Int)<(l.length:Int) /\
 ctSym.pre ((gt (Sh.bool.pair (iI.pair (iI.pair opS.sl))) l (i:Int).toNat),()) /\
 bc (decide ((symV (gt (Sh.bool.pair (iI.pair (iI.pair opS.sl))) l (i:Int).toNat)).2≠0)) (Q [.nils,.int .i64 (symV (gt (Sh.bool.pair (iI.pair (iI.pair opS.sl))) l (i:Int).toNat)).2] [(1,.var [.sl (Sh.bool.pair (iI.pair (iI.pair opS.sl))) l]),(6,.var [.bool (gt (Sh.bool.pair (iI.pair (iI.pair opS.sl))) l (i:Int).toNat).1,.int .i64 (gt (Sh.bool.pair (iI.pair (iI.pair opS.sl))) l (i:Int).toNat).2.1,.int .i64 (gt (Sh.bool.pair (iI.pair (iI.pair opS.sl))) l (i:Int).toNat).2.2.1,.sl opS (gt (Sh.bool.pair (iI.pair (iI.pair opS.sl))) l (i:Int).toNat).2.2.2]),(28,.row 47 syS.sl a),(1077824,.row 51 syS (symV (gt (Sh.bool.pair (iI.pair (iI.pair opS.sl))) l (i:Int).toNat)).1)]) (0+(symV (gt (Sh.bool.pair (iI.pair (iI.pair opS.sl))) l (i:Int).toNat)).1.length<=(symV (gt (Sh.bool.pair (iI.pair (iI.pair opS.sl))) l (i:Int).toNat)).1.length /\
 0+(symV (gt (Sh.bool.pair (iI.pair (iI.pair opS.sl))) l (i:Int).toNat)).1.length<=(symV (gt (Sh.bool.pair (iI.pair (iI.pair opS.sl))) l (i:Int).toNat)).1.length /\
 0+(symV (gt (Sh.bool.pair (iI.pair (iI.pair opS.sl))) l (i:Int).toNat)).1.length<=(symV (gt (Sh.bool.pair (iI.pair (iI.pair opS.sl))) l (i:Int).toNat)).1.length /\
 0+(symV (gt (Sh.bool.pair (iI.pair (iI.pair opS.sl))) l (i:Int).toNat)).1.length<=(symV (gt (Sh.bool.pair (iI.pair (iI.pair opS.sl))) l (i:Int).toNat)).1.length /\
 0+(symV (gt (Sh.bool.pair (iI.pair (iI.pair opS.sl))) l (i:Int).toNat)).1.length<=(symV (gt (Sh.bool.pair (iI.pair (iI.pair opS.sl))) l (i:Int).toNat)).1.length /\
 0+1<=((List.replicate (1:Nat) syS.sl.dflt).set (0:Nat) (winL syS 0 (symV (gt (Sh.bool.pair (iI.pair (iI.pair opS.sl))) l (i:Int).toNat)).1.length (symV (gt (Sh.bool.pair (iI.pair (iI.pair opS.sl))) l (i:Int).toNat)).1)).length /\
 a.length=a.length /\
 (0:Nat)=(0:Nat) /\
 a.length+(winL ((fun self=>self.6) (mkT (1:Nat) (24:Nat) false (TK.slice (51:TypeId)) syS.sl none)) (0:Nat) (1:Nat) ((List.replicate (1:Nat) syS.sl.dflt).set (0:Nat) (winL syS 0 (symV (gt (Sh.bool.pair (iI.pair (iI.pair opS.sl))) l (i:Int).toNat)).1.length (symV (gt (Sh.bool.pair (iI.pair (iI.pair opS.sl))) l (i:Int).toNat)).1))).length<2 ^ 30 /\
 (24:Nat)<=2 ^ 10 /\
 R (hd Tryd.f30 0) { env:=[(1,.ptr 1 0),(4,.win true syS.sl (28:Nat) (0:Nat) (a.length+(winL ((fun self=>self.6) (mkT (1:Nat) (24:Nat) false (TK.slice (51:TypeId)) syS.sl none)) (0:Nat) (1:Nat) ((List.replicate (1:Nat) syS.sl.dflt).set (0:Nat) (winL syS 0 (symV (gt (Sh.bool.pair (iI.pair (iI.pair opS.sl))) l (i:Int).toNat)).1.length (symV (gt (Sh.bool.pair (iI.pair (iI.pair opS.sl))) l (i:Int).toNat)).1))).length)),(11,.sl (Sh.bool.pair (iI.pair (iI.pair opS.sl))) l),(12,.int .i64 (l.length:Int)),(13,.int .i64 (IntKind.i64.wrap ((i:Int)+1)))],blk:=[(1,.var [.sl (Sh.bool.pair (iI.pair (iI.pair opS.sl))) l]),(28,.row 47 syS.sl (a++winL syS.sl (0:Nat) (1:Nat) ((List.replicate (1:Nat) syS.sl.dflt).set (0:Nat) (winL syS 0 (symV (gt (Sh.bool.pair (iI.pair (iI.pair opS.sl))) l (i:Int).toNat)).1.length (symV (gt (Sh.bool.pair (iI.pair (iI.pair opS.sl))) l (i:Int).toNat)).1))))] })) (ctCfO.pre (l,((),(l,()),()),()) /\
 bc (l.any (othB l)) (Q [.nils,.int .i64 62] [(1,.var [.sl (Sh.bool.pair (iI.pair (iI.pair opS.sl))) l]),(28,.row 47 syS.sl a)]) (ctCfU.pre (l,((),(l,()),()),()) /\
 bc (l.any (uneB l)) (Q [.nils,.int .i64 61] [(1,.var [.sl (Sh.bool.pair (iI.pair (iI.pair opS.sl))) l]),(28,.row 47 syS.sl a)]) (Q [.win true syS.sl (28:Nat) (0:Nat) a.length,.int .i64 0] [(1,.var [.sl (Sh.bool.pair (iI.pair (iI.pair opS.sl))) l]),(28,.row 47 syS.sl a)])))):=by kernel_rfl
end Go.Proofs.YtnmkfdgnenkhpaaDoor
