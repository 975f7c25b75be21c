/-
  A part of the proof: what pieces of the program give; conditions: those of each theorem.
-/
import Derived.Test.YthejkhpeokeccaaDoorQ3
import Derived.Test.YthejkhpeokeccaaDoorQ0
import Derived.Test.YthejkhpeokeccaaDoorHD
import Derived.KernelRfl
import Derived.Test.YthejkhpeokeccaaDoorQ2
import Derived.Test.YthejkhpeokeccaaDoorQ1
import Derived.Test.YthejkhpeokeccaaDoorGE
set_option linter.unusedVariables false
set_option linter.unusedSimpArgs false
namespace Go.Proofs.YthejkhpeokeccaaDoor
open Go.Px Go.Ax
set_option maxRecDepth 100000
attribute [local irreducible] Go.Px.sy Go.Px.syE
abbrev rdCk (b:List Int):Bool:=decide (List.map toB (qca (parX b).1)=List.map toB b)
def qcc (b:List Int):LiT × Int:=if (parX b).2=true/\rdCk b=true/\(qa4 (parX b).1.1 (parX b).1.2.1 (parX b).1.2.2).2=0 then ((parX b).1,0) else (([],[],[]),3)
def qli (b:List Int):Prop:=q9u b/\((parX b).2=true->qve (parX b).1/\(rdCk b=true->qd7 (parX b).1.1 (parX b).1.2.1 (parX b).1.2.2))
def ctRead:Ctr:=⟨[.sl uB],fun x=>qli x.1,fun x=>[.agg [.win true u4 0 0 (qcc x.1).1.1.length,.win true .bool 1 0 (qcc x.1).1.2.1.length,.sl iI (qcc x.1).1.2.2],.int .i64 (qcc x.1).2],fun x=>[.row 50 u4 (qcc x.1).1.1,.row 4 .bool (qcc x.1).1.2.1]⟩
theorem qw7 {b:List Int} (hv:qcc b=(([],[],[]),3)) {blk:List (Nat × LB)}:QC ctRead (b,()) [.agg [.nils,.nils,.nils],.int .i64 3] blk:=by
 have ho:ctRead.out (b,())=[.agg [.win true u4 0 0 0,.win true .bool 1 0 0,.sl iI []],.int .i64 3]:=by
  show [SV.agg [.win true u4 0 0 (qcc b).1.1.length,.win true .bool 1 0 (qcc b).1.2.1.length,.sl iI (qcc b).1.2.2],.int .i64 (qcc b).2]=_
  rw[hv];rfl
 have hr:ctRead.rows (b,())=[.row 50 u4 [],.row 4 .bool []]:=by
  show [LB.row 50 u4 (qcc b).1.1,LB.row 4 .bool (qcc b).1.2.1]=_
  rw[hv]
 refine ⟨fun _=>none,?_,?_,fun i j b h1 h2=>by simp at h1,by rw[hr];rfl⟩
 ·rw[ho];exact ⟨_,_,rfl,⟨_,rfl,_,_,rfl,.inr ⟨rfl,rfl,rfl,rfl⟩,_,_,rfl,.inr ⟨rfl,rfl,rfl,rfl⟩,_,_,rfl,.inr ⟨rfl,rfl⟩,rfl⟩,_,_,rfl,rfl,rfl⟩
 ·rw[hr];exact ⟨.inr ⟨rfl,_,_,rfl,by decide⟩,.inr ⟨rfl,_,_,rfl,by decide⟩,trivial⟩
theorem rd_ok {b:List Int} {y:LiT} (hv:qcc b=(y,0)) {blk:List (Nat × LB)} {i j k1 k2:Nat} (hij:i≠j) (h1:lk blk i=some (.row 50 u4 y.1)) (h2:lk blk j=some (.row 4 .bool y.2.1)) (hk1:k1=y.1.length) (hk2:k2=y.2.1.length) :
  QC ctRead (b,()) [.agg [.win true u4 i 0 k1,.win true .bool j 0 k2,.sl iI y.2.2],.int .i64 0] blk:=by
 subst hk1;subst hk2;have ho:ctRead.out (b,())=[.agg [.win true u4 0 0 y.1.length,.win true .bool 1 0 y.2.1.length,.sl iI y.2.2],.int .i64 0]:=by
  show [SV.agg [.win true u4 0 0 (qcc b).1.1.length,.win true .bool 1 0 (qcc b).1.2.1.length,.sl iI (qcc b).1.2.2],.int .i64 (qcc b).2]=_
  rw[hv]
 have hr:ctRead.rows (b,())=[.row 50 u4 y.1,.row 4 .bool y.2.1]:=by
  show [LB.row 50 u4 (qcc b).1.1,LB.row 4 .bool (qcc b).1.2.1]=_
  rw[hv]
 refine ⟨fun n=>if n=0 then some i else if n=1 then some j else none,?_,?_,fun a c x e1 e2=>?_,by rw[hr];rfl⟩
 ·rw[ho];exact ⟨_,_,rfl,⟨_,rfl,_,_,rfl,.inl ⟨true,i,rfl,rfl,fun h=>h⟩,_,_,rfl,.inl ⟨true,j,rfl,rfl,fun h=>h⟩,_,_,rfl,.inl rfl,rfl⟩,_,_,rfl,rfl,rfl⟩
 ·rw[hr];exact ⟨.inl ⟨i,rfl,h1⟩,.inl ⟨j,rfl,h2⟩,trivial⟩
 ·simp only at e1 e2;split at e1 <;> split at e2
  ·omega
  ·split at e2
   ·cases e1;cases e2;exact absurd rfl hij
   ·cases e2
  ·split at e1
   ·cases e1;cases e2;exact absurd rfl hij
   ·cases e1
  ·split at e1 <;> split at e2
   ·omega
   ·cases e2
   ·cases e1
   ·cases e1
theorem q0s (b:List Int) (hp:qli b) (R:List Item->PS->Prop):sy tt G0 CRd2 Tryd.f15.ntmps Tryd.f15.results.toList (QC ctRead (b,())) R 1000 [.code (qaf Tryd.f15)] (entry [.sl uB] (b,())):=by
 obtain ⟨p1,p2⟩:=hp;refine (q5c b _ _).mpr ?_;rw[qgl,qh5,winA];refine ⟨p1,qaq (fun h=>⟨rfl,qw7 ?_⟩) (fun h=>?_)⟩
 ·have h:¬ (parX b).2=true:=by simpa using h
  unfold qcc;rw[if_neg (fun q=>h q.1)]
 ·have h:(parX b).2=true:=by simpa using h
  obtain ⟨p3,p4⟩:=p2 h;refine ⟨by omega,by omega,p3,by omega,trivial,qaq (fun h2=>qw7 ?_) (fun h2=>?_)⟩
  ·have h2:(!rdCk b)=true:=h2;have h2:¬ rdCk b=true:=by simpa using h2
   unfold qcc;rw[if_neg (fun q=>h2 q.2.1)]
  ·have h2:(!rdCk b)=false:=h2;have h2:rdCk b=true:=by simpa using h2
   refine ⟨by omega,by omega,p4 h2,qaq (fun h3=>qw7 ?_) (fun h3=>?_)⟩
   ·have h3:(qa4 (parX b).1.1 (parX b).1.2.1 (parX b).1.2.2).2≠0:=of_decide_eq_true h3;unfold qcc;rw[if_neg (fun q=>h3 q.2.2)]
   ·have h3:¬ (qa4 (parX b).1.1 (parX b).1.2.1 (parX b).1.2.2).2≠0:=of_decide_eq_false h3;have hv:qcc b=((parX b).1,0):=by
     unfold qcc;rw[if_pos ⟨h,h2,Decidable.not_not.1 h3⟩]
    exact rd_ok hv (by decide) rfl rfl rfl rfl
theorem qph:Held Tryd.prog G0 15 ctRead:=Held.run cxRd2 (fn:=Tryd.f15) rfl rfl ⟨by decide,by decide⟩ fun ⟨b,_⟩ hp=>q0s b hp _
def CSl:CV:=[(10,.inl ctLift),(14,.inl ctLower),(19,.inl ct_fo),(15,.inl ctRead),(12,.inl ctMoved),(18,.inl ct_r2),(17,.inl ct_r3)]
theorem cxSl:CxOK Tryd.prog tt G0 CSl:=((((((cx0.cons qxc (fn:=Tryd.f17) rfl rfl rfl).cons qxd (fn:=Tryd.f18) rfl rfl rfl).cons q1d (fn:=Tryd.f12) rfl rfl rfl).cons qph (fn:=Tryd.f15) rfl rfl rfl).cons qsa (fn:=Tryd.f19) rfl rfl rfl).cons qgw (fn:=Tryd.f14) rfl rfl rfl).cons qlz (fn:=Tryd.f10) rfl rfl rfl
set_option maxRecDepth 100000
abbrev sB:List Int:=(((((((((((((List.replicate (12:Nat) uB.dflt).set (0:Nat) (1:Int)).set (1:Nat) (1:Int)).set (2:Nat) (2:Int)).set (3:Nat) (3:Int)).set (4:Nat) (5:Int)).set (5:Nat) (255:Int)).set (6:Nat) (255:Int)).set (7:Nat) (255:Int)).set (8:Nat) (7:Int)).set (9:Nat) (5:Int)).set (10:Nat) (0:Int)).set (11:Nat) (0:Int))
abbrev sW:List Int:=((((List.replicate (3:Nat) u4.dflt).set (0:Nat) (16843267:Int)).set (1:Nat) (83886080:Int)).set (2:Nat) (117768193:Int))
abbrev sM:List Bool:=((((List.replicate (3:Nat) Sh.bool.dflt).set (0:Nat) false).set (1:Nat) true).set (2:Nat) true)
abbrev sL:List Int:=(((List.replicate (2:Nat) iI.dflt).set (0:Nat) (0:Int)).set (1:Nat) (8:Int))
abbrev sU:List Int:=winL u4 (0:Nat) (3:Nat) sW
abbrev sN:List Bool:=winL Sh.bool (0:Nat) (3:Nat) sM
abbrev sK:List Int:=winL iI (0:Nat) (2:Nat) sL
abbrev sC:List Int:=winL uB (0:Nat) (12:Nat) sB
abbrev sX:LfT:=qah (sC)
abbrev sO:List Int × Int:=qa4 (sU) (sN) (sK)
abbrev sF:List Int:=qca (sU,sN,sK)
abbrev sR:LiT × Int:=qcc (winL uB (0:Nat) (sF).length (sF))
theorem q41 (Q:QT) (R:RT):sy tt G0 CSl Tryd.f8.ntmps Tryd.f8.results.toList Q R 1000 [.code (qaf Tryd.f8)] (entry [] ()) =
 (0+12<=sB.length/\ctLift.pre (sC,())/\0+3<=sW.length/\0+3<=sM.length/\0+2<=sL.length/\ctLower.pre ((sU,sN,sK),())/\0+3<=sW.length/\0+3<=sM.length/\0+2<=sL.length/\ct_fo.pre ((sU,sN,sK),())/\0+(sF).length<=(sF).length/\0+(sF).length<=(sF).length/\0+(sF).length<=(sF).length/\ctRead.pre (winL uB 0 (sF).length (sF),())/\0+12<=sB.length/\ctMoved.pre (sC,(1:Int),(1:Int),())/\(0:Int)<=3/\(3:Int)<=(↑(12:Nat):Int)/\0+12<=sB.length/\0+0+(3-0)<=sB.length/\ctLift.pre (winL uB (0+0) (3-0) sB,())/\0+1<=([(83886080:Int)]:List u4.D).length/\0+1<=([false]:List Sh.bool.D).length/\ctLower.pre ((([(83886080:Int)]:List u4.D),([false]:List Sh.bool.D),[]),())/\ctRead.pre ([],())/\0+12<=sB.length/\ctMoved.pre (sC,(4:Int),(0:Int),())/\0+21<=((((((((((((((((((((((List.replicate 21 uB.dflt).set 0 (0:Int)).set 1 (3:Int)).set 2 (0:Int)).set 3 (2:Int)).set 4 (0:Int)).set 5 (0:Int)).set 6 (0:Int)).set 7 (2:Int)).set 8 (6:Int)).set 9 (1:Int)).set 10 (1:Int)).set 11 (2:Int)).set 12 (3:Int)).set 13 (5:Int)).set 14 (0:Int)).set 15 (0:Int)).set 16 (0:Int)).set 17 (7:Int)).set 18 (5:Int)).set 19 (0:Int)).set 20 (1:Int)).length/\ct_r2.pre (winL uB 0 (sF).length (sF),winL uB 0 21 ((((((((((((((((((((((List.replicate 21 uB.dflt).set 0 (0:Int)).set 1 (3:Int)).set 2 (0:Int)).set 3 (2:Int)).set 4 (0:Int)).set 5 (0:Int)).set 6 (0:Int)).set 7 (2:Int)).set 8 (6:Int)).set 9 (1:Int)).set 10 (1:Int)).set 11 (2:Int)).set 12 (3:Int)).set 13 (5:Int)).set 14 (0:Int)).set 15 (0:Int)).set 16 (0:Int)).set 17 (7:Int)).set 18 (5:Int)).set 19 (0:Int)).set 20 (1:Int)),())/\0+(sX).w.length<=(sX).w.length/\0+(sX).m.length<=(sX).m.length/\0+(sX).k<=(sX).t.length/\0+3<=sW.length/\0+3<=sM.length/\0+2<=sL.length/\ct_r3.pre ((winL u4 0 (sX).w.length (sX).w,winL Sh.bool 0 (sX).m.length (sX).m,winL iI 0 (sX).k (sX).t),(sU,sN,sK),())/\0+(sO).1.length<=(sO).1.length/\0+12<=sB.length/\ct_r2.pre (winL uB 0 (sO).1.length (sO).1,sC,())/\0+(sR).1.1.length<=(sR).1.1.length/\0+(sR).1.2.1.length<=(sR).1.2.1.length/\0+3<=sW.length/\0+3<=sM.length/\0+2<=sL.length/\ct_r3.pre ((winL u4 0 (sR).1.1.length (sR).1.1,winL Sh.bool 0 (sR).1.2.1.length (sR).1.2.1,(sR).1.2.2),(sU,sN,sK),())/\0+(qcs (sC) (1:Int) (1:Int)).1.length<=(qcs (sC) (1:Int) (1:Int)).1.length/\0+16<=(((((((((((((((((List.replicate 16 uB.dflt).set 0 (1:Int)).set 1 (1:Int)).set 2 (2:Int)).set 3 (3:Int)).set 4 (0:Int)).set 5 (0:Int)).set 6 (0:Int)).set 7 (0:Int)).set 8 (5:Int)).set 9 (255:Int)).set 10 (255:Int)).set 11 (254:Int)).set 12 (7:Int)).set 13 (5:Int)).set 14 (0:Int)).set 15 (0:Int)).length/\ct_r2.pre (winL uB 0 (qcs (sC) (1:Int) (1:Int)).1.length (qcs (sC) (1:Int) (1:Int)).1,winL uB 0 16 (((((((((((((((((List.replicate 16 uB.dflt).set 0 (1:Int)).set 1 (1:Int)).set 2 (2:Int)).set 3 (3:Int)).set 4 (0:Int)).set 5 (0:Int)).set 6 (0:Int)).set 7 (0:Int)).set 8 (5:Int)).set 9 (255:Int)).set 10 (255:Int)).set 11 (254:Int)).set 12 (7:Int)).set 13 (5:Int)).set 14 (0:Int)).set 15 (0:Int)),())/\Q [.bool (bif true then decide ((have this:=winL uB 0 (qcs (sC) (1:Int) (1:Int)).1.length (qcs (sC) (1:Int) (1:Int)).1;this)=winL uB 0 16 (((((((((((((((((List.replicate 16 uB.dflt).set 0 (1:Int)).set 1 (1:Int)).set 2 (2:Int)).set 3 (3:Int)).set 4 (0:Int)).set 5 (0:Int)).set 6 (0:Int)).set 7 (0:Int)).set 8 (5:Int)).set 9 (255:Int)).set 10 (255:Int)).set 11 (254:Int)).set 12 (7:Int)).set 13 (5:Int)).set 14 (0:Int)).set 15 (0:Int))) else false)] [(2,.var [.win true u4 23 0 3,.win true Sh.bool 24 0 3,.win true iI 25 0 2]),(3,.var [.win false u4 1118784 0 3,.win false Sh.bool 1118785 0 3,.win false iI 1118786 0 2]),(8,.var [.win true u4 1167936 0 3,.win true Sh.bool 1167937 0 3,.sl iI (sR).1.2.2]),(12,.var [.win false u4 1212992 0 0,.win false Sh.bool 1212993 0 0,.win false iI 1212994 0 0]),(16,.var [.win true u4 1258048 0 0,.win true Sh.bool 1258049 0 0,.sl iI (qcc []).1.2.2]),(22,.row 5 uB sB),(23,.row 50 u4 sW),(24,.row 4 Sh.bool sM),(25,.row 3 iI sL),(56,.row 50 u4 ([(83886080:Int)]:List u4.D)),(57,.row 4 Sh.bool ([false]:List Sh.bool.D)),(102,.row 5 uB ((((((((((((((((((((((List.replicate 21 uB.dflt).set 0 (0:Int)).set 1 (3:Int)).set 2 (0:Int)).set 3 (2:Int)).set 4 (0:Int)).set 5 (0:Int)).set 6 (0:Int)).set 7 (2:Int)).set 8 (6:Int)).set 9 (1:Int)).set 10 (1:Int)).set 11 (2:Int)).set 12 (3:Int)).set 13 (5:Int)).set 14 (0:Int)).set 15 (0:Int)).set 16 (0:Int)).set 17 (7:Int)).set 18 (5:Int)).set 19 (0:Int)).set 20 (1:Int))),(125,.row 5 uB (((((((((((((((((List.replicate 16 uB.dflt).set 0 (1:Int)).set 1 (1:Int)).set 2 (2:Int)).set 3 (3:Int)).set 4 (0:Int)).set 5 (0:Int)).set 6 (0:Int)).set 7 (0:Int)).set 8 (5:Int)).set 9 (255:Int)).set 10 (255:Int)).set 11 (254:Int)).set 12 (7:Int)).set 13 (5:Int)).set 14 (0:Int)).set 15 (0:Int))),(1118784,.row 50 u4 (sX).w),(1118785,.row 4 Sh.bool (sX).m),(1118786,.row 3 iI (sX).t),(1139264,.row 5 uB (sO).1),(1167936,.row 50 u4 (sR).1.1),(1167937,.row 4 Sh.bool (sR).1.2.1),(1188416,.row 5 uB (qcs (sC) (1:Int) (1:Int)).1),(1212992,.row 50 u4 (qah (winL uB (0+0) (3-0) sB)).w),(1212993,.row 4 Sh.bool (qah (winL uB (0+0) (3-0) sB)).m),(1212994,.row 3 iI (qah (winL uB (0+0) (3-0) sB)).t),(1241664,.row 5 uB (qa4 (([(83886080:Int)]:List u4.D)) (([false]:List Sh.bool.D)) []).1),(1258048,.row 50 u4 (qcc []).1.1),(1258049,.row 4 Sh.bool (qcc []).1.2.1),(1278528,.row 5 uB (qcs (sC) (4:Int) (0:Int)).1)]):=by kernel_rfl
theorem qo8 {b:List Int} (h:∀ x∈b,0<=x/\x<256):u8L b:=fun j=>by
 by_cases hj:j<b.length
 ·rw[qnd hj];exact h _ (List.getElem_mem hj)
 ·have:gtB b j=0:=by
   show gt uB _ _=_
   unfold gt;rw[List.getElem?_eq_none (by omega)];rfl
  rw[this];exact ⟨by decide,by decide⟩
theorem q9b {b:List Int} (h:∀ x∈b,0<=x/\x<4294967296) (j:Nat):0<=gtW b j/\gtW b j<4294967296:=by
 by_cases hj:j<b.length
 ·rw[qdf hj];exact h _ (List.getElem_mem hj)
 ·have:gtW b j=0:=by
   show gt u4 _ _=_
   unfold gt;rw[List.getElem?_eq_none (by omega)];rfl
  rw[this];decide
theorem zao {l:List Int} (h:∀ x∈l,-1073741824<=x/\x<=1073741824):q1p l:=fun j=>by
 have r : -1073741824<=gtI l j/\gtI l j<=1073741824:=by
  by_cases hj:j<l.length
  ·rw[qcn hj];exact h _ (List.getElem_mem hj)
  ·have:gtI l j=0:=by
    show gt iI _ _=_
    unfold gt;rw[List.getElem?_eq_none (by omega)];rfl
   rw[this];decide
 omega
theorem qtp {l:List Int} (h1:∀ w∈l,0<=w/\w<4294967296) (h2:l.length<=16384) (h3:(lnk l).length<=49):qrq l:=⟨⟨h1,h2⟩,h3⟩
theorem qjl {b:List Int} (h1:∀ x∈b,0<=x/\x<256) (h2:b.length<33554432) (h3:∀ w∈(qag b).1,0<=w/\w<4294967296) (h4:(qag b).1.length<=16384) (h5:(lnk (qag b).1).length<=49):qho b:=fun _=>⟨⟨qo8 h1,h2⟩,fun _=>qtp h3 h4 h5⟩
theorem qe3 {w:List Int} {m:List Bool} {l:List Int} (h1:∀ x∈w,0<=x/\x<4294967296) (h2:∀ x∈l,-1073741824<=x/\x<=1073741824) (h3:∀ x∈(loV w m l).1,0<=x/\x<4294967296) (h4:(loV w m l).1.length<=16384) (h5:(lnk (loV w m l).1).length<=49):qd7 w m l:=⟨⟨q9b h1,zao h2⟩,fun _=>qtp h3 h4 h5⟩
def ctSanL:Ctr:=⟨[],fun _=>True,fun _=>[.bool true],fun _=>[]⟩
theorem q1g (R:List Item->PS->Prop):sy tt G0 CSl Tryd.f8.ntmps Tryd.f8.results.toList (QC ctSanL ()) R 1000 [.code (qaf Tryd.f8)] (entry [] ()):=by
 refine (q41 _ _).mpr ?_
 repeat' first
  | exact trivial
  | (show qho _;refine qjl ?_ ?_ ?_ ?_ ?_ <;> decide +kernel)
  | (show qd7 _ _ _;refine qe3 ?_ ?_ ?_ ?_ ?_ <;> decide +kernel)
  | (show qli _;refine ⟨⟨qo8 ?_,?_⟩,fun _=>⟨⟨?_,?_,?_⟩,fun _=>qe3 ?_ ?_ ?_ ?_ ?_⟩⟩ <;> decide +kernel)
  | (show qn7 _ _ _;refine ⟨qjl ?_ ?_ ?_ ?_ ?_,fun _=>qe3 ?_ ?_ ?_ ?_ ?_⟩ <;> decide +kernel)
  | (show qve _;refine ⟨?_,?_,?_⟩ <;> decide +kernel)
  | (show qxo _;refine ⟨?_,?_,?_⟩ <;> decide +kernel)
  | (show List.length _<1099511627776;decide +kernel)
  | decide +kernel
  | refine And.intro ?_ ?_
  | (refine QC.flat ?_ rfl rfl;refine congrArg (fun b=>[SV.bool b]) ?_;decide +kernel)
theorem qyb:Held Tryd.prog G0 8 ctSanL:=Held.run cxSl (fn:=Tryd.f8) rfl rfl ⟨by decide,by decide⟩ fun x _=>q1g _
abbrev a4S:Sh:=.arr 4 uB
set_option maxRecDepth 100000
def inc (m:Nat) (l:List Int):Prop:=∀ a b,a<b->b<m->gtI l a<gtI l b
theorem q1y {k:Nat} {l:List Int} {v:Int} (h:inc k l) (hk:k<l.length) (hv:0<k->gtI l (k-1)<v):inc (k+1) (l.set k v):=by
 intro a b hab hb;rw[qdt hk,qdt hk,if_neg (by omega)];by_cases e:b=k
 ·rw[if_pos e];by_cases e2:a=k-1
  ·rw[e2];exact hv (by omega)
  ·have:=h a (k-1) (by omega) (by omega);have:=hv (by omega);omega
 ·rw[if_neg e];exact h a b hab (by omega)
theorem qzk {L:List Int} (hs:srt L.length L) {lo:Nat}:∀ (f m k:Nat) (l:List Int),l.length=L.length->lo+m+f=L.length->1<=m->1<=k->k+1<=lo+m->inc k l->(∀ x,inI' k l x↔inI' (lo+m) L x)->gtI l (k-1)=gtI L (lo+m-1)->(∀ i,lo+m-1<=i->gtI l i=gtI L i) ->
  (cpJ lo f m k l).1<=L.length/\(cpJ lo f m k l).2.length=L.length/\inc (cpJ lo f m k l).1 (cpJ lo f m k l).2/\∀ x,inI' (cpJ lo f m k l).1 (cpJ lo f m k l).2 x↔inI' L.length L x
 | 0,m,k,l,hl,hf,hm,hk1,hk,hi,hin,_,_=>by
  rw[cpJ];rw[show lo+m=L.length by omega] at hin;exact ⟨by show k<=_;omega,hl,hi,hin⟩
 | f+1,m,k,l,hl,hf,hm,hk1,hk,hi,hin,hlast,hun=>by
  rw[cpJ];have e1:gtI l (lo+m)=gtI L (lo+m):=hun _ (by omega);have e2:gtI l (lo+(m-1))=gtI L (lo+m-1):=by rw[hun _ (by omega),show lo+(m-1)=lo+m-1 by omega]
  rw[e1,e2];split
  ·rename_i hne;have hle:=hs (lo+m-1) (lo+m) (by omega) (by omega);refine qzk hs f (m+1) (k+1) (l.set k (gtI L (lo+m))) (by rw[List.length_set];exact hl) (by omega) (by omega) (by omega) (by omega) (q1y hi (by omega) fun _=>by rw[hlast];omega) (fun x=>?_) (by rw[qdt (by omega),if_pos (by omega)];congr 1) (fun i hi2=>by rw[qdt (by omega),if_neg (by omega)];exact hun i (by omega));constructor
   ·rintro ⟨i,hi3,e⟩;rw[qdt (by omega)] at e;split at e
    ·exact ⟨lo+m,by omega,e⟩
    ·obtain ⟨j,hj,e⟩:=(hin x).1 ⟨i,by omega,e⟩;exact ⟨j,by omega,e⟩
   ·rintro ⟨i,hi3,e⟩;by_cases h3:i=lo+m
    ·exact ⟨k,by omega,by rw[qdt (by omega),if_pos rfl,<- h3];exact e⟩
    ·obtain ⟨j,hj,e⟩:=(hin x).2 ⟨i,by omega,e⟩;exact ⟨j,by omega,by rw[qdt (by omega),if_neg (by omega)];exact e⟩
  ·rename_i heq;have heq:gtI L (lo+m)=gtI L (lo+m-1):=Decidable.not_not.1 heq;refine qzk hs f (m+1) k l hl (by omega) (by omega) hk1 (by omega) hi (fun x=>?_) (by rw[hlast,show lo+(m+1)-1=lo+m by omega,heq]) (fun i hi2=>hun i (by omega));rw[hin x];constructor
   ·rintro ⟨i,hi3,e⟩;exact ⟨i,by omega,e⟩
   ·rintro ⟨i,hi3,e⟩;by_cases h3:i=lo+m
    ·exact ⟨lo+m-1,by omega,by rw[<- heq,<- h3];exact e⟩
    ·exact ⟨i,by omega,e⟩
theorem q7v {k i:Nat} {l:List Int} (h:i<k):gtI (winL iI 0 k l) i=gtI l i:=by
 show gt iI _ _=gt iI _ _
 unfold gt winL;rw[List.drop_zero,List.getElem?_take_of_lt h]
theorem qg0 {l:List Int} {k i:Nat} {z:List Int} (h:i<k) (hk:k<=l.length):gtI (setRow l k z) i=gtI l i:=by
 show gt iI _ _=gt iI _ _
 unfold gt setRow;rw[List.append_assoc,List.getElem?_append_left (by rw[List.length_take];omega),List.getElem?_take_of_lt h]
theorem q4f {L:List Int} (hs:srt L.length L):∀ (f k:Nat),k+f=L.length->1<=k->inc k L ->
  (cpI f k L).2.1<=L.length/\(cpI f k L).2.2.length=L.length/\inc (cpI f k L).2.1 (cpI f k L).2.2/\∀ x,inI' (cpI f k L).2.1 (cpI f k L).2.2 x↔inI' L.length L x
 | 0,k,hf,hk,hi=>by
  rw[cpI];rw[show k=L.length by omega] at hi;exact ⟨Nat.le_refl _,rfl,hi,fun x=>Iff.rfl⟩
 | f+1,k,hf,hk,hi=>by
  rw[cpI];split
  ·rename_i heq
   obtain ⟨r1,r2,r3,r4⟩:=qzk hs (lo:=k) (L.length-k-1) 1 k L rfl (by omega) (Nat.le_refl _) hk (Nat.le_refl _) hi (fun x=>by
    constructor
    ·rintro ⟨i,hi3,e⟩;exact ⟨i,by omega,e⟩
    ·rintro ⟨i,hi3,e⟩;by_cases h3:i=k
     ·exact ⟨k-1,by omega,by rw[<- heq,<- h3];exact e⟩
     ·exact ⟨i,by omega,e⟩) (by rw[show k+1-1=k by omega];exact heq.symm) (fun i _=>rfl)
   unfold cpZ;refine ⟨r1,?_,fun a b hab hb=>?_,fun x=>?_⟩
   ·show (setRow _ _ _).length=_
    unfold setRow;simp only[List.length_append,List.length_take,List.length_replicate,List.length_drop];omega
   ·show gtI (setRow _ _ _) a<gtI (setRow _ _ _) b
    have hb:b<(cpJ k (L.length-k-1) 1 k L).1:=hb;rw[qg0 (by omega) (by omega),qg0 hb (by omega)];exact r3 a b hab hb
   ·rw[<- r4 x];constructor
    ·rintro ⟨i,hi3,e⟩;have hi3:i<(cpJ k (L.length-k-1) 1 k L).1:=hi3;have e:gtI (setRow _ _ _) i=x:=e;rw[qg0 hi3 (by omega)] at e;exact ⟨i,hi3,e⟩
    ·rintro ⟨i,hi3,e⟩;refine ⟨i,hi3,?_⟩
     show gtI (setRow _ _ _) i=x
     rw[qg0 hi3 (by omega)];exact e
  ·rename_i hne;refine q4f hs f (k+1) (by omega) (by omega) fun a b hab hb=>?_
   by_cases e:b=k
   ·subst e;have h1:=hs (b-1) b (by omega) (by omega);by_cases e2:a=b-1
    ·subst e2;omega
    ·have:=hi a (b-1) (by omega) (by omega);omega
   ·exact hi a b hab (by omega)
theorem qzj {L:List Int} (hs:srt L.length L):(cptV L).2.1<=L.length/\(cptV L).2.2.length=L.length/\inc (cptV L).2.1 (cptV L).2.2/\∀ x,inI' (cptV L).2.1 (cptV L).2.2 x↔inI' L.length L x:=by
 unfold cptV;by_cases h:L.length=0
 ·rw[show L.length-1=0 by omega,cpI];exact ⟨Nat.le_refl _,rfl,fun a b _ hb=>by have hb:b<L.length:=hb;omega,fun x=>Iff.rfl⟩
 ·exact q4f hs _ 1 (by omega) (Nat.le_refl _) (fun a b hab hb=>by omega)
theorem qw1 {l:List Int} (hi:inc l.length l) {p:Nat} (hp:p<l.length):∀ (k i j:Nat),j-i<=k->i<=p->p<=j->j<=l.length->seaF l (gtI l p) k i j=p
 | 0,i,j,hk,h1,h2,h3=>by rw[seaF];omega
 | k+1,i,j,hk,h1,h2,h3=>by
  rw[seaF];split
  ·rename_i hij;split
   ·rename_i hge;refine qw1 hi hp k i ((i+j) / 2) (by omega) h1 ?_ (by omega);by_cases e:(i+j) / 2<p
    ·have:=hi _ _ e hp;omega
    ·omega
   ·rename_i hlt;refine qw1 hi hp k ((i+j) / 2+1) j (by omega) ?_ h2 h3;by_cases e:p<(i+j) / 2+1
    ·by_cases e2:p=(i+j) / 2
     ·rw[<- e2] at hlt;omega
     ·have:=hi p ((i+j) / 2) (by omega) (by omega);omega
    ·omega
  ·omega
theorem zaq {l:List Int} (hi:inc l.length l) {p:Nat} (hp:p<l.length):iofV l (gtI l p)=p:=qw1 hi hp _ 0 _ (by omega) (Nat.zero_le _) (by omega) (Nat.le_refl _)
theorem ql0 (l:List Int):(qb1 l).length=(tgV l).2.1/\inc (qb1 l).length (qb1 l)/\(qb1 l).length<=(lnk l).length/\∀ x,inI' (qb1 l).length (qb1 l) x↔x∈tgO (lnk l):=by
 obtain ⟨s1,s2⟩:=qrc (tgO (lnk l));have sl:=qfs (tgO (lnk l));obtain ⟨c1,c2,c3,c4⟩:=qzj (L:=qdn (tgO (lnk l))) (by rw[sl];exact s1);have hlen:(qb1 l).length=(tgV l).2.1:=by
  unfold qb1 winL;rw[List.drop_zero,List.length_take]
  show min (cptV _).2.1 (cptV _).2.2.length=(cptV _).2.1
  omega
 have hgl:∀ i,i<(tgV l).2.1->gtI (qb1 l) i=gtI (tgV l).2.2 i:=fun i hi=>q7v hi
 refine ⟨hlen,fun a b hab hb=>?_,?_,fun x=>?_⟩
 ·rw[hlen] at hb;rw[hgl a (by omega),hgl b hb];exact c3 a b hab hb
 ·rw[hlen];have:(tgO (lnk l)).length=(lnk l).length:=by unfold tgO;rw[List.length_map]
  show (cptV _).2.1<=_
  omega
 ·rw[hlen];have h1:inI' (tgV l).2.1 (qb1 l) x↔inI' (tgV l).2.1 (tgV l).2.2 x:=by
   constructor
   ·rintro ⟨i,hi,e⟩;exact ⟨i,hi,by rw[<- hgl i hi];exact e⟩
   ·rintro ⟨i,hi,e⟩;exact ⟨i,hi,by rw[hgl i hi];exact e⟩
  rw[h1,show inI' (tgV l).2.1 (tgV l).2.2 x↔_ from c4 x,sl,s2 x];constructor
  ·rintro ⟨i,hi,e⟩;rw[<- e,show gtI (tgO (lnk l)) i=(tgO (lnk l))[i] from qcn hi];exact List.getElem_mem hi
  ·intro hx;obtain ⟨i,hi,e⟩:=List.getElem_of_mem hx;exact ⟨i,hi,by rw[show gtI (tgO (lnk l)) i=(tgO (lnk l))[i] from qcn hi];exact e⟩
theorem qt6 {l:List Int} {i j:Nat} {v:Int} (h:i<l.length):gtW (l.set i v) j=if j=i then v else gtW l j:=by
 show gt u4 _ j=_
 unfold gt;by_cases e:j=i
 ·subst e;rw[if_pos rfl,List.getElem?_set_self h];rfl
 ·rw[if_neg e,List.getElem?_set_ne (fun q=>e q.symm)];rfl
theorem q38 {l:List Bool} {i j:Nat} {v:Bool} (h:i<l.length):gtM (l.set i v) j=if j=i then v else gtM l j:=by
 show gt Sh.bool _ j=_
 unfold gt;by_cases e:j=i
 ·subst e;rw[if_pos rfl,List.getElem?_set_self h];rfl
 ·rw[if_neg e,List.getElem?_set_ne (fun q=>e q.symm)];rfl
theorem q34 (l lab:List Int):∀ (rs:List (Nat × InT)) (w:List Int) (m:List Bool),(lfF l lab rs w m).1.length=w.length/\(lfF l lab rs w m).2.length=m.length
 | [],w,m=>⟨rfl,rfl⟩
 | r::rs,w,m=>by
  rw[lfF];obtain ⟨h1,h2⟩:=q34 l lab rs (w.set r.1 (lfW l lab r.1 r.2)) (m.set r.1 true);rw[List.length_set] at h1 h2;exact ⟨h1,h2⟩
theorem qyq {l lab:List Int} {i:Nat}:∀ (rs:List (Nat × InT)) (w:List Int) (m:List Bool),(∀ r∈rs,r.1<w.length)->w.length=m.length->(∀ r∈rs,r.1≠i)->gtW (lfF l lab rs w m).1 i=gtW w i/\gtM (lfF l lab rs w m).2 i=gtM m i
 | [],w,m,_,_,_=>⟨rfl,rfl⟩
 | r::rs,w,m,h,he,hn=>by
  rw[lfF];have h0:=h r (List.mem_cons_self ..);obtain ⟨h1,h2⟩:=qyq rs (w.set r.1 (lfW l lab r.1 r.2)) (m.set r.1 true) (fun x hx=>by rw[List.length_set];exact h x (List.mem_cons_of_mem _ hx)) (by rw[List.length_set,List.length_set];exact he) (fun x hx=>hn x (List.mem_cons_of_mem _ hx));have hi:=hn r (List.mem_cons_self ..);rw[h1,h2,qt6 h0,q38 (by omega),if_neg (fun q=>hi q.symm),if_neg (fun q=>hi q.symm)];exact ⟨rfl,rfl⟩
theorem qyp {l lab:List Int}:∀ (rs:List (Nat × InT)) (w:List Int) (m:List Bool),(∀ r∈rs,r.1<w.length)->w.length=m.length->rs.Pairwise (fun a b=>a.1<b.1)->∀ r∈rs,gtW (lfF l lab rs w m).1 r.1=lfW l lab r.1 r.2/\gtM (lfF l lab rs w m).2 r.1=true
 | [],_,_,_,_,_,r,hr=>by cases hr
 | q::rs,w,m,h,he,hp,r,hr=>by
  rw[lfF];have h0:=h q (List.mem_cons_self ..);rw[List.pairwise_cons] at hp;rcases List.mem_cons.1 hr with e | hr
  ·subst e;obtain ⟨h1,h2⟩:=qyq (l:=l) (lab:=lab) (i:=r.1) rs (w.set r.1 (lfW l lab r.1 r.2)) (m.set r.1 true) (fun x hx=>by rw[List.length_set];exact h x (List.mem_cons_of_mem _ hx)) (by rw[List.length_set,List.length_set];exact he) (fun x hx=>by have:=hp.1 x hx;omega);rw[h1,h2,qt6 h0,q38 (by omega),if_pos rfl,if_pos rfl];exact ⟨rfl,rfl⟩
  ·exact qyp rs (w.set q.1 (lfW l lab q.1 q.2)) (m.set q.1 true) (fun x hx=>by rw[List.length_set];exact h x (List.mem_cons_of_mem _ hx)) (by rw[List.length_set,List.length_set];exact he) hp.2 r hr
theorem qgy {n:Nat}:∀ (l:List Int) (i:Nat) (r:Nat × InT),r∈lnkF n i l↔∃ j,∃ h:j<l.length,r=(i+j,decT l[j] (4*((i+j:Nat):Int)))/\isLk n l[j] (i+j)=true
 | [],i,r=>⟨fun h=>(by cases h),fun ⟨j,h,_⟩=>(by simp at h)⟩
 | w::l,i,r=>by
  have ih:=qgy (n:=n) l (i+1) r;have tail:(r∈lnkF n (i+1) l)↔∃ j,∃ h:j+1<(w::l).length,r=(i+(j+1),decT (w::l)[j+1] (4*((i+(j+1):Nat):Int)))/\isLk n (w::l)[j+1] (i+(j+1))=true:=by
   rw[ih];constructor
   ·rintro ⟨j,h,e1,e2⟩;exact ⟨j,by simpa using h,by rw[show i+(j+1)=i+1+j by omega];exact e1,by rw[show i+(j+1)=i+1+j by omega];exact e2⟩
   ·rintro ⟨j,h,e1,e2⟩;exact ⟨j,by simpa using h,by rw[show i+1+j=i+(j+1) by omega];exact e1,by rw[show i+1+j=i+(j+1) by omega];exact e2⟩
  rw[lnkF];split
  ·rename_i hl;rw[List.mem_cons,tail];constructor
   ·rintro (e | ⟨j,h,e1,e2⟩)
    ·exact ⟨0,by simp,e,hl⟩
    ·exact ⟨j+1,h,e1,e2⟩
   ·rintro ⟨j,h,e1,e2⟩
    cases j with
    | zero=>exact .inl e1
    | succ j=>exact .inr ⟨j,h,e1,e2⟩
  ·rename_i hl;rw[tail];constructor
   ·rintro ⟨j,h,e1,e2⟩;exact ⟨j+1,h,e1,e2⟩
   ·rintro ⟨j,h,e1,e2⟩
    cases j with
    | zero=>exact absurd e2 hl
    | succ j=>exact ⟨j,h,e1,e2⟩
theorem qlx {n:Nat}:∀ (l:List Int) (i:Nat),(lnkF n i l).Pairwise (fun a b=>a.1<b.1)
 | [],i=>by rw[lnkF];exact List.Pairwise.nil
 | w::l,i=>by
  rw[lnkF];split
  ·rw[List.pairwise_cons];refine ⟨fun x hx=>?_,qlx l (i+1)⟩;obtain ⟨j,h,e,_⟩:=(qgy l (i+1) x).1 hx;rw[e]
   show i<i+1+j
   omega
  ·exact qlx l (i+1)
theorem q7d {l:List Int} {i:Nat} (h:i<l.length):(∃ r∈lnk l,r.1=i)↔isLk l.length l[i] i=true:=by
 constructor
 ·rintro ⟨r,hr,e⟩;obtain ⟨j,hj,e1,e2⟩:=(qgy l 0 r).1 hr;rw[e1] at e;have e:0+j=i:=e;have hji:j=i:=by omega
  subst hji;rw[Nat.zero_add] at e2;exact e2
 ·intro hl;exact ⟨(i,decT l[i] (4*(i:Int))),(qgy l 0 _).2 ⟨i,h,by rw[Nat.zero_add],by rw[Nat.zero_add];exact hl⟩,rfl⟩
theorem qyn (l:List Int):(lfV l).1.length=l.length/\(lfV l).2.length=l.length/\∀ i (h:i<l.length),gtM (lfV l).2 i=isLk l.length l[i] i /\
  (isLk l.length l[i] i=false->gtW (lfV l).1 i=l[i])/\(isLk l.length l[i] i=true->gtW (lfV l).1 i=lfW l (qb1 l) i (decT l[i] (4*(i:Int)))/\∃ p,p<(qb1 l).length/\gtI (qb1 l) p=(decT l[i] (4*(i:Int))).2.2.2.2/\iofV (qb1 l) (decT l[i] (4*(i:Int))).2.2.2.2=p):=by
 obtain ⟨g1,g2,g3,g4⟩:=ql0 l;obtain ⟨f1,f2⟩:=q34 l (qb1 l) (lnk l) l (List.replicate l.length false);rw[List.length_replicate] at f2;refine ⟨f1,f2,fun i h=>?_⟩
 cases hk:isLk l.length l[i] i with
 | false=>
  have hn:∀ r∈lnk l,r.1≠i:=fun r hr e=>by
   have:=(q7d h).1 ⟨r,hr,e⟩;rw[hk] at this;cases this
  obtain ⟨a1,a2⟩:=qyq (l:=l) (lab:=qb1 l) (i:=i) (lnk l) l (List.replicate l.length false) (qyh l) (by rw[List.length_replicate]) hn;refine ⟨?_,fun _=>?_,fun q=>by cases q⟩
  ·show gtM (lfF _ _ _ _ _).2 i=false
   rw[a2,qnc (by rw[List.length_replicate];exact h),List.getElem_replicate]
  ·show gtW (lfF _ _ _ _ _).1 i=l[i]
   rw[a1,qdf h]
 | true=>
  have hr:(i,decT l[i] (4*(i:Int)))∈lnk l:=(qgy l 0 _).2 ⟨i,h,by rw[Nat.zero_add],by rw[Nat.zero_add];exact hk⟩;obtain ⟨a1,a2⟩:=qyp (l:=l) (lab:=qb1 l) (lnk l) l (List.replicate l.length false) (qyh l) (by rw[List.length_replicate]) (qlx l 0) _ hr;refine ⟨a2,(fun q=>by cases q),fun _=>⟨a1,?_⟩⟩;have hm:(decT l[i] (4*(i:Int))).2.2.2.2∈tgO (lnk l):=List.mem_map.2 ⟨_,hr,rfl⟩;obtain ⟨p,hp,e⟩:=(g4 _).2 hm;exact ⟨p,hp,e,by rw[<- e];exact zaq g2 hp⟩
theorem qa9 (x:BitVec 32):BitVec.ofInt 32 (x.toNat:Int)=x:=by
 rw[BitVec.ofInt_natCast,BitVec.ofNat_toNat,BitVec.setWidth_eq]
theorem qq8 (x:BitVec 32):IntKind.u32.wrap (x.toNat:Int)=x.toNat:=by
 have:=x.isLt;rw[IntWalk.u32_in _ (by omega)]
theorem zbb (x y:BitVec 32):bitI .or .u32 (x.toNat:Int) (y.toNat:Int)=((x ||| y).toNat:Int):=by
 show IntKind.u32.wrap (((BitVec.ofInt 32 (x.toNat:Int)) ||| (BitVec.ofInt 32 (y.toNat:Int))).toNat:Int)=_
 rw[qa9,qa9,qq8]
theorem q8d (x y:BitVec 32):bitI .and .u32 (x.toNat:Int) (y.toNat:Int)=((x &&& y).toNat:Int):=by
 show IntKind.u32.wrap (((BitVec.ofInt 32 (x.toNat:Int)) &&& (BitVec.ofInt 32 (y.toNat:Int))).toNat:Int)=_
 rw[qa9,qa9,qq8]
theorem qv2 (x y:BitVec 32):bitI .andNot .u32 (x.toNat:Int) (y.toNat:Int)=((x &&& ~~~y).toNat:Int):=by
 show IntKind.u32.wrap (((BitVec.ofInt 32 (x.toNat:Int)) &&& ~~~(BitVec.ofInt 32 (y.toNat:Int))).toNat:Int)=_
 rw[qa9,qa9,qq8]
theorem qyd (k i:Nat) (hi:i<32):(BitVec.ofNat 32 (2 ^ k-1)).getLsbD i=decide (i<k):=by
 rw[BitVec.getLsbD_ofNat,Nat.testBit_two_pow_sub_one,decide_eq_true hi,Bool.true_and]
theorem q37 {p:Nat} (hp:p<65536) {i:Nat} (hi:16<=i):(BitVec.ofNat 32 p).getLsbD i=false:=by
 rw[BitVec.getLsbD_ofNat];have:p.testBit i=false:=Nat.testBit_lt_two_pow (Nat.lt_of_lt_of_le hp (Nat.pow_le_pow_right (by decide) hi:2 ^ 16<=2 ^ i));rw[this,Bool.and_false]
abbrev cdS (l:List (List Int)) (o:List Int) (N i:Nat):PS:=⟨[(0,.sl a4S l),(5,.win true u4 13 0 o.length),(6,.int .i64 (N:Nat)),(7,.int .i64 (i:Nat))],[(13,.row 50 u4 o)]⟩
noncomputable def CIv:CV:=[(8,.inl ctSanL),(20,.inl ctByt),(10,.inl ctLift),(14,.inl ctLower),(19,.inl ct_fo),(15,.inl ctRead),(18,.inl ct_r2),(17,.inl ct_r3)]
theorem cxIv:CxOK Tryd.prog tt G0 CIv:=(((((((cx0.cons qxc (fn:=Tryd.f17) rfl rfl rfl).cons qxd (fn:=Tryd.f18) rfl rfl rfl).cons qph (fn:=Tryd.f15) rfl rfl rfl).cons qsa (fn:=Tryd.f19) rfl rfl rfl).cons qgw (fn:=Tryd.f14) rfl rfl rfl).cons qlz (fn:=Tryd.f10) rfl rfl rfl).cons q2q (fn:=Tryd.f20) rfl rfl rfl).cons qyb (fn:=Tryd.f8) rfl rfl rfl
set_option maxRecDepth 100000
def ivW (l:List Int):List Int:=List.take (min (↑l.length:Int) (16:Int)).toNat l
def ivB (l:List Int):List Int:=winL uB 0 (bytL (ivW l)).length (bytL (ivW l))
def ivX (l:List Int):LfT:=qah (ivB l)
def ivU (l:List Int):List Int:=winL u4 0 (ivX l).w.length (ivX l).w
def ivM (l:List Int):List Bool:=winL Sh.bool 0 (ivX l).m.length (ivX l).m
def ivN (l:List Int):List Int:=winL iI 0 (ivX l).k (ivX l).t
def ivO (l:List Int):List Int × Int:=qa4 (ivU l) (ivM l) (ivN l)
def ivF (l:List Int):List Int:=qca (ivU l,ivM l,ivN l)
def ivR (l:List Int):LiT × Int:=qcc (winL uB 0 (ivF l).length (ivF l))
def qhw (l:List Int):List (Nat × LB):=[(5,.var [.win false u4 1081920 0 (ivX l).w.length,.win false Sh.bool 1081921 0 (ivX l).m.length,.win false iI 1081922 0 (ivX l).k]),(9,.var [.win true u4 1262144 0 (ivR l).1.1.length,.win true Sh.bool 1262145 0 (ivR l).1.2.1.length,.sl iI (ivR l).1.2.2]),(1069632,.row 5 uB (bytL (ivW l))),(1081920,.row 50 u4 (ivX l).w),(1081921,.row 4 Sh.bool (ivX l).m),(1081922,.row 3 iI (ivX l).t),(1102400,.row 5 uB (ivO l).1),(1262144,.row 50 u4 (ivR l).1.1),(1262145,.row 4 Sh.bool (ivR l).1.2.1)]
def qc3 (l:List Int):List (Nat × LB):=[(5,.var [.win false u4 1081920 0 (ivX l).w.length,.win false Sh.bool 1081921 0 (ivX l).m.length,.win false iI 1081922 0 (ivX l).k]),(1069632,.row 5 uB (bytL (ivW l))),(1081920,.row 50 u4 (ivX l).w),(1081921,.row 4 Sh.bool (ivX l).m),(1081922,.row 3 iI (ivX l).t),(1102400,.row 5 uB (ivO l).1)]
theorem q43 (l:List Int) (Q:QT) (R:RT):sy tt G0 CIv Tryd.f4.ntmps Tryd.f4.results.toList Q R 1000 [.code (qaf Tryd.f4)] (entry [.sl u4] (l,())) =
 (ctSanL.pre ()/\0<=min (l.length:Int) (16:Int)/\min (l.length:Int) (16:Int)<=(l.length:Int)/\ctByt.pre (ivW l,())/\0+(bytL (ivW l)).length<=(bytL (ivW l)).length/\ctLift.pre (ivB l,())/\0+(ivX l).w.length<=(ivX l).w.length/\0+(ivX l).m.length<=(ivX l).m.length/\0+(ivX l).k<=(ivX l).t.length/\ctLower.pre ((ivU l,ivM l,ivN l),())/\bc (decide ((ivX l).e≠0)) (true=true/\true=true/\true=true/\true=true/\true=true/\Q [.bool false] (qc3 l)) (bc (bif false then true else decide ((ivO l).2≠0)) (true=true/\true=true/\true=true/\true=true/\Q [.bool false] (qc3 l)) (0+(ivO l).1.length<=(ivO l).1.length/\0+(bytL (ivW l)).length<=(bytL (ivW l)).length/\ct_r2.pre (winL uB 0 (ivO l).1.length (ivO l).1,ivB l,())/\bc (bif false then true else !decide ((have this:=winL uB 0 (ivO l).1.length (ivO l).1;this)=ivB l)) (true=true/\true=true/\true=true/\Q [.bool false] (qc3 l)) (bc (bif false then true else decide ((16:Int)<(↑(ivX l).w.length:Int))) (true=true/\true=true/\Q [.bool false] (qc3 l)) (bc (bif false then true else decide ((16:Int)<(↑(ivX l).k:Int))) (true=true/\Q [.bool false] (qc3 l)) (bc (bif false then true else decide ((↑(ivX l).m.length:Int)≠(↑(ivX l).w.length:Int))) (Q [.bool false] (qc3 l)) (0+(ivX l).w.length<=(ivX l).w.length/\0+(ivX l).m.length<=(ivX l).m.length/\0+(ivX l).k<=(ivX l).t.length/\ct_fo.pre ((ivU l,ivM l,ivN l),())/\0+(ivF l).length<=(ivF l).length/\ctRead.pre (winL uB 0 (ivF l).length (ivF l),())/\bc (decide ((ivR l).2=0)) (0+(ivR l).1.1.length<=(ivR l).1.1.length/\0+(ivR l).1.2.1.length<=(ivR l).1.2.1.length/\0+(ivX l).w.length<=(ivX l).w.length/\0+(ivX l).m.length<=(ivX l).m.length/\0+(ivX l).k<=(ivX l).t.length/\ct_r3.pre ((winL u4 0 (ivR l).1.1.length (ivR l).1.1,winL Sh.bool 0 (ivR l).1.2.1.length (ivR l).1.2.1,(ivR l).1.2.2),(ivU l,ivM l,ivN l),())/\bc (decide ((have this:=(winL u4 0 (ivR l).1.1.length (ivR l).1.1,winL Sh.bool 0 (ivR l).1.2.1.length (ivR l).1.2.1,(ivR l).1.2.2);this)=(ivU l,ivM l,ivN l))) (Q [.bool true] (qhw l)) (false=false/\Q [.bool false] (qhw l))) (false=false/\false=false/\Q [.bool false] (qhw l))))))))):=by kernel_rfl
theorem q8k {a b c d:Int} (ha:u8R a) (hb:u8R b) (hc:u8R c) (hd:u8R d):0<=wd a b c d/\wd a b c d<4294967296:=by
 unfold u8R at ha hb hc hd;unfold wd;omega
theorem qmv:∀ (k:Nat) (b:List Int),u8L b->∀ w∈qbu k b,0<=w/\w<4294967296
 | 0,_,_,w,hw=>by cases hw
 | k+1,b,h,w,hw=>by
  rw[qbu] at hw;rcases List.mem_cons.1 hw with e | e
  ·rw[e];exact q8k (h 0) (h 1) (h 2) (h 3)
  ·exact qmv k _ (h.drop 4) w e
theorem qol (n:Nat):∀ (l:List Int) (i:Nat),(lnkF n i l).length<=l.length
 | [],_=>Nat.le_refl _
 | w::l,i=>by
  have:=qol n l (i+1);rw[lnkF];split
  ·rw[List.length_cons,List.length_cons];omega
  ·rw[List.length_cons];omega
theorem qzm {b:List Int} {n:Nat} (hb:b.length=4*n) (h8:∀ x∈b,0<=x/\x<256) (hn:n<=49) :
  (qag b).2=0/\(qag b).1.length=n/\(∀ w∈(qag b).1,0<=w/\w<4294967296)/\qho b:=by
 have e:qag b=(qbu (b.length / 4) b,0):=if_pos (by omega);have hl:(qag b).1.length=n:=by rw[e];show (qbu _ _).length=n;rw[qmw];omega
 have hr:∀ w∈(qag b).1,0<=w/\w<4294967296:=by rw[e];exact qmv _ _ (qo8 h8)
 have hk:(lnk (qag b).1).length<=49:=Nat.le_trans (qol _ _ _) (by omega);exact ⟨by rw[e],hl,hr,qjl h8 (by omega) hr (by omega) hk⟩
theorem q1n {b:List Int} (h:b.length<=65536) (h0:(qag b).2=0):qah b=⟨(lfV (qag b).1).1,(lfV (qag b).1).2,(tgV (qag b).1).2.1,(tgV (qag b).1).2.2,0⟩:=if_neg (by rintro (q | q);omega;exact q h0)
theorem qsi (o:Int):dbV o≠0↔5<=o/\o<=8:=by
 unfold dbV;split
 ·omega
 ·split <;> omega
open Go.IntKind(i64 u32 u8)
theorem u8w (n:Int):u8.wrap n=n % 256:=rfl
theorem by4_r (w:Int):∀ x∈by4 w,0<=x/\x<256:=fun x h=>by
 have r:∀ n:Int,0<=u8.wrap n/\u8.wrap n<256:=fun n=>by rw[u8w];omega
 unfold by4 at h;simp only[List.mem_cons,List.not_mem_nil,or_false] at h;rcases h with rfl | rfl | rfl | rfl <;> exact r _
theorem qum:∀ l,∀ x∈qao l,0<=x/\x<256
 | [],x,h=>by cases h
 | w::l,x,h=>by
  have h:x∈by4 w++qao l:=h;rcases List.mem_append.1 h with h | h
  ·exact by4_r w x h
  ·exact qum l x h
theorem q8l {w:Int} (h:0<=w/\w<4294967296) (r:List Int):wd (gtB (by4 w++r) 0) (gtB (by4 w++r) 1) (gtB (by4 w++r) 2) (gtB (by4 w++r) 3)=w:=by
 show wd (u8.wrap (Int.fdiv w 16777216)) (u8.wrap (Int.fdiv w 65536)) (u8.wrap (Int.fdiv w 256)) (u8.wrap w)=w
 rw[u8w,u8w,u8w,u8w,Int.fdiv_eq_ediv_of_nonneg _ (by decide),Int.fdiv_eq_ediv_of_nonneg _ (by decide),Int.fdiv_eq_ediv_of_nonneg _ (by decide)];unfold wd;omega
theorem qjy:∀ (l:List Int),(∀ w∈l,0<=w/\w<4294967296)->qbu l.length (qao l)=l
 | [],_=>rfl
 | w::l,h=>by
  have e:qao (w::l)=by4 w++qao l:=rfl;rw[List.length_cons,qbu,e,q8l (h w (List.mem_cons_self ..))];have d:(by4 w++qao l).drop 4=qao l:=rfl;rw[d,qjy l fun x hx=>h x (List.mem_cons_of_mem _ hx)]
theorem lfV_r {l:List Int} (h:∀ w∈l,0<=w/\w<4294967296):∀ w∈(lfV l).1,0<=w/\w<4294967296:=fun w hw=>by
 obtain ⟨f1,f2,f3⟩:=qyn l;obtain ⟨i,hi,e⟩:=List.getElem_of_mem hw;obtain ⟨m1,m2,m3⟩:=f3 i (by omega);have eg:gtW (lfV l).1 i=w:=by rw[qdf hi,e]
 rw[<- eg]
 cases hk:isLk l.length l[i] i with
 | false=>rw[m2 hk];exact h _ (List.getElem_mem _)
 | true=>rw[(m3 hk).1];unfold lfW;exact qoz ..
theorem zan (l:List Int):∀ x∈qb1 l,0<=x/\x<4*(l.length:Int):=fun x hx=>by
 obtain ⟨g1,g2,g3,g4⟩:=ql0 l;obtain ⟨i,hi,e⟩:=List.getElem_of_mem hx;obtain ⟨r,hr,er⟩:=List.mem_map.1 ((g4 x).1 ⟨i,hi,by rw[qcn hi,e]⟩);obtain ⟨j,hj,e1,e2⟩:=(qgy l 0 r).1 hr;simp only[Nat.zero_add] at e1 e2;unfold isLk at e2;rw[Bool.and_eq_true,Bool.and_eq_true,decide_eq_true_iff,decide_eq_true_iff,decide_eq_true_iff] at e2;rw[<- er,e1];exact e2.2
end Go.Proofs.YthejkhpeokeccaaDoor
namespace Go.Proofs.YthejkhpeokeccaaDoor.InM
open Go.Ax
theorem qbj {a:Int}:IntKind.u32.wrap a=a % 4294967296:=by rw[IntKind.wrap_u32]
def sgn (n m:Int):Int:=if m / 2<=n then n-m else n
structure Wd (w b0 b1 b2 b3:Int):Prop where
 e:w=16777216*b0+65536*b1+256*b2+b3
 h0:0<=b0/\b0<=255
 h1:0<=b1/\b1<=255
 h2:0<=b2/\b2<=255
 h3:0<=b3/\b3<=255
theorem wd (w:Int) (h0:0<=w) (h1:w<4294967296):Wd w (w / 16777216 % 256) (w / 65536 % 256) (w / 256 % 256) (w % 256):=⟨by omega,by omega,by omega,by omega,by omega⟩
def opS (b0 b1 b2 b3:Int):Int:=
 if 9<=b0 then 0
 else if b0=1\/b0=3\/b0=4 then (if b1<=15/\b2<=15/\b3<=15 then b0 else 0)
 else if b0=2\/b0=7\/b0=8 then (if b1<=15 then b0 else 0)
 else b0
structure I5 where
 o:Int
 a:Int
 b:Int
 c:Int
 n:Int
def decO (o w b1 b2 b3 at_:Int):I5:=
 if o=0 then ⟨0,0,0,0,w⟩
 else if o=1\/o=3\/o=4 then ⟨o,b1,b2,b3,0⟩
 else if o=2 then ⟨2,b1,0,0,w % 65536⟩
 else if o=5\/o=6 then ⟨o,0,0,0,at_+4*sgn (w % 16777216) 16777216⟩
 else if o=7 then ⟨7,b1,0,0,at_+4*sgn (w % 65536) 65536⟩
 else ⟨8,b1,0,0,at_+4*(w % 65536)⟩
def decI (w at_:Int):I5:=decO (opS (w / 16777216 % 256) (w / 65536 % 256) (w / 256 % 256) (w % 256)) w (w / 65536 % 256) (w / 256 % 256) (w % 256) at_
def asmN (o n at_:Int):Int:=if 5<=o then (IntKind.i64.wrap (n-at_)).tdiv 4 else n
def asmL (o n at_:Int):Int:=
 let m:=asmN o n at_ % 4294967296
 if o=0 then m else if o=5\/o=6 then m % 16777216 else if o=2\/o=7\/o=8 then m % 65536 else 0
def asm (x:I5) (at_:Int):Int:=
 orW .u32 (orW .u32 (orW .u32 (orW .u32 (asmL x.o x.n at_) (x.o*16777216)) (x.a % 256*65536)) (x.b % 256*256)) (x.c % 256)
inductive OkI (at_:Int):I5->Prop
 | data {n} (h0:0<=n) (h1:n<4294967296) (h:opS (n / 16777216 % 256) (n / 65536 % 256) (n / 256 % 256) (n % 256)=0):OkI at_ ⟨0,0,0,0,n⟩
 | regs {o a b c} (ho:o=1\/o=3\/o=4) (ha:0<=a/\a<=15) (hb:0<=b/\b<=15) (hc:0<=c/\c<=15):OkI at_ ⟨o,a,b,c,0⟩
 | set {a n} (ha:0<=a/\a<=15) (hn:0<=n/\n<65536):OkI at_ ⟨2,a,0,0,n⟩
 | jump {o d} (ho:o=5\/o=6) (hd : -8388608<=d/\d<8388608):OkI at_ ⟨o,0,0,0,at_+4*d⟩
 | branch {a d} (ha:0<=a/\a<=15) (hd : -32768<=d/\d<32768):OkI at_ ⟨7,a,0,0,at_+4*d⟩
 | pool {a d} (ha:0<=a/\a<=15) (hd:0<=d/\d<65536):OkI at_ ⟨8,a,0,0,at_+4*d⟩
theorem sgn24 {n:Int} (h0:0<=n) (h1:n<16777216) : -8388608<=sgn n 16777216/\sgn n 16777216<8388608:=by unfold sgn;split <;> omega
theorem sgn16 {n:Int} (h0:0<=n) (h1:n<65536) : -32768<=sgn n 65536/\sgn n 65536<32768:=by unfold sgn;split <;> omega
inductive OpC (b0 b1 b2 b3:Int):Int->Prop
 | data (h:opS b0 b1 b2 b3=0):OpC b0 b1 b2 b3 0
 | regs {o} (ho:o=1\/o=3\/o=4) (e:b0=o) (h1:b1<=15) (h2:b2<=15) (h3:b3<=15):OpC b0 b1 b2 b3 o
 | set (e:b0=2) (h1:b1<=15):OpC b0 b1 b2 b3 2
 | jump {o} (ho:o=5\/o=6) (e:b0=o):OpC b0 b1 b2 b3 o
 | branch (e:b0=7) (h1:b1<=15):OpC b0 b1 b2 b3 7
 | pool (e:b0=8) (h1:b1<=15):OpC b0 b1 b2 b3 8
theorem opC {b0 b1 b2 b3:Int} (h0:0<=b0):OpC b0 b1 b2 b3 (opS b0 b1 b2 b3):=by
 by_cases hz:opS b0 b1 b2 b3=0
 ·rw[hz];exact .data hz
 ·by_cases h9:9<=b0
  ·exact absurd (by unfold opS;rw[if_pos h9]) hz
  ·by_cases h3:b0=1\/b0=3\/b0=4
   ·by_cases hr:b1<=15/\b2<=15/\b3<=15
    ·have:opS b0 b1 b2 b3=b0:=by unfold opS;rw[if_neg h9,if_pos h3,if_pos hr]
     rw[this];exact .regs h3 rfl hr.1 hr.2.1 hr.2.2
    ·exact absurd (by unfold opS;rw[if_neg h9,if_pos h3,if_neg hr]) hz
   ·by_cases h1:b0=2\/b0=7\/b0=8
    ·by_cases hr:b1<=15
     ·have:opS b0 b1 b2 b3=b0:=by unfold opS;rw[if_neg h9,if_neg h3,if_pos h1,if_pos hr]
      rw[this];rcases h1 with h1 | h1 | h1
      ·rw[h1];exact .set rfl hr
      ·rw[h1];exact .branch rfl hr
      ·rw[h1];exact .pool rfl hr
     ·exact absurd (by unfold opS;rw[if_neg h9,if_neg h3,if_pos h1,if_neg hr]) hz
    ·have:opS b0 b1 b2 b3=b0:=by unfold opS;rw[if_neg h9,if_neg h3,if_neg h1]
     rw[this];rw[this] at hz;exact .jump (by omega) rfl
theorem ok_dec {w:Int} (h0:0<=w) (h1:w<4294967296) (at_:Int):OkI at_ (decI w at_):=by
 unfold decI;have hw:=wd w h0 h1;generalize hb0:w / 16777216 % 256=b0 at hw;generalize hb1:w / 65536 % 256=b1 at hw;generalize hb2:w / 256 % 256=b2 at hw;generalize hb3:w % 256=b3 at hw;have hc:=opC (b1:=b1) (b2:=b2) (b3:=b3) hw.h0.1;have hr1:=hw.h1;have hr2:=hw.h2;have hr3:=hw.h3;generalize ho:opS b0 b1 b2 b3=o at hc
 cases hc with
 | data h=>
  refine .data h0 h1 ?_;rw[hb0,hb1,hb2,hb3];exact ho
 | regs ho' e x1 x2 x3=>
  have:decO o w b1 b2 b3 at_=⟨o,b1,b2,b3,0⟩:=by unfold decO;rw[if_neg (by omega),if_pos ho']
  rw[this];exact .regs ho' ⟨hr1.1,x1⟩ ⟨hr2.1,x2⟩ ⟨hr3.1,x3⟩
 | set e x1=>exact .set ⟨hr1.1,x1⟩ ⟨Int.emod_nonneg _ (by decide),Int.emod_lt_of_pos _ (by decide)⟩
 | jump ho' e=>
  have:decO o w b1 b2 b3 at_=⟨o,0,0,0,at_+4*sgn (w % 16777216) 16777216⟩:=by unfold decO;rw[if_neg (by omega),if_neg (by omega),if_neg (by omega),if_pos ho']
  rw[this];exact .jump ho' (sgn24 (Int.emod_nonneg _ (by decide)) (Int.emod_lt_of_pos _ (by decide)))
 | branch e x1=>exact .branch ⟨hr1.1,x1⟩ (sgn16 (Int.emod_nonneg _ (by decide)) (Int.emod_lt_of_pos _ (by decide)))
 | pool e x1=>exact .pool ⟨hr1.1,x1⟩ ⟨Int.emod_nonneg _ (by decide),Int.emod_lt_of_pos _ (by decide)⟩
theorem orA (m:Nat) {a b:Int} (h0:0<=a) (h1:a+b<4294967296) (h2:a % 2 ^ m=0) (h3:0<=b) (h4:b<2 ^ m):orW .u32 a b=a+b:=
 q6r m h0 (by simpa [IntKind.bits] using h1) h2 h3 h4 (IntWalk.u32_in _ (by omega))
theorem orB (m:Nat) {a b:Int} (h0:0<=b) (h1:a+b<4294967296) (h2:b % 2 ^ m=0) (h3:0<=a) (h4:a<2 ^ m):orW .u32 a b=a+b:=by
 rw[qtx,orA m h0 (by omega) h2 h3 h4];omega
theorem or0 {a:Int} (h0:0<=a) (h1:a<4294967296):orW .u32 a 0=a:=by
 have:=orA 0 (a:=a) (b:=0) h0 (by omega) (by simp) (by omega) (by simp);simpa using this
theorem qio (a b:Int):orW .u32 a b=(((BitVec.ofInt 32 a) ||| (BitVec.ofInt 32 b)).toNat:Int):=by
 unfold orW;rw[qbj];have:=((BitVec.ofInt 32 a) ||| (BitVec.ofInt 32 b)).isLt
 show ((((BitVec.ofInt 32 a) ||| (BitVec.ofInt 32 b)).toNat:Nat):Int) % 4294967296=_
 omega
theorem qll (a b c:Int):orW .u32 (orW .u32 a b) c=orW .u32 a (orW .u32 b c):=by
 rw[qio (orW .u32 a b),qio a (orW .u32 b c),qio a b,qio b c];have h:∀ x:BitVec 32,BitVec.ofInt 32 (x.toNat:Int)=x:=fun x=>by
  rw[BitVec.ofInt_natCast,BitVec.ofNat_toNat,BitVec.setWidth_eq]
 rw[h,h,BitVec.or_assoc]
theorem zbc (x:I5) (at_:Int):asm x at_=orW .u32 (asmL x.o x.n at_) (orW .u32 (x.o*16777216) (orW .u32 (x.a % 256*65536) (orW .u32 (x.b % 256*256) (x.c % 256)))):=by
 unfold asm;rw[qll,qll,qll]
theorem or00:orW .u32 0 0=0:=or0 (by decide) (by decide)
theorem qsn {o d at_:Int} (ho:5<=o) (hd : -16777216<=d/\d<=16777216):asmN o (at_+4*d) at_=d:=by
 unfold asmN;rw[if_pos ho,show at_+4*d-at_=4*d by omega,IntWalk.i64_in _ (by omega),Int.mul_tdiv_cancel_left _ (by decide)]
def form (x:I5) (at_:Int):Int:=
 if x.o=0 then x.n
 else if x.o=1\/x.o=3\/x.o=4 then x.o*16777216+(x.a*65536+(x.b*256+x.c))
 else if x.o=2 then x.n+(2*16777216+x.a*65536)
 else if x.o=5\/x.o=6 then (x.n-at_) / 4 % 16777216+x.o*16777216
 else (x.n-at_) / 4 % 65536+(x.o*16777216+x.a*65536)
theorem asm_form {x:I5} {at_:Int} (h:OkI at_ x):asm x at_=form x at_:=by
 rw[zbc];cases h with
 | @data n h0 h1 h=>
  simp only[asmL,asmN,form];rw[show (0:Int)*16777216=0 from rfl,show (0:Int) % 256*65536=0 from rfl,show (0:Int) % 256*256=0 from rfl,show (0:Int) % 256=0 from rfl,or00,or00,or00];simp only[if_true,show ¬ (5:Int)<=0 by decide,if_false];rw[Int.emod_eq_of_lt h0 h1,or0 h0 h1]
 | @regs o a b c ho ha hb hc=>
  have hl:asmL o 0 at_=0:=by
   unfold asmL asmN;simp only;rw[if_neg (by omega),if_neg (by omega),if_neg (by omega)]
  simp only[hl,form];rw[if_neg (by omega),if_pos ho,show a % 256=a by omega,Int.emod_eq_of_lt (by omega:0<=b) (by omega),Int.emod_eq_of_lt (by omega:0<=c) (by omega)];rw[orA 8 (a:=b*256) (by omega) (by omega) (by omega) (by omega) (by omega)];rw[orA 16 (a:=a*65536) (by omega) (by omega) (by omega) (by omega) (by omega)];rw[orA 24 (a:=o*16777216) (by omega) (by omega) (by omega) (by omega) (by omega)];rw[qtx,or0 (by omega) (by omega)]
 | @set a n ha hn=>
  have hl:asmL 2 n at_=n:=by
   have hN:asmN 2 n at_=n:=if_neg (by decide);unfold asmL;simp only[hN];rw[if_neg (by decide),if_neg (by decide),if_pos (by decide)];omega
  simp only[hl,form];rw[if_neg (by omega),if_neg (by omega),if_pos trivial,show a % 256=a by omega];rw[show (0:Int) % 256*256=0 from rfl,show (0:Int) % 256=0 from rfl,or00,or0 (a:=a*65536) (by omega) (by omega)];rw[orA 24 (a:=2*16777216) (b:=a*65536) (by decide) (by omega) (by decide) (by omega) (by omega)];rw[orB 16 (b:=2*16777216+a*65536) (by omega) (by omega) (by omega) (by omega) (by omega)]
 | @jump o d ho hd=>
  have hl:asmL o (at_+4*d) at_=d % 16777216:=by
   unfold asmL;simp only;rw[qsn (by omega) (by omega),if_neg (by omega),if_pos ho];omega
  simp only[hl,form];rw[if_neg (by omega),if_neg (by omega),if_neg (by omega),if_pos ho,show (at_+4*d-at_) / 4=d by omega];rw[show (0:Int) % 256*65536=0 from rfl,show (0:Int) % 256*256=0 from rfl,show (0:Int) % 256=0 from rfl,or00,or00,or0 (a:=o*16777216) (by omega) (by omega)];rw[orB 24 (b:=o*16777216) (by omega) (by omega) (by omega) (by omega) (by omega)]
 | @branch a d ha hd=>
  have hl:asmL 7 (at_+4*d) at_=d % 65536:=by
   unfold asmL;simp only;rw[qsn (by omega) (by omega),if_neg (by decide),if_neg (by decide),if_pos (by decide)];omega
  simp only[hl,form];rw[if_neg (by omega),if_neg (by omega),if_neg (by omega),if_neg (by omega),show (at_+4*d-at_) / 4=d by omega,show a % 256=a by omega];rw[show (0:Int) % 256*256=0 from rfl,show (0:Int) % 256=0 from rfl,or00,or0 (a:=a*65536) (by omega) (by omega)];rw[orA 24 (a:=7*16777216) (b:=a*65536) (by decide) (by omega) (by decide) (by omega) (by omega)];rw[orB 16 (b:=7*16777216+a*65536) (by omega) (by omega) (by omega) (by omega) (by omega)]
 | @pool a d ha hd=>
  have hl:asmL 8 (at_+4*d) at_=d % 65536:=by
   unfold asmL;simp only;rw[qsn (by omega) (by omega),if_neg (by decide),if_neg (by decide),if_pos (by decide)];omega
  simp only[hl,form];rw[if_neg (by omega),if_neg (by omega),if_neg (by omega),if_neg (by omega),show (at_+4*d-at_) / 4=d by omega,show a % 256=a by omega];rw[show (0:Int) % 256*256=0 from rfl,show (0:Int) % 256=0 from rfl,or00,or0 (a:=a*65536) (by omega) (by omega)];rw[orA 24 (a:=8*16777216) (b:=a*65536) (by decide) (by omega) (by decide) (by omega) (by omega)];rw[orB 16 (b:=8*16777216+a*65536) (by omega) (by omega) (by omega) (by omega) (by omega)]
theorem OkI.o_range {x:I5} {at_:Int} (h:OkI at_ x):0<=x.o/\x.o<=8:=by
 cases h <;> simp only <;> omega
open Go.Px Go.Ax
open Go.IntKind(i64 u32 u8)
theorem oc0 (w:Int):octV w 0=w / 16777216 % 256:=by
 unfold octV;rw[show (2:Int) ^ (24-8*(0:Int)).toNat=16777216 from by decide]
theorem oc1 (w:Int):octV w 1=w / 65536 % 256:=by
 unfold octV;rw[show (2:Int) ^ (24-8*(1:Int)).toNat=65536 from by decide]
theorem oc2 (w:Int):octV w 2=w / 256 % 256:=by
 unfold octV;rw[show (2:Int) ^ (24-8*(2:Int)).toNat=256 from by decide]
theorem oc3 (w:Int):octV w 3=w % 256:=by
 unfold octV;rw[show (2:Int) ^ (24-8*(3:Int)).toNat=1 from by decide,Int.ediv_one]
theorem lw0 (w:Int):lowV w 0=0:=by
 unfold lowV;rw[show (2:Int) ^ (32-(0:Int)).toNat=4294967296 from by decide];omega
theorem lw16 (w:Int):lowV w 16=w % 65536:=by
 unfold lowV;rw[show (2:Int) ^ (32-(16:Int)).toNat=65536 from by decide];omega
theorem lw24 (w:Int):lowV w 24=w % 16777216:=by
 unfold lowV;rw[show (2:Int) ^ (32-(24:Int)).toNat=256 from by decide];omega
theorem lw32 (w:Int):lowV w 32=w % 4294967296:=by
 unfold lowV;rw[show (2:Int) ^ (32-(32:Int)).toNat=1 from by decide];omega
theorem ls16 (w:Int):qkm w 16=sgn (w % 65536) 65536:=by
 unfold qkm;rw[show (2:Int) ^ (32-(16:Int)).toNat=65536 from by decide,IntKind.wrap_i32];unfold sgn;split <;> omega
theorem ls24 (w:Int):qkm w 24=sgn (w % 16777216) 16777216:=by
 unfold qkm;rw[show (2:Int) ^ (32-(24:Int)).toNat=256 from by decide,IntKind.wrap_i32];unfold sgn;split <;> omega
theorem opV_opS (w:Int):opV w=opS (w / 16777216 % 256) (w / 65536 % 256) (w / 256 % 256) (w % 256):=by
 unfold opV badR;rw[oc0,oc1,oc2,oc3];generalize hb0:w / 16777216 % 256=b0;generalize w / 65536 % 256=b1;generalize w / 256 % 256=b2;generalize w % 256=b3;have h0:0<=b0:=by omega
 unfold opS;by_cases h9:9<=b0
 ·rw[if_pos h9,if_pos h9]
 ·rw[if_neg h9,if_neg h9];clear hb0;rcases nine b0 h0 (by omega) with rfl | rfl | rfl | rfl | rfl | rfl | rfl | rfl | rfl <;> simp[regs] <;> (repeat' split) <;> omega
theorem key (w t:Int):∀ o,opV w=o->decN w t=[o,rg w (regs o) 0,rg w (regs o) 1,rg w (regs o) 2,numN w t (kd o).2.2.1 (kd o).2.2.2.1 (kd o).2.2.2.2]:=by
 rintro _ rfl;rfl
def toL (x:I5):List Int:=[x.o,x.a,x.b,x.c,x.n]
theorem rg3 (w:Int):rg w 3 0=octV w 1/\rg w 3 1=octV w 2/\rg w 3 2=octV w 3:=⟨by unfold rg;rw[if_pos (by decide)];rfl,by unfold rg;rw[if_pos (by decide)];rfl,by unfold rg;rw[if_pos (by decide)];rfl⟩
theorem rg1 (w:Int):rg w 1 0=octV w 1/\rg w 1 1=0/\rg w 1 2=0:=⟨by unfold rg;rw[if_pos (by decide)];rfl,by unfold rg;rw[if_neg (by decide)],by unfold rg;rw[if_neg (by decide)]⟩
theorem rg0 (w:Int):rg w 0 0=0/\rg w 0 1=0/\rg w 0 2=0:=⟨by unfold rg;rw[if_neg (by decide)],by unfold rg;rw[if_neg (by decide)],by unfold rg;rw[if_neg (by decide)]⟩
theorem decN_eq {w:Int} (h0:0<=w) (h1:w<4294967296) (t:Int):decN w t=toL (decI w t):=by
 have k:=key w t _ rfl;rw[k,opV_opS];unfold decI;have hc:=opC (b0:=w / 16777216 % 256) (b1:=w / 65536 % 256) (b2:=w / 256 % 256) (b3:=w % 256) (by omega);generalize opS (w / 16777216 % 256) (w / 65536 % 256) (w / 256 % 256) (w % 256)=o at hc;have h15:o=0\/o=1\/o=2\/o=3\/o=4\/o=5\/o=6\/o=7\/o=8:=by
  cases hc <;> omega
 clear hc k;rcases h15 with rfl | rfl | rfl | rfl | rfl | rfl | rfl | rfl | rfl
 ·rw[show regs 0=0 from by decide,(rg0 w).1,(rg0 w).2.1,(rg0 w).2.2]
  show [0,0,0,0,lowV w 32]=[0,0,0,0,w]
  rw[lw32,Int.emod_eq_of_lt h0 h1]
 ·rw[show regs 1=3 from by decide,(rg3 w).1,(rg3 w).2.1,(rg3 w).2.2,oc1,oc2,oc3]
  show [1,_,_,_,lowV w 0]=[1,_,_,_,0]
  rw[lw0];rfl
 ·rw[show regs 2=1 from by decide,(rg1 w).1,(rg1 w).2.1,(rg1 w).2.2,oc1]
  show [2,_,0,0,lowV w 16]=[2,_,0,0,w % 65536]
  rw[lw16];rfl
 ·rw[show regs 3=3 from by decide,(rg3 w).1,(rg3 w).2.1,(rg3 w).2.2,oc1,oc2,oc3]
  show [3,_,_,_,lowV w 0]=[3,_,_,_,0]
  rw[lw0];rfl
 ·rw[show regs 4=3 from by decide,(rg3 w).1,(rg3 w).2.1,(rg3 w).2.2,oc1,oc2,oc3]
  show [4,_,_,_,lowV w 0]=[4,_,_,_,0]
  rw[lw0];rfl
 ·rw[show regs 5=0 from by decide,(rg0 w).1,(rg0 w).2.1,(rg0 w).2.2]
  show [5,0,0,0,t+4*qkm w 24]=[5,0,0,0,t+4*sgn (w % 16777216) 16777216]
  rw[ls24]
 ·rw[show regs 6=0 from by decide,(rg0 w).1,(rg0 w).2.1,(rg0 w).2.2]
  show [6,0,0,0,t+4*qkm w 24]=[6,0,0,0,t+4*sgn (w % 16777216) 16777216]
  rw[ls24]
 ·rw[show regs 7=1 from by decide,(rg1 w).1,(rg1 w).2.1,(rg1 w).2.2,oc1]
  show [7,_,0,0,t+4*qkm w 16]=[7,_,0,0,t+4*sgn (w % 65536) 65536]
  rw[ls16];rfl
 ·rw[show regs 8=1 from by decide,(rg1 w).1,(rg1 w).2.1,(rg1 w).2.2,oc1]
  show [8,_,0,0,t+4*lowV w 16]=[8,_,0,0,t+4*(w % 65536)]
  rw[lw16];rfl
theorem OkI.bounds {x:I5} {t:Int} (h:OkI t x) (ht:0<=t/\t<=65540):(0<=x.a/\x.a<=15)/\(0<=x.b/\x.b<=15)/\(0<=x.c/\x.c<=15) /\ -5000000000<=x.n/\x.n<=5000000000:=by
 cases h <;> simp only <;> omega
theorem q8e (a b:Int):bitI .or .u32 a b=orW .u32 a b:=rfl
theorem sh24:min (Int.toNat 24) u32.bits=24:=rfl
theorem sh16:min (Int.toNat 16) u32.bits=16:=rfl
theorem sh8:min (Int.toNat 8) u32.bits=8:=rfl
theorem asmV_asm {x:I5} {t:Int} (h:OkI t x) (ht:0<=t/\t<=65540):asmV x.o x.a x.b x.c x.n t=asm x t:=by
 have hb:=h.bounds ht;have ho:=h.o_range;unfold asmV asm;simp only[q8e];rw[sh24,sh16,sh8];have e1:∀ z:Int,0<=z->z<=15->u8.wrap z=z:=fun z a b=>IntWalk.u8_in _ (by omega)
 have e2:∀ z:Int,0<=z->z<4294967296->u32.wrap z=z:=fun z a b=>IntWalk.u32_in _ (by omega)
 rw[e1 _ hb.1.1 hb.1.2,e1 _ hb.2.1.1 hb.2.1.2,e1 _ hb.2.2.1.1 hb.2.2.1.2];rw[e2 x.o (by omega) (by omega),e2 x.a (by omega) (by omega),e2 x.b (by omega) (by omega),e2 x.c (by omega) (by omega)];rw[show (2:Int) ^ 24=16777216 from by decide,show (2:Int) ^ 16=65536 from by decide,show (2:Int) ^ 8=256 from by decide];rw[e2 (x.o*16777216) (by omega) (by omega),e2 (x.a*65536) (by omega) (by omega),e2 (x.b*256) (by omega) (by omega)];rw[Int.emod_eq_of_lt (a:=x.a) (b:=256) (by omega) (by omega),Int.emod_eq_of_lt (a:=x.b) (b:=256) (by omega) (by omega),Int.emod_eq_of_lt (a:=x.c) (b:=256) (by omega) (by omega)];have el:u32.wrap (lowV (u32.wrap (numW x.o x.n t)) (kd x.o).2.2.1)=asmL x.o x.n t:=by
  have hn:=hb.2.2.2;generalize x.n=n at hn;generalize x.o=o at ho;have hi:i64.wrap (n-t)=n-t:=IntWalk.i64_in _ (by omega);have h15:o=0\/o=1\/o=2\/o=3\/o=4\/o=5\/o=6\/o=7\/o=8:=by omega
  rcases h15 with rfl | rfl | rfl | rfl | rfl | rfl | rfl | rfl | rfl
  ·show u32.wrap (lowV (u32.wrap n) 32)=n % 4294967296
   rw[lw32,qbj,qbj];omega
  ·show u32.wrap (lowV (u32.wrap n) 0)=0
   rw[lw0,qbj];rfl
  ·show u32.wrap (lowV (u32.wrap n) 16)=n % 4294967296 % 65536
   rw[lw16,qbj,qbj];omega
  ·show u32.wrap (lowV (u32.wrap n) 0)=0
   rw[lw0,qbj];rfl
  ·show u32.wrap (lowV (u32.wrap n) 0)=0
   rw[lw0,qbj];rfl
  ·show u32.wrap (lowV (u32.wrap ((n-t).tdiv 4)) 24)=(i64.wrap (n-t)).tdiv 4 % 4294967296 % 16777216
   rw[hi,lw24,qbj,qbj];omega
  ·show u32.wrap (lowV (u32.wrap ((n-t).tdiv 4)) 24)=(i64.wrap (n-t)).tdiv 4 % 4294967296 % 16777216
   rw[hi,lw24,qbj,qbj];omega
  ·show u32.wrap (lowV (u32.wrap ((n-t).tdiv 4)) 16)=(i64.wrap (n-t)).tdiv 4 % 4294967296 % 65536
   rw[hi,lw16,qbj,qbj];omega
  ·show u32.wrap (lowV (u32.wrap ((n-t).tdiv 4)) 16)=(i64.wrap (n-t)).tdiv 4 % 4294967296 % 65536
   rw[hi,lw16,qbj,qbj];omega
 rw[el]
end Go.Proofs.YthejkhpeokeccaaDoor.InM
namespace Go.Proofs.YthejkhpeokeccaaDoor
open Go.Px Go.Ax
set_option maxRecDepth 100000
theorem zak {k:Nat} (hk:k=16\/k=24) {p:Nat} (hp:p<65536) (x:BitVec 32):((x &&& ~~~(BitVec.ofNat 32 (2 ^ k-1))) ||| BitVec.ofNat 32 p) &&& BitVec.ofNat 32 (2 ^ k-1)=BitVec.ofNat 32 p:=by
 apply BitVec.eq_of_getLsbD_eq;intro i hi;rw[BitVec.getLsbD_and,BitVec.getLsbD_or,BitVec.getLsbD_and,BitVec.getLsbD_not,qyd k i hi];by_cases h:i<k
 ·rw[decide_eq_true h];simp
 ·rw[decide_eq_false h,q37 hp (by omega)];simp
theorem top_k {k:Nat} (hk:k=16\/k=24) {p:Nat} (hp:p<65536) (x:BitVec 32):((x &&& ~~~(BitVec.ofNat 32 (2 ^ k-1))) ||| BitVec.ofNat 32 p) >>> k=x >>> k:=by
 apply BitVec.eq_of_getLsbD_eq;intro i hi;rw[BitVec.getLsbD_ushiftRight,BitVec.getLsbD_ushiftRight,BitVec.getLsbD_or,BitVec.getLsbD_and,BitVec.getLsbD_not,q37 hp (by omega)];by_cases h:k+i<32
 ·rw[qyd k _ h,decide_eq_true h,decide_eq_false (show ¬ k+i<k by omega)];simp
 ·rw[BitVec.getLsbD_of_ge x _ (by omega)];simp
theorem q4k {w:Int} (hw:0<=w/\w<4294967296) {k:Nat} (hk:k=16\/k=24) {p:Nat} (hp:p<65536) :
  bitI .or .u32 (bitI .andNot .u32 w ((2 ^ k-1:Nat):Int)) (IntKind.u32.wrap (p:Int))=w / ((2 ^ k:Nat):Int)*((2 ^ k:Nat):Int)+p /\
  bitI .and .u32 (bitI .or .u32 (bitI .andNot .u32 w ((2 ^ k-1:Nat):Int)) (IntKind.u32.wrap (p:Int))) ((2 ^ k-1:Nat):Int)=p:=by
 obtain ⟨n,rfl⟩:=Int.eq_ofNat_of_zero_le hw.1;have hn:n<2 ^ 32:=by omega
 have h2k:2 ^ k-1<2 ^ 32:=by rcases hk with rfl | rfl <;> decide
 have ek:((2 ^ k-1:Nat):Int)=((BitVec.ofNat 32 (2 ^ k-1)).toNat:Int):=by rw[BitVec.toNat_ofNat,Nat.mod_eq_of_lt h2k]
 have ew:((n:Nat):Int)=((BitVec.ofNat 32 n).toNat:Int):=by rw[BitVec.toNat_ofNat,Nat.mod_eq_of_lt hn]
 have ep:IntKind.u32.wrap (p:Int)=((BitVec.ofNat 32 p).toNat:Int):=by rw[IntWalk.u32_in _ (by omega),BitVec.toNat_ofNat,Nat.mod_eq_of_lt (by omega)]
 have ep2:((BitVec.ofNat 32 p).toNat:Int)=(p:Int):=by rw[BitVec.toNat_ofNat,Nat.mod_eq_of_lt (by omega)]
 rw[ep,ek,ew,qv2,zbb,q8d,zak hk hp];refine ⟨?_,ep2⟩;have h1:=congrArg BitVec.toNat (top_k hk hp (BitVec.ofNat 32 n));have h2:=congrArg BitVec.toNat (zak hk hp (BitVec.ofNat 32 n));rw[BitVec.toNat_ushiftRight,BitVec.toNat_ushiftRight,Nat.shiftRight_eq_div_pow,Nat.shiftRight_eq_div_pow] at h1;rw[BitVec.toNat_and,BitVec.toNat_ofNat,Nat.mod_eq_of_lt h2k,Nat.and_two_pow_sub_one_eq_mod,BitVec.toNat_ofNat,Nat.mod_eq_of_lt (show p<2 ^ 32 by omega)] at h2;generalize ((BitVec.ofNat 32 n &&& ~~~(BitVec.ofNat 32 (2 ^ k-1))) ||| BitVec.ofNat 32 p).toNat=a at *;generalize (BitVec.ofNat 32 n).toNat=b at *;rcases hk with rfl | rfl
 ·show (a:Int)=(b:Int) / 65536*65536+p
  have h1:a / 65536=b / 65536:=h1;have h2:a % 65536=p:=h2;omega
 ·show (a:Int)=(b:Int) / 16777216*16777216+p
  have h1:a / 16777216=b / 16777216:=h1;have h2:a % 16777216=p:=h2;omega
theorem qpq {w:Int} (hw:0<=w/\w<4294967296) (h:5<=opV w/\opV w<=8):((opV w=5\/opV w=6)/\w / 16777216=opV w)\/((opV w=7\/opV w=8)/\w / 16777216=opV w/\w / 65536 % 256<=15):=by
 rw[InM.opV_opS] at *;have hc:=InM.opC (b0:=w / 16777216 % 256) (b1:=w / 65536 % 256) (b2:=w / 256 % 256) (b3:=w % 256) (by omega);generalize InM.opS (w / 16777216 % 256) (w / 65536 % 256) (w / 256 % 256) (w % 256)=o at *
 cases hc with
 | data h2=>omega
 | regs ho e _ _ _=>omega
 | set e _=>omega
 | jump ho e=>exact .inl ⟨ho,by omega⟩
 | branch e h1=>exact .inr ⟨.inl rfl,by omega,h1⟩
 | pool e h1=>exact .inr ⟨.inr rfl,by omega,h1⟩
theorem q17 {w:Int} (hw:0<=w/\w<4294967296) (h:5<=opV w/\opV w<=8) (t:Int):InM.form (InM.decI w t) t=w:=by
 have hc:=qpq hw h;rw[InM.opV_opS] at hc;unfold InM.decI;generalize InM.opS (w / 16777216 % 256) (w / 65536 % 256) (w / 256 % 256) (w % 256)=o at *;rcases hc with ⟨rfl | rfl,e⟩ | ⟨rfl | rfl,e,e1⟩
 ·show (t+4*InM.sgn (w % 16777216) 16777216-t) / 4 % 16777216+5*16777216=w
  unfold InM.sgn;split <;> omega
 ·show (t+4*InM.sgn (w % 16777216) 16777216-t) / 4 % 16777216+6*16777216=w
  unfold InM.sgn;split <;> omega
 ·show (t+4*InM.sgn (w % 65536) 65536-t) / 4 % 65536+(7*16777216+w / 65536 % 256*65536)=w
  unfold InM.sgn;split <;> omega
 ·show (t+4*(w % 65536)-t) / 4 % 65536+(8*16777216+w / 65536 % 256*65536)=w
  omega
theorem q7y {w:Int} (hw:0<=w/\w<4294967296) (h:5<=opV w/\opV w<=8) {t:Int} (ht:0<=t/\t<=65540) :
  encB (opV w) (rg w (regs (opV w)) 0) (rg w (regs (opV w)) 1) (rg w (regs (opV w)) 2) (decT w t).2.2.2.2 t=true /\
  asmV (opV w) (rg w (regs (opV w)) 0) (rg w (regs (opV w)) 1) (rg w (regs (opV w)) 2) (decT w t).2.2.2.2 t=w:=by
 have hd:=InM.decN_eq hw.1 hw.2 t;have hk:=InM.ok_dec hw.1 hw.2 t;have hf:=q17 hw h t;generalize InM.decI w t=X at *;have hd2:[opV w,rg w (regs (opV w)) 0,rg w (regs (opV w)) 1,rg w (regs (opV w)) 2,(decT w t).2.2.2.2]=[X.o,X.a,X.b,X.c,X.n]:=hd;have ho:=hk.o_range;simp only[List.cons.injEq,and_true] at hd2;obtain ⟨e1,e2,e3,e4,e5⟩:=hd2;rw[e1] at e2 e3 e4 |-;rw[e2,e3,e4,e5];have ea:asmV X.o X.a X.b X.c X.n t=w:=by rw[InM.asmV_asm hk ht,InM.asm_form hk,hf]
 refine ⟨?_,ea⟩;unfold encB;rw[ea,hd,decide_eq_true ho.1,decide_eq_true (show X.o<9 by omega)]
 show (true&&(true&&decide (InM.toL X=[X.o,X.a,X.b,X.c,X.n])))=true
 rw[decide_eq_true (show InM.toL X=[X.o,X.a,X.b,X.c,X.n] from rfl)];rfl
theorem qym {w:Int} (hw:0<=w/\w<4294967296) (h:5<=opV w/\opV w<=8) {p:Nat} (hp:p<65536) {x:Int} (hx:x=bitI .or .u32 (bitI .andNot .u32 w (dbV (opV w))) (IntKind.u32.wrap (p:Int))) :
  opV x=opV w/\lix x=p/\∀ j,0<=j->rg x (regs (opV w)) j=rg w (regs (opV w)) j:=by
 rcases qpq hw h with ⟨ho,e⟩ | ⟨ho,e,e1⟩
 ·have hd:dbV (opV w)=((2 ^ 24-1:Nat):Int):=by
   rcases ho with q | q <;> rw[q] <;> decide
  rw[hd] at hx;obtain ⟨b1,b2⟩:=q4k hw (.inr rfl) hp;rw[<- hx] at b1 b2;have b1:x=w / 16777216*16777216+p:=b1;have eo:opV x=opV w:=by
   rw[InM.opV_opS x];have ex:x / 16777216 % 256=opV w:=by rw[e] at b1;omega
   rw[ex];rcases ho with q | q <;> rw[q] <;> rfl
  refine ⟨eo,?_,fun j hj=>?_⟩
  ·unfold lix;rw[eo,hd];exact b2
  ·have r0:regs (opV w)=0:=by rcases ho with q | q <;> rw[q] <;> decide
   unfold rg;rw[r0,if_neg (by omega),if_neg (by omega)]
 ·have hd:dbV (opV w)=((2 ^ 16-1:Nat):Int):=by
   rcases ho with q | q <;> rw[q] <;> decide
  rw[hd] at hx;obtain ⟨b1,b2⟩:=q4k hw (.inl rfl) hp;rw[<- hx] at b1 b2;have b1:x=w / 65536*65536+p:=b1;have ex1:x / 65536 % 256=w / 65536 % 256:=by omega
  have eo:opV x=opV w:=by
   rw[InM.opV_opS x];have ex:x / 16777216 % 256=opV w:=by omega
   rw[ex,ex1];unfold InM.opS;rcases ho with q | q <;> rw[q] <;> simp[e1]
  refine ⟨eo,?_,fun j hj=>?_⟩
  ·unfold lix;rw[eo,hd];exact b2
  ·have r0:regs (opV w)=1:=by rcases ho with q | q <;> rw[q] <;> decide
   unfold rg;rw[r0];split
   ·obtain rfl:j=0:=by omega
    show octV x 1=octV w 1
    rw[InM.oc1,InM.oc1,ex1]
   ·rfl
theorem qyl {w:Int} (hw:0<=w/\w<4294967296) (h:5<=opV w/\opV w<=8) {t:Int} (ht:0<=t/\t<=65540) {l:List Int} {p:Nat} (hp:p<l.length) (hp2:p<65536) (hl:gtI l p=(decT w t).2.2.2.2) :
  lkV (bitI .or .u32 (bitI .andNot .u32 w (dbV (opV w))) (IntKind.u32.wrap (p:Int))) t l=(w,0):=by
 obtain ⟨e1,e2,e3⟩:=qym hw h hp2 rfl;generalize bitI .or .u32 (bitI .andNot .u32 w (dbV (opV w))) (IntKind.u32.wrap (p:Int))=x at *;have hc:¬ lkC x l:=by
  unfold lkC;rw[e1,e2];rintro (q | q)
  ·exact ((qsi _).2 h) q
  ·omega
 obtain ⟨c1,c2⟩:=q7y hw h ht;unfold lkV;rw[if_neg hc];unfold lkN;rw[e1,e2,e3 0 (by decide),e3 1 (by decide),e3 2 (by decide),Int.toNat_natCast,hl];unfold encW encE;rw[if_pos c1,if_pos c1,c2]
theorem q7c {ws:List Int} (hr:∀ w∈ws,0<=w/\w<4294967296) (hn:ws.length<=16384) (hl:(qb1 ws).length<=65536):loV (lfV ws).1 (lfV ws).2 (qb1 ws)=(ws,0):=by
 obtain ⟨f1,f2,f3⟩:=qyn ws;have key:∀ (f i:Nat) (o:List Int),ws.length-i=f->i<=ws.length->o.length=ws.length->(∀ j,j<i->gtW o j=gtW ws j)->(∀ j,i<=j->gtW o j=gtW (lfV ws).1 j)->loF (lfV ws).2 (qb1 ws) f i o=(ws,0):=by
  intro f
  induction f with
  | zero=>
   intro i o hf hi ho h1 h2;have:o=ws:=List.ext_getElem ho fun j a b=>by
    have:=h1 j (by omega);rw[qdf a,qdf b] at this;exact this
   rw[loF,this]
  | succ f ih=>
   intro i o hf hi ho h1 h2;have hlt:i<ws.length:=by omega
   obtain ⟨m1,m2,m3⟩:=f3 i hlt;have hw:=hr _ (List.getElem_mem hlt);have ei:=h2 i (Nat.le_refl _);rw[loF,m1];split
   ·rename_i hk;obtain ⟨m4,p,hp,g1,g2⟩:=m3 hk;have hop:5<=opV ws[i]/\opV ws[i]<=8:=by
     unfold isLk at hk;rw[Bool.and_eq_true,decide_eq_true_iff,qsi] at hk;exact hk.1
    have hx:gtW o i=bitI .or .u32 (bitI .andNot .u32 ws[i] (dbV (opV ws[i]))) (IntKind.u32.wrap (p:Int)):=by
     rw[ei,m4];unfold lfW;rw[qdf hlt,g2];rfl
    have lb:=qyl hw hop (t:=4*(i:Int)) (by omega) hp (by omega) g1;rw[hx,lb,if_neg (fun q=>q rfl)];refine ih (i+1) (o.set i ws[i]) (by omega) (by omega) (by rw[List.length_set];exact ho) (fun j hj=>?_) (fun j hj=>?_)
    ·rw[qt6 (by omega)];split
     ·rename_i q;rw[q,qdf hlt]
     ·exact h1 j (by omega)
    ·rw[qt6 (by omega),if_neg (by omega)];exact h2 j (by omega)
   ·rename_i hk;have hk:isLk ws.length ws[i] i=false:=by simpa using hk
    refine ih (i+1) o (by omega) (by omega) ho (fun j hj=>?_) (fun j hj=>h2 j (by omega));by_cases q:j=i
    ·rw[q,ei,m2 hk,qdf hlt]
    ·exact h1 j (by omega)
 unfold loV;rw[if_neg (by omega),f2];exact key ws.length 0 (lfV ws).1 rfl (Nat.zero_le _) f1 (fun j hj=>by omega) (fun j _=>rfl)
open Go.IntKind(i64 u32 u8)
theorem q0g (n:Int):∀ x∈two n,0<=x/\x<256:=fun x h=>by
 have r:∀ n:Int,0<=u8.wrap n/\u8.wrap n<256:=fun n=>by rw[u8w];omega
 unfold two at h;simp only[List.mem_cons,List.not_mem_nil,or_false] at h;rcases h with rfl | rfl <;> exact r _
theorem qoh {d:Int} (h0:0<=d) (h1:d<65536) (r:List Int):qam (two d++r)=d:=by
 have e:qam (two d++r)=qam (two d):=rfl;rw[e,qpx (qo8 (q0g d))]
 show u8.wrap (Int.fdiv d 256)*256+u8.wrap d=d
 rw[u8w,u8w,Int.fdiv_eq_ediv_of_nonneg _ (by decide)];omega
theorem qy3 {l:List Int} {i k:Nat} {v:Int} (h:i<l.length):gtB (l.set i v) k=if k=i then v else gtB l k:=by
 show gt uB _ k=if k=i then v else gt uB l k
 unfold gt;rw[List.getElem?_set];by_cases e:i=k
 ·rw[if_pos e,if_pos e.symm,if_pos h];rfl
 ·rw[if_neg e,if_neg fun q=>e q.symm]
theorem qzq:∀ x:Fin 256,∀ k:Fin 8,decide (bitI .and .u8 (Int.fdiv (x.val:Int) (2 ^ min k.val u8.bits)) 1=1)=x.val.testBit k.val /\
  bitI .or .u8 (x.val:Int) (u8.wrap (1*2 ^ min k.val u8.bits))=((x.val ||| 2 ^ k.val:Nat):Int):=by decide +kernel
theorem qx7 {b:List Int} (hb:u8L b) (i:Nat):mkB b i=(gtB b (i / 8)).toNat.testBit (i % 8):=by
 obtain ⟨h0,h1⟩:=hb (i / 8);have h:=(qzq ⟨(gtB b (i / 8)).toNat,by omega⟩ ⟨i % 8,by omega⟩).1;simp only at h;rw[Int.toNat_of_nonneg h0] at h;exact h
theorem q96 {x:Int} (h:u8R x) {s:Nat} (hs:s<8):∃ y:Nat,bitI .or .u8 x (u8.wrap (1*2 ^ min s u8.bits))=y/\y<256/\∀ k,y.testBit k=(x.toNat.testBit k || decide (s=k)):=by
 obtain ⟨h0,h1⟩:=h;have e:=(qzq ⟨x.toNat,by omega⟩ ⟨s,hs⟩).2;simp only at e;rw[Int.toNat_of_nonneg h0] at e;refine ⟨_,e,Nat.or_lt_two_pow (n:=8) (by omega) ((Nat.pow_lt_pow_iff_right (by decide)).2 hs),fun k=>?_⟩;rw[Nat.testBit_or,Nat.testBit_two_pow]
theorem qrr (l:List Bool):∀ i,i<=l.length->u8L (pkF l i)/\∀ j,j<l.length->mkB (pkF l i) j=(decide (j<i)&&gtM l j)
 | 0,_=>by
  have h0:∀ k,gtB (pkF l 0) k=0:=fun k=>by
   show gt uB (List.replicate ((l.length+7) / 8) 0) k=0
   unfold gt;by_cases q:k<(l.length+7) / 8
   ·rw[List.getElem?_replicate,if_pos q];rfl
   ·rw[List.getElem?_replicate,if_neg q];rfl
  have hu:u8L (pkF l 0):=fun k=>by rw[h0];exact ⟨by decide,by decide⟩
  refine ⟨hu,fun j hj=>?_⟩;rw[qx7 hu,h0,decide_eq_false (by omega)]
  show (0:Nat).testBit _=false
  exact Nat.zero_testBit _
 | i+1,hi=>by
  obtain ⟨u,ih⟩:=qrr l i (by omega);have hlen:=qhq l i;rw[pkF];split
  ·rename_i h;obtain ⟨y,ey,hy,hb⟩:=q96 (u (i / 8)) (s:=i % 8) (by omega);rw[ey];have u2:u8L ((pkF l i).set (i / 8) (y:Int)):=fun k=>by
    rw[qy3 (by omega)];split
    ·exact ⟨by omega,by omega⟩
    ·exact u k
   refine ⟨u2,fun j hj=>?_⟩;have o:=ih j hj;rw[qx7 u] at o;rw[qx7 u2,qy3 (by omega)];by_cases e:j / 8=i / 8
   ·rw[if_pos e,Int.toNat_natCast,hb,<- e,o];by_cases q:j=i
    ·subst q;rw[h,decide_eq_true (show j % 8=j % 8 from rfl),decide_eq_true (show j<j+1 by omega),Bool.or_true];rfl
    ·rw[decide_eq_false (show ¬ i % 8=j % 8 by omega),Bool.or_false,show decide (j<i)=decide (j<i+1) from decide_eq_decide.mpr (by omega)]
   ·rw[if_neg e,o,show decide (j<i)=decide (j<i+1) from decide_eq_decide.mpr (by omega)]
  ·rename_i h;refine ⟨u,fun j hj=>?_⟩;rw[ih j hj];by_cases q:j=i
   ·subst q;rw[Bool.eq_false_iff.mpr h,Bool.and_false,Bool.and_false]
   ·rw[show decide (j<i)=decide (j<i+1) from decide_eq_decide.mpr (by omega)]
theorem q9a (l:List Bool):unpF (pkF l l.length) l.length=l:=by
 obtain ⟨u,h⟩:=qrr l l.length (Nat.le_refl _);refine List.ext_getElem (qs3 _ _) fun j h1 h2=>?_
 have e:(unpF (pkF l l.length) l.length)[j]=mkB (pkF l l.length) j:=by simp[unpF]
 rw[e,h j h2,decide_eq_true h2,Bool.true_and,qnc h2]
def qzz:Int->List Int->Prop
 | _,[]=>True
 | a,x::l=>(0<=a/\a<=x/\x<262144/\(x-a) % 4=0)/\qzz x l
theorem q35:∀ (a:Int) (l:List Int),∀ x∈labF a l,0<=x/\x<256
 | _,[],x,h=>by cases h
 | a,y::l,x,h=>by
  rw[labF] at h;rcases List.mem_append.1 h with h | h
  ·exact q0g _ x h
  ·exact q35 y l x h
theorem q3m:∀ (l:List Int) (a:Int),qzz a l->rlF l.length a (labF a l)=l
 | [],_,_=>rfl
 | x::l,a,h=>by
  obtain ⟨⟨h0,h1,h2,h3⟩,h4⟩:=h;have w1:i64.wrap (x-a)=x-a:=IntWalk.i64_in _ (by omega);have w2:i64.wrap ((x-a).tdiv 4)=(x-a) / 4:=by rw[Int.tdiv_eq_ediv_of_nonneg (by omega),IntWalk.i64_in _ (by omega)]
  rw[List.length_cons,rlF,labF,w1,w2];have e:rlN a (two ((x-a) / 4)++labF x l)=x:=by
   unfold rlN;rw[qoh (by omega) (by omega),IntWalk.i64_in (4*((x-a) / 4)) (by omega),IntWalk.i64_in _ (by omega)];omega
  rw[e]
  show x::rlF l.length x (labF x l)=x::l
  rw[q3m l x h4]
structure LiOK (x:LiT):Prop where
 hw:∀ w∈x.1,0<=w/\w<4294967296
 hn:x.1.length<65536
 hm:x.2.1.length=x.1.length
 hk:x.2.2.length<65536
 hl:qzz 0 x.2.2
theorem q4a {x:LiT} (_h:LiOK x):∀ y∈qca x,0<=y/\y<256:=fun y hy=>by
 unfold qca at hy;simp only[List.mem_append] at hy;rcases hy with (((hy | hy) | hy) | hy) | hy
 ·exact q0g _ y hy
 ·exact q0g _ y hy
 ·exact q35 _ _ y hy
 ·obtain ⟨u,_⟩:=qrr x.2.1 x.2.1.length (Nat.le_refl _);obtain ⟨i,hi,e⟩:=List.getElem_of_mem hy;have:=u i;rw[qnd hi,e] at this;exact this
 ·exact qum _ y hy
theorem qua (x:LiT):(qca x).length=4+2*x.2.2.length+(x.2.1.length+7) / 8+4*x.1.length:=by
 unfold qca;rw[List.length_append,List.length_append,List.length_append,List.length_append,qom,qhq,qju]
 show 2+2+_+_+_=_
 omega
theorem q03 {x:LiT} (h:LiOK x):parX (qca x)=(x,true):=by
 obtain ⟨w,m,l⟩:=x;have hr:=q4a h;have hl:=qua (w,m,l);obtain ⟨h1,h2,h3,h4,h5⟩:=h;simp only at h1 h2 h3 h4 h5 hl;have e1:qam (qca (w,m,l))=(w.length:Int):=by
  show qam (two (w.length:Int)++two (l.length:Int)++labF 0 l++pkF m m.length++qao w)=_
  rw[List.append_assoc,List.append_assoc,List.append_assoc,qoh (by omega) (by omega)]
 have e2:qam ((qca (w,m,l)).drop 2)=(l.length:Int):=by
  show qam (two (l.length:Int)++labF 0 l++pkF m m.length++qao w)=_
  rw[List.append_assoc,List.append_assoc,qoh (by omega) (by omega)]
 have ew:wAt (qca (w,m,l))=4+2*l.length+(w.length+7) / 8:=by
  unfold wAt;rw[e1,e2,Int.toNat_natCast,Int.toNat_natCast]
 have ok:qn9 (qca (w,m,l)):=by
  unfold qn9;rw[ew,e1,Int.toNat_natCast,hl,h3];omega
 have l1:(two (w.length:Int)++two (l.length:Int)++labF 0 l).length=4+2*l.length:=by
  rw[List.length_append,qom];rfl
 have l2:(two (w.length:Int)++two (l.length:Int)++labF 0 l++pkF m m.length).length=4+2*l.length+(w.length+7) / 8:=by
  rw[List.length_append,l1,qhq,h3]
 have d1:(qca (w,m,l)).drop (wAt (qca (w,m,l)))=qao w:=by
  rw[ew]
  show (_++qao w).drop _=_
  exact List.drop_left' l2
 have t1:(qca (w,m,l)).take (wAt (qca (w,m,l)))=two (w.length:Int)++two (l.length:Int)++labF 0 l++pkF m m.length:=by
  rw[ew]
  show (_++qao w).take _=_
  exact List.take_left' l2
 have t2:(qca (w,m,l)).take (4+2*l.length)=two (w.length:Int)++two (l.length:Int)++labF 0 l:=by
  show (two (w.length:Int)++two (l.length:Int)++labF 0 l++pkF m m.length++qao w).take _=_
  rw[List.append_assoc];exact List.take_left' l1
 unfold parX;rw[if_pos ok];unfold parV;rw[e1,e2,Int.toNat_natCast,Int.toNat_natCast,d1,t1,t2,qjy w h1];have d2:(two (w.length:Int)++two (l.length:Int)++labF 0 l++pkF m m.length).drop (4+2*l.length)=pkF m m.length:=List.drop_left' l1;have d3:(two (w.length:Int)++two (l.length:Int)++labF 0 l).drop 4=labF 0 l:=rfl;rw[d2,d3,q3m l 0 h5,<- h3,q9a m]
theorem zab {w:Int} {i:Nat} (h:dbV (opV w)≠0):(decT w (4*(i:Int))).2.2.2.2 % 4=0:=by
 obtain ⟨h1,h2⟩:=(qsi (opV w)).1 h
 show numN w _ (kd (opV w)).2.2.1 (kd (opV w)).2.2.2.1 (kd (opV w)).2.2.2.2 % 4=0
 have:opV w=5\/opV w=6\/opV w=7\/opV w=8:=by omega
 rcases this with e | e | e | e <;> rw[e]
 ·show (4*(i:Int)+4*numV (kd 5).2.2.2.1 w (kd 5).2.2.1) % 4=0;omega
 ·show (4*(i:Int)+4*numV (kd 6).2.2.2.1 w (kd 6).2.2.1) % 4=0;omega
 ·show (4*(i:Int)+4*numV (kd 7).2.2.2.1 w (kd 7).2.2.1) % 4=0;omega
 ·show (4*(i:Int)+4*numV (kd 8).2.2.2.1 w (kd 8).2.2.1) % 4=0;omega
theorem qyi (n:Nat):∀ (l:List Int) (i:Nat),∀ r∈lnkF n i l,0<=r.2.2.2.2.2/\r.2.2.2.2.2<4*n/\r.2.2.2.2.2 % 4=0
 | [],_,r,h=>by cases h
 | w::l,i,r,h=>by
  rw[lnkF] at h;split at h
  ·rename_i q;rcases List.mem_cons.1 h with e | e
   ·subst e;unfold isLk at q;simp only[Bool.and_eq_true,decide_eq_true_eq] at q;exact ⟨q.2.1,q.2.2,zab q.1⟩
   ·exact qyi n l (i+1) r e
  ·exact qyi n l (i+1) r h
theorem qt3 {n:Nat} (hn:n<=65536):∀ (l:List Int) (a:Int),l.Pairwise (·<·)->(∀ x∈l,a<=x/\x<4*(n:Int)/\x % 4=0)->0<=a->a % 4=0->qzz a l
 | [],_,_,_,_,_=>trivial
 | x::l,a,p,h,h0,h4=>by
  obtain ⟨p1,p2⟩:=List.pairwise_cons.1 p;have hx:=h x (List.mem_cons_self ..);exact ⟨⟨h0,hx.1,by omega,by omega⟩,qt3 hn l x p2 (fun y hy=>⟨Int.le_of_lt (p1 y hy),(h y (List.mem_cons_of_mem _ hy)).2⟩) (by omega) hx.2.2⟩
theorem qyu (ws:List Int) (hn:ws.length<=65536):qzz 0 (qb1 ws):=by
 obtain ⟨g1,g2,g3,g4⟩:=ql0 ws;refine qt3 hn _ 0 (List.pairwise_iff_getElem.mpr fun a b ha hb hab=>?_) (fun x hx=>?_) (Int.le_refl _) (by decide)
 ·have:=g2 a b hab hb;rwa[qcn ha,qcn hb] at this
 ·obtain ⟨i,hi,e⟩:=List.getElem_of_mem hx;have hm:x∈tgO (lnk ws):=(g4 x).1 ⟨i,hi,by rw[qcn hi,e]⟩;unfold tgO at hm;obtain ⟨r,hr,er⟩:=List.mem_map.1 hm;have:=qyi ws.length ws 0 r hr;subst er;exact ⟨this.1,this.2.1,this.2.2⟩
theorem za8 {a b c d:Int} (ha:u8R a) (hb:u8R b) (hc:u8R c) (hd:u8R d):by4 (wd a b c d)=[a,b,c,d]:=by
 unfold u8R at ha hb hc hd
 show [IntKind.u8.wrap (Int.fdiv (wd a b c d) 16777216),IntKind.u8.wrap (Int.fdiv (wd a b c d) 65536),IntKind.u8.wrap (Int.fdiv (wd a b c d) 256),IntKind.u8.wrap (wd a b c d)]=_
 rw[u8w,u8w,u8w,u8w,Int.fdiv_eq_ediv_of_nonneg _ (by decide),Int.fdiv_eq_ediv_of_nonneg _ (by decide),Int.fdiv_eq_ediv_of_nonneg _ (by decide)];unfold wd
 congr 1
 ·omega
 ·congr 1
  ·omega
  ·congr 1
   ·omega
   ·congr 1
    omega
theorem qmf:∀ (k:Nat) (b:List Int),b.length=4*k->(∀ x∈b,0<=x/\x<256)->qao (qbu k b)=b
 | 0,b,h,_=>by rw[List.eq_nil_of_length_eq_zero (by omega:b.length=0)];rfl
 | k+1,x0::x1::x2::x3::b,h,hu=>by
  have e:qbu (k+1) (x0::x1::x2::x3::b)=wd x0 x1 x2 x3::qbu k b:=rfl;have h4:∀ x∈[x0,x1,x2,x3],u8R x:=fun x hx=>hu x (List.mem_append_left b hx:x∈[x0,x1,x2,x3]++b)
  rw[e]
  show by4 _++qao (qbu k b)=_
  rw[za8 (h4 _ (by simp)) (h4 _ (by simp)) (h4 _ (by simp)) (h4 _ (by simp)),qmf k b (by simp at h;omega) (fun x hx=>hu x (by simp[hx]))];rfl
 | k+1,[],h,_=>by simp at h
 | k+1,[_],h,_=>by simp at h;omega
 | k+1,[_,_],h,_=>by simp at h;omega
 | k+1,[_,_,_],h,_=>by simp at h;omega
attribute [local irreducible] Go.Px.sy Go.Px.syE
def ctT3:Ctr:=⟨[.sl u4],fun _=>True,fun _=>[.bool true],fun _=>[]⟩
theorem q1m {b:List Int} (h:b.length<=65536) (h0:(qag b).2=0):(qah b).e=0/\(qah b).w=(lfV (qag b).1).1/\(qah b).m=(lfV (qag b).1).2/\winL iI 0 (qah b).k (qah b).t=qb1 (qag b).1/\(qah b).k=(qb1 (qag b).1).length/\(qah b).k<=(qah b).t.length:=by
 have el:=q1n h h0;have g1:=(ql0 (qag b).1).1;have s1:=(qrc (tgO (lnk (qag b).1))).1;rw[<- qfs] at s1;have h1:=(qzj s1).1;have h2:=(qzj s1).2.1;refine ⟨by rw[el],by rw[el],by rw[el],by rw[el];rfl,by rw[el,g1],?_⟩;rw[el]
 show (tgV (qag b).1).2.1<=(tgV (qag b).1).2.2.length
 unfold tgV;omega
theorem zar {b:List Int} {n:Nat} (hb:b.length=4*n) (h8:∀ x∈b,0<=x/\x<256) (hn:n<=49) {W:List Int} {M:List Bool} {L:List Int} (eW:W=(lfV (qag b).1).1) (eM:M=(lfV (qag b).1).2) (eL:L=qb1 (qag b).1) :
  W.length=n/\M.length=n/\L.length<=n/\qd7 W M L/\qa4 W M L=(b,0)/\qve (W,M,L)/\qli (qca (W,M,L))/\qcc (qca (W,M,L))=((W,M,L),0)/\qxo (W,M,L):=by
 obtain ⟨c1,c2,c3,c4⟩:=qzm hb h8 hn;obtain ⟨f1,f2,f3⟩:=qyn (qag b).1;obtain ⟨g1,g2,g3,g4⟩:=ql0 (qag b).1;have hk:(lnk (qag b).1).length<=(qag b).1.length:=qol _ _ _;have lb:=q7c c3 (by omega) (by omega);have lf:=qyu (qag b).1 (by omega);have hlr:=zan (qag b).1;have hwr:∀ x∈(lfV (qag b).1).1,0<=x/\x<4294967296:=fun x h=>lfV_r c3 x h
 have ebw:qao (qag b).1=b:=by
  have e:qag b=(qbu (b.length / 4) b,0):=if_pos (by omega);rw[e];exact qmf _ b (by omega) h8
 have pl:qd7 (lfV (qag b).1).1 (lfV (qag b).1).2 (qb1 (qag b).1):=qe3 hwr (fun x hx=>by have:=hlr x hx;omega) (by rw[lb];exact c3) (by rw[lb];show (qag b).1.length<=_;omega) (by rw[lb];show (lnk (qag b).1).length<=_;omega);have el:qa4 (lfV (qag b).1).1 (lfV (qag b).1).2 (qb1 (qag b).1)=(b,0):=by
  unfold qa4;rw[lb,if_neg (by rintro (q | q);exact q rfl;exact q rfl),ebw]
 have ok:LiOK ((lfV (qag b).1).1,(lfV (qag b).1).2,qb1 (qag b).1):=⟨hwr,by show (lfV _).1.length<_;omega,by show (lfV _).2.length=(lfV _).1.length;omega,by show (qb1 _).length<_;omega,lf⟩;rw[<- eW,<- eM,<- eL] at pl el ok;rw[<- eW] at f1;rw[<- eM] at f2;rw[<- eL] at g3;have l1:W.length=n:=by omega
 have l2:M.length=n:=by omega
 have l3:L.length<=n:=by omega
 have pf:qve (W,M,L):=⟨by show W.length<_;omega,by show M.length<_;omega,by show L.length<_;omega⟩;have pe:=q03 ok;have fl:=qua (W,M,L);simp only at fl;refine ⟨l1,l2,l3,pl,el,pf,⟨⟨qo8 (q4a ok),by omega⟩,fun _=>by rw[pe];exact ⟨pf,fun _=>pl⟩⟩,?_,⟨by show W.length<_;omega,by show M.length<_;omega,by show L.length<_;omega⟩⟩;unfold qcc rdCk;rw[pe];exact if_pos ⟨rfl,decide_eq_true rfl,by show (qa4 W M L).2=0;rw[el]⟩
theorem q1j (l:List Int) (R:List Item->PS->Prop):sy tt G0 CIv Tryd.f4.ntmps Tryd.f4.results.toList (QC ctT3 (l,())) R 1000 [.code (qaf Tryd.f4)] (entry [.sl u4] (l,())):=by
 refine (q43 l _ _).mpr ?_;have hl:(ivW l).length<=16:=by unfold ivW;rw[List.length_take];omega
 have hb:=qoy (ivW l);have h8:=q4j (ivW l);have eB:ivB l=bytL (ivW l):=winA (e:=uB) (bytL (ivW l));rw[<- eB] at hb h8;have hby:ctByt.pre (ivW l,()):=by show (ivW l).length<1000000;omega
 obtain ⟨c1,c2,c3,c4⟩:=qzm hb h8 (by omega);obtain ⟨x1,x2,x3,x4,x5,x6⟩:=q1m (b:=ivB l) (by omega) c1;rw[<- x4] at x5;have eU:ivU l=(ivX l).w:=winA (e:=u4) _;have eM:ivM l=(ivX l).m:=winA (e:=Sh.bool) _;obtain ⟨r1,r2,r3,r4,r5,r6,r7,r8,r9⟩:=zar (W:=ivU l) (M:=ivM l) (L:=ivN l) hb h8 (by omega) (eU.trans x2) (eM.trans x3) x4;have eO:ivO l=(ivB l,0):=r5;have eR:ivR l=((ivU l,ivM l,ivN l),0):=by
  unfold ivR;rw[winA (e:=uB) (ivF l)];exact r8
 have y1:(ivX l).e=0:=x1;have y5:(ivX l).k=(ivN l).length:=x5;have y6:(ivX l).k<=(ivX l).t.length:=x6;have y7:qli (ivF l):=r7;clear x1 x5 x6 r7 r8 r5;have l1:(ivX l).w.length=(ivW l).length:=by rw[<- eU];exact r1
 have l2:(ivX l).m.length=(ivW l).length:=by rw[<- eM];exact r2
 rw[eO,eR,winA (e:=uB) (ivF l),<- eB];rw[winA (e:=uB) (ivB l,(0:Int)).1,winA (e:=u4) ((ivU l,ivM l,ivN l),(0:Int)).1.1,winA (e:=Sh.bool) ((ivU l,ivM l,ivN l),(0:Int)).1.2.1];generalize ivX l=X at *;generalize ivU l=U at *;generalize ivM l=M at *;generalize ivN l=L at *;generalize ivF l=F at *;generalize ivB l=b at *;have d1:decide (X.e≠0)=false:=decide_eq_false (fun q=>q y1);have d2:decide ((16:Int)<(X.w.length:Int))=false:=decide_eq_false (by omega);have d3:decide ((16:Int)<(X.k:Int))=false:=decide_eq_false (by omega);have d4:decide ((X.m.length:Int)≠(X.w.length:Int))=false:=decide_eq_false (by omega);have d5:decide ((0:Int)≠0)=false:=rfl;simp only[d1,d2,d3,d4,d5,bc_f,cond_false]
 repeat' first
  | exact hby
  | (show List.length b<1099511627776;omega)
  | exact c4
  | exact r4
  | exact r6
  | exact y7
  | (show qxo (U,M,L);exact r9)
  | refine And.intro ?_ ?_
  | omega
  | exact trivial
  | exact QC.flat rfl rfl rfl
  | (refine qaq (fun q=>?_) (fun q=>?_) <;> first | (exfalso;simp at q;done) | skip)
  | rfl
theorem qyk:Held Tryd.prog G0 4 ctT3:=Held.run cxIv (fn:=Tryd.f4) rfl rfl ⟨by decide,by decide⟩ fun ⟨l,_⟩ _=>q1j l _
theorem qv6 {g:Nat} {x:ABlk} (h:rawG.get g=some x):g=0/\x=.cells qiy 114 2:=by
 unfold rawG T.get at h;split at h
 ·rename_i e;cases h;exact ⟨e,rfl⟩
 ·split at h <;> (simp[T.get] at h)
theorem hG:Glob G0.raw:=⟨fun g x h=>by rw[(qv6 h).1];decide,fun g x h=>by rw[(qv6 h).2];decide⟩
abbrev H0:AHeap:=⟨qjn,G0.raw⟩
def Z0:Nat->Option ABlk:=fun g=>rawG.get g
theorem gz0:GZ Z0 G0:=by
 refine ⟨fun g x e=>?_,fun g x e=>e⟩;simp only[G0,lk] at e;split at e
 ·rename_i h;subst h;cases e;refine ⟨by decide,fun ν=>⟨0,0,qiy,114,2,rfl,rfl,by decide,?_⟩⟩;exact q0q (.arr 9 kindSh) kindsL ⟨rfl,fun x _=>⟨trivial,trivial,trivial,trivial,trivial⟩⟩
 ·cases e
theorem fro0:Px.Fro G0 H0:=⟨fun i x h=>by rw[(qv6 h).2];rfl,fun i x h=>by rw[(qv6 h).2];trivial,fun i x h=>by rw[(qv6 h).1];decide,gz0⟩
end Go.Proofs.YthejkhpeokeccaaDoor
