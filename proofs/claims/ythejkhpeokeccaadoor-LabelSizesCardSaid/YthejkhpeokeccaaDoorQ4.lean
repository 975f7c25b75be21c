/-
  A part of the proof: what pieces of the program give; conditions: those of each theorem.
-/
import Derived.Test.YthejkhpeokeccaaDoorQ3
import Derived.Test.YthejkhpeokeccaaDoorQ0
import Derived.Test.YthejkhpeokeccaaDoorHD
import Derived.KernelRfl
import Derived.Test.YthejkhpeokeccaaDoorGE
set_option linter.unusedVariables false
set_option linter.unusedSimpArgs false
namespace Go.Proofs.YthejkhpeokeccaaDoor
open Go.Px Go.Ax
set_option maxRecDepth 100000
attribute [local irreducible] Go.Px.sy Go.Px.syE
abbrev rdCk (b:List Int):Bool:=decide (List.map toB (qdr (parX b).1)=List.map toB b)
def qcm (b:List Int):LiT × Int:=if (parX b).2=true/\rdCk b=true/\(qbh (parX b).1.1 (parX b).1.2.1 (parX b).1.2.2).2=0 then ((parX b).1,0) else (([],[],[]),3)
def qrd (b:List Int):Prop:=q82 b/\((parX b).2=true->qxf (parX b).1/\(rdCk b=true->qgo (parX b).1.1 (parX b).1.2.1 (parX b).1.2.2))
def ctRead:Ctr:=⟨[.sl uB],fun x=>qrd x.1,fun x=>[.agg [.win true u4 0 0 (qcm x.1).1.1.length,.win true .bool 1 0 (qcm x.1).1.2.1.length,.sl iI (qcm x.1).1.2.2],.int .i64 (qcm x.1).2],fun x=>[.row 50 u4 (qcm x.1).1.1,.row 4 .bool (qcm x.1).1.2.1]⟩
theorem qwx {b:List Int} (hv:qcm b=(([],[],[]),3)) {blk:List (Nat × LB)}:QC ctRead (b,()) [.agg [.nils,.nils,.nils],.int .i64 3] blk:=by
 have ho:ctRead.out (b,())=[.agg [.win true u4 0 0 0,.win true .bool 1 0 0,.sl iI []],.int .i64 3]:=by
  show [SV.agg [.win true u4 0 0 (qcm b).1.1.length,.win true .bool 1 0 (qcm b).1.2.1.length,.sl iI (qcm b).1.2.2],.int .i64 (qcm b).2]=_
  rw[hv];rfl
 have hr:ctRead.rows (b,())=[.row 50 u4 [],.row 4 .bool []]:=by
  show [LB.row 50 u4 (qcm b).1.1,LB.row 4 .bool (qcm b).1.2.1]=_
  rw[hv]
 refine ⟨fun _=>none,?_,?_,fun i j b h1 h2=>by simp at h1,by rw[hr];rfl⟩
 ·rw[ho];exact ⟨_,_,rfl,⟨_,rfl,_,_,rfl,.inr ⟨rfl,rfl,rfl,rfl⟩,_,_,rfl,.inr ⟨rfl,rfl,rfl,rfl⟩,_,_,rfl,.inr ⟨rfl,rfl⟩,rfl⟩,_,_,rfl,rfl,rfl⟩
 ·rw[hr];exact ⟨.inr ⟨rfl,_,_,rfl,by decide⟩,.inr ⟨rfl,_,_,rfl,by decide⟩,trivial⟩
theorem rd_ok {b:List Int} {y:LiT} (hv:qcm b=(y,0)) {blk:List (Nat × LB)} {i j k1 k2:Nat} (hij:i≠j) (h1:lk blk i=some (.row 50 u4 y.1)) (h2:lk blk j=some (.row 4 .bool y.2.1)) (hk1:k1=y.1.length) (hk2:k2=y.2.1.length) :
  QC ctRead (b,()) [.agg [.win true u4 i 0 k1,.win true .bool j 0 k2,.sl iI y.2.2],.int .i64 0] blk:=by
 subst hk1;subst hk2;have ho:ctRead.out (b,())=[.agg [.win true u4 0 0 y.1.length,.win true .bool 1 0 y.2.1.length,.sl iI y.2.2],.int .i64 0]:=by
  show [SV.agg [.win true u4 0 0 (qcm b).1.1.length,.win true .bool 1 0 (qcm b).1.2.1.length,.sl iI (qcm b).1.2.2],.int .i64 (qcm b).2]=_
  rw[hv]
 have hr:ctRead.rows (b,())=[.row 50 u4 y.1,.row 4 .bool y.2.1]:=by
  show [LB.row 50 u4 (qcm b).1.1,LB.row 4 .bool (qcm b).1.2.1]=_
  rw[hv]
 refine ⟨fun n=>if n=0 then some i else if n=1 then some j else none,?_,?_,fun a c x e1 e2=>?_,by rw[hr];rfl⟩
 ·rw[ho];exact ⟨_,_,rfl,⟨_,rfl,_,_,rfl,.inl ⟨true,i,rfl,rfl,fun h=>h⟩,_,_,rfl,.inl ⟨true,j,rfl,rfl,fun h=>h⟩,_,_,rfl,.inl rfl,rfl⟩,_,_,rfl,rfl,rfl⟩
 ·rw[hr];exact ⟨.inl ⟨i,rfl,h1⟩,.inl ⟨j,rfl,h2⟩,trivial⟩
 ·simp only at e1 e2;split at e1 <;> split at e2
  ·omega
  ·split at e2
   ·cases e1;cases e2;exact absurd rfl hij
   ·cases e2
  ·split at e1
   ·cases e1;cases e2;exact absurd rfl hij
   ·cases e1
  ·split at e1 <;> split at e2
   ·omega
   ·cases e2
   ·cases e1
   ·cases e1
theorem q0b (b:List Int) (hp:qrd b) (R:List Item->PS->Prop):sy tt G0 CRd2 Tryd.f15.ntmps Tryd.f15.results.toList (QC ctRead (b,())) R 1000 [.code (qaf Tryd.f15)] (entry [.sl uB] (b,())):=by
 obtain ⟨p1,p2⟩:=hp;refine (q4o b _ _).mpr ?_;rw[qgh,qh1,winA];refine ⟨p1,qap (fun h=>⟨rfl,qwx ?_⟩) (fun h=>?_)⟩
 ·have h:¬ (parX b).2=true:=by simpa using h
  unfold qcm;rw[if_neg (fun q=>h q.1)]
 ·have h:(parX b).2=true:=by simpa using h
  obtain ⟨p3,p4⟩:=p2 h;refine ⟨by omega,by omega,p3,by omega,trivial,qap (fun h2=>qwx ?_) (fun h2=>?_)⟩
  ·have h2:(!rdCk b)=true:=h2;have h2:¬ rdCk b=true:=by simpa using h2
   unfold qcm;rw[if_neg (fun q=>h2 q.2.1)]
  ·have h2:(!rdCk b)=false:=h2;have h2:rdCk b=true:=by simpa using h2
   refine ⟨by omega,by omega,p4 h2,qap (fun h3=>qwx ?_) (fun h3=>?_)⟩
   ·have h3:(qbh (parX b).1.1 (parX b).1.2.1 (parX b).1.2.2).2≠0:=of_decide_eq_true h3;unfold qcm;rw[if_neg (fun q=>h3 q.2.2)]
   ·have h3:¬ (qbh (parX b).1.1 (parX b).1.2.1 (parX b).1.2.2).2≠0:=of_decide_eq_false h3;have hv:qcm b=((parX b).1,0):=by
     unfold qcm;rw[if_pos ⟨h,h2,Decidable.not_not.1 h3⟩]
    exact rd_ok hv (by decide) rfl rfl rfl rfl
theorem qww:Held Tryd.prog G0 15 ctRead:=Held.run cxRd2 (fn:=Tryd.f15) rfl rfl ⟨by decide,by decide⟩ fun ⟨b,_⟩ hp=>q0b b hp _
def CSl:CV:=[(10,.inl ctLift),(14,.inl ctLower),(19,.inl ct_fo),(15,.inl ctRead),(12,.inl ctMoved),(18,.inl ct_r2),(17,.inl ct_r3)]
theorem cxSl:CxOK Tryd.prog tt G0 CSl:=((((((cx0.cons q45 (fn:=Tryd.f17) rfl rfl rfl).cons q47 (fn:=Tryd.f18) rfl rfl rfl).cons qtk (fn:=Tryd.f12) rfl rfl rfl).cons qww (fn:=Tryd.f15) rfl rfl rfl).cons qry (fn:=Tryd.f19) rfl rfl rfl).cons qjo (fn:=Tryd.f14) rfl rfl rfl).cons qlv (fn:=Tryd.f10) rfl rfl rfl
set_option maxRecDepth 100000
abbrev sB:List Int:=(((((((((((((List.replicate (12:Nat) uB.dflt).set (0:Nat) (1:Int)).set (1:Nat) (1:Int)).set (2:Nat) (2:Int)).set (3:Nat) (3:Int)).set (4:Nat) (5:Int)).set (5:Nat) (255:Int)).set (6:Nat) (255:Int)).set (7:Nat) (255:Int)).set (8:Nat) (7:Int)).set (9:Nat) (5:Int)).set (10:Nat) (0:Int)).set (11:Nat) (0:Int))
abbrev sW:List Int:=((((List.replicate (3:Nat) u4.dflt).set (0:Nat) (16843267:Int)).set (1:Nat) (83886080:Int)).set (2:Nat) (117768193:Int))
abbrev sM:List Bool:=((((List.replicate (3:Nat) Sh.bool.dflt).set (0:Nat) false).set (1:Nat) true).set (2:Nat) true)
abbrev sL:List Int:=(((List.replicate (2:Nat) iI.dflt).set (0:Nat) (0:Int)).set (1:Nat) (8:Int))
abbrev sU:List Int:=winL u4 (0:Nat) (3:Nat) sW
abbrev sN:List Bool:=winL Sh.bool (0:Nat) (3:Nat) sM
abbrev sK:List Int:=winL iI (0:Nat) (2:Nat) sL
abbrev sC:List Int:=winL uB (0:Nat) (12:Nat) sB
abbrev sX:LfT:=qag (sC)
abbrev sO:List Int × Int:=qbh (sU) (sN) (sK)
abbrev sF:List Int:=qdr (sU,sN,sK)
abbrev sR:LiT × Int:=qcm (winL uB (0:Nat) (sF).length (sF))
theorem q4e (Q:QT) (R:RT):sy tt G0 CSl Tryd.f8.ntmps Tryd.f8.results.toList Q R 1000 [.code (qaf Tryd.f8)] (entry [] ()) =
 (0+12<=sB.length/\ctLift.pre (sC,())/\0+3<=sW.length/\0+3<=sM.length/\0+2<=sL.length/\ctLower.pre ((sU,sN,sK),())/\0+3<=sW.length/\0+3<=sM.length/\0+2<=sL.length/\ct_fo.pre ((sU,sN,sK),())/\0+(sF).length<=(sF).length/\0+(sF).length<=(sF).length/\0+(sF).length<=(sF).length/\ctRead.pre (winL uB 0 (sF).length (sF),())/\0+12<=sB.length/\ctMoved.pre (sC,(1:Int),(1:Int),())/\(0:Int)<=3/\(3:Int)<=(↑(12:Nat):Int)/\0+12<=sB.length/\0+0+(3-0)<=sB.length/\ctLift.pre (winL uB (0+0) (3-0) sB,())/\0+1<=([(83886080:Int)]:List u4.D).length/\0+1<=([false]:List Sh.bool.D).length/\ctLower.pre ((([(83886080:Int)]:List u4.D),([false]:List Sh.bool.D),[]),())/\ctRead.pre ([],())/\0+12<=sB.length/\ctMoved.pre (sC,(4:Int),(0:Int),())/\0+21<=((((((((((((((((((((((List.replicate 21 uB.dflt).set 0 (0:Int)).set 1 (3:Int)).set 2 (0:Int)).set 3 (2:Int)).set 4 (0:Int)).set 5 (0:Int)).set 6 (0:Int)).set 7 (2:Int)).set 8 (6:Int)).set 9 (1:Int)).set 10 (1:Int)).set 11 (2:Int)).set 12 (3:Int)).set 13 (5:Int)).set 14 (0:Int)).set 15 (0:Int)).set 16 (0:Int)).set 17 (7:Int)).set 18 (5:Int)).set 19 (0:Int)).set 20 (1:Int)).length/\ct_r2.pre (winL uB 0 (sF).length (sF),winL uB 0 21 ((((((((((((((((((((((List.replicate 21 uB.dflt).set 0 (0:Int)).set 1 (3:Int)).set 2 (0:Int)).set 3 (2:Int)).set 4 (0:Int)).set 5 (0:Int)).set 6 (0:Int)).set 7 (2:Int)).set 8 (6:Int)).set 9 (1:Int)).set 10 (1:Int)).set 11 (2:Int)).set 12 (3:Int)).set 13 (5:Int)).set 14 (0:Int)).set 15 (0:Int)).set 16 (0:Int)).set 17 (7:Int)).set 18 (5:Int)).set 19 (0:Int)).set 20 (1:Int)),())/\0+(sX).w.length<=(sX).w.length/\0+(sX).m.length<=(sX).m.length/\0+(sX).k<=(sX).t.length/\0+3<=sW.length/\0+3<=sM.length/\0+2<=sL.length/\ct_r3.pre ((winL u4 0 (sX).w.length (sX).w,winL Sh.bool 0 (sX).m.length (sX).m,winL iI 0 (sX).k (sX).t),(sU,sN,sK),())/\0+(sO).1.length<=(sO).1.length/\0+12<=sB.length/\ct_r2.pre (winL uB 0 (sO).1.length (sO).1,sC,())/\0+(sR).1.1.length<=(sR).1.1.length/\0+(sR).1.2.1.length<=(sR).1.2.1.length/\0+3<=sW.length/\0+3<=sM.length/\0+2<=sL.length/\ct_r3.pre ((winL u4 0 (sR).1.1.length (sR).1.1,winL Sh.bool 0 (sR).1.2.1.length (sR).1.2.1,(sR).1.2.2),(sU,sN,sK),())/\0+(qb2 (sC) (1:Int) (1:Int)).1.length<=(qb2 (sC) (1:Int) (1:Int)).1.length/\0+16<=(((((((((((((((((List.replicate 16 uB.dflt).set 0 (1:Int)).set 1 (1:Int)).set 2 (2:Int)).set 3 (3:Int)).set 4 (0:Int)).set 5 (0:Int)).set 6 (0:Int)).set 7 (0:Int)).set 8 (5:Int)).set 9 (255:Int)).set 10 (255:Int)).set 11 (254:Int)).set 12 (7:Int)).set 13 (5:Int)).set 14 (0:Int)).set 15 (0:Int)).length/\ct_r2.pre (winL uB 0 (qb2 (sC) (1:Int) (1:Int)).1.length (qb2 (sC) (1:Int) (1:Int)).1,winL uB 0 16 (((((((((((((((((List.replicate 16 uB.dflt).set 0 (1:Int)).set 1 (1:Int)).set 2 (2:Int)).set 3 (3:Int)).set 4 (0:Int)).set 5 (0:Int)).set 6 (0:Int)).set 7 (0:Int)).set 8 (5:Int)).set 9 (255:Int)).set 10 (255:Int)).set 11 (254:Int)).set 12 (7:Int)).set 13 (5:Int)).set 14 (0:Int)).set 15 (0:Int)),())/\Q [.bool (bif true then decide ((have this:=winL uB 0 (qb2 (sC) (1:Int) (1:Int)).1.length (qb2 (sC) (1:Int) (1:Int)).1;this)=winL uB 0 16 (((((((((((((((((List.replicate 16 uB.dflt).set 0 (1:Int)).set 1 (1:Int)).set 2 (2:Int)).set 3 (3:Int)).set 4 (0:Int)).set 5 (0:Int)).set 6 (0:Int)).set 7 (0:Int)).set 8 (5:Int)).set 9 (255:Int)).set 10 (255:Int)).set 11 (254:Int)).set 12 (7:Int)).set 13 (5:Int)).set 14 (0:Int)).set 15 (0:Int))) else false)] [(2,.var [.win true u4 23 0 3,.win true Sh.bool 24 0 3,.win true iI 25 0 2]),(3,.var [.win false u4 1118784 0 3,.win false Sh.bool 1118785 0 3,.win false iI 1118786 0 2]),(8,.var [.win true u4 1167936 0 3,.win true Sh.bool 1167937 0 3,.sl iI (sR).1.2.2]),(12,.var [.win false u4 1212992 0 0,.win false Sh.bool 1212993 0 0,.win false iI 1212994 0 0]),(16,.var [.win true u4 1258048 0 0,.win true Sh.bool 1258049 0 0,.sl iI (qcm []).1.2.2]),(22,.row 5 uB sB),(23,.row 50 u4 sW),(24,.row 4 Sh.bool sM),(25,.row 3 iI sL),(56,.row 50 u4 ([(83886080:Int)]:List u4.D)),(57,.row 4 Sh.bool ([false]:List Sh.bool.D)),(102,.row 5 uB ((((((((((((((((((((((List.replicate 21 uB.dflt).set 0 (0:Int)).set 1 (3:Int)).set 2 (0:Int)).set 3 (2:Int)).set 4 (0:Int)).set 5 (0:Int)).set 6 (0:Int)).set 7 (2:Int)).set 8 (6:Int)).set 9 (1:Int)).set 10 (1:Int)).set 11 (2:Int)).set 12 (3:Int)).set 13 (5:Int)).set 14 (0:Int)).set 15 (0:Int)).set 16 (0:Int)).set 17 (7:Int)).set 18 (5:Int)).set 19 (0:Int)).set 20 (1:Int))),(125,.row 5 uB (((((((((((((((((List.replicate 16 uB.dflt).set 0 (1:Int)).set 1 (1:Int)).set 2 (2:Int)).set 3 (3:Int)).set 4 (0:Int)).set 5 (0:Int)).set 6 (0:Int)).set 7 (0:Int)).set 8 (5:Int)).set 9 (255:Int)).set 10 (255:Int)).set 11 (254:Int)).set 12 (7:Int)).set 13 (5:Int)).set 14 (0:Int)).set 15 (0:Int))),(1118784,.row 50 u4 (sX).w),(1118785,.row 4 Sh.bool (sX).m),(1118786,.row 3 iI (sX).t),(1139264,.row 5 uB (sO).1),(1167936,.row 50 u4 (sR).1.1),(1167937,.row 4 Sh.bool (sR).1.2.1),(1188416,.row 5 uB (qb2 (sC) (1:Int) (1:Int)).1),(1212992,.row 50 u4 (qag (winL uB (0+0) (3-0) sB)).w),(1212993,.row 4 Sh.bool (qag (winL uB (0+0) (3-0) sB)).m),(1212994,.row 3 iI (qag (winL uB (0+0) (3-0) sB)).t),(1241664,.row 5 uB (qbh (([(83886080:Int)]:List u4.D)) (([false]:List Sh.bool.D)) []).1),(1258048,.row 50 u4 (qcm []).1.1),(1258049,.row 4 Sh.bool (qcm []).1.2.1),(1278528,.row 5 uB (qb2 (sC) (4:Int) (0:Int)).1)]):=by kernel_rfl
theorem qsq {b:List Int} (h:∀ x∈b,0<=x/\x<256):u8L b:=fun j=>by
 by_cases hj:j<b.length
 ·rw[qpy hj];exact h _ (List.getElem_mem hj)
 ·have:gtB b j=0:=by
   show gt uB _ _=_
   unfold gt;rw[List.getElem?_eq_none (by omega)];rfl
  rw[this];exact ⟨by decide,by decide⟩
theorem q8j {b:List Int} (h:∀ x∈b,0<=x/\x<4294967296) (j:Nat):0<=gtW b j/\gtW b j<4294967296:=by
 by_cases hj:j<b.length
 ·rw[qha hj];exact h _ (List.getElem_mem hj)
 ·have:gtW b j=0:=by
   show gt u4 _ _=_
   unfold gt;rw[List.getElem?_eq_none (by omega)];rfl
  rw[this];decide
theorem q9u {l:List Int} (h:∀ x∈l,-1073741824<=x/\x<=1073741824):q06 l:=fun j=>by
 have r : -1073741824<=gtI l j/\gtI l j<=1073741824:=by
  by_cases hj:j<l.length
  ·rw[qc9 hj];exact h _ (List.getElem_mem hj)
  ·have:gtI l j=0:=by
    show gt iI _ _=_
    unfold gt;rw[List.getElem?_eq_none (by omega)];rfl
   rw[this];decide
 omega
theorem qtb {l:List Int} (h1:∀ w∈l,0<=w/\w<4294967296) (h2:l.length<=16384) (h3:(lnk l).length<=49):qrc l:=⟨⟨h1,h2⟩,h3⟩
theorem qgp {b:List Int} (h1:∀ x∈b,0<=x/\x<256) (h2:b.length<33554432) (h3:∀ w∈(qah b).1,0<=w/\w<4294967296) (h4:(qah b).1.length<=16384) (h5:(lnk (qah b).1).length<=49):qdn b:=fun _=>⟨⟨qsq h1,h2⟩,fun _=>qtb h3 h4 h5⟩
theorem qhm {w:List Int} {m:List Bool} {l:List Int} (h1:∀ x∈w,0<=x/\x<4294967296) (h2:∀ x∈l,-1073741824<=x/\x<=1073741824) (h3:∀ x∈(loV w m l).1,0<=x/\x<4294967296) (h4:(loV w m l).1.length<=16384) (h5:(lnk (loV w m l).1).length<=49):qgo w m l:=⟨⟨q8j h1,q9u h2⟩,fun _=>qtb h3 h4 h5⟩
def ctSanL:Ctr:=⟨[],fun _=>True,fun _=>[.bool true],fun _=>[]⟩
theorem q0z (R:List Item->PS->Prop):sy tt G0 CSl Tryd.f8.ntmps Tryd.f8.results.toList (QC ctSanL ()) R 1000 [.code (qaf Tryd.f8)] (entry [] ()):=by
 refine (q4e _ _).mpr ?_
 repeat' first
  | exact trivial
  | (show qdn _;refine qgp ?_ ?_ ?_ ?_ ?_ <;> decide +kernel)
  | (show qgo _ _ _;refine qhm ?_ ?_ ?_ ?_ ?_ <;> decide +kernel)
  | (show qrd _;refine ⟨⟨qsq ?_,?_⟩,fun _=>⟨⟨?_,?_,?_⟩,fun _=>qhm ?_ ?_ ?_ ?_ ?_⟩⟩ <;> decide +kernel)
  | (show qih _ _ _;refine ⟨qgp ?_ ?_ ?_ ?_ ?_,fun _=>qhm ?_ ?_ ?_ ?_ ?_⟩ <;> decide +kernel)
  | (show qxf _;refine ⟨?_,?_,?_⟩ <;> decide +kernel)
  | (show q5n _;refine ⟨?_,?_,?_⟩ <;> decide +kernel)
  | (show List.length _<1099511627776;decide +kernel)
  | decide +kernel
  | refine And.intro ?_ ?_
  | (refine QC.flat ?_ rfl rfl;refine congrArg (fun b=>[SV.bool b]) ?_;decide +kernel)
theorem qx1:Held Tryd.prog G0 8 ctSanL:=Held.run cxSl (fn:=Tryd.f8) rfl rfl ⟨by decide,by decide⟩ fun x _=>q0z _
open Go.IntKind(i64 u32 u8)
theorem q9p:∃ f:List Int->LfT,f=qag:=⟨_,rfl⟩
noncomputable def qvc:List Int->LfT:=Classical.choose q9p
theorem qkt:qvc=qag:=Classical.choose_spec q9p
noncomputable def ctLiftX:Ctr:=⟨[.sl uB],fun x=>qdn x.1,fun x=>q0p (qvc x.1),fun x=>qz9 (qvc x.1)⟩
theorem qvb:Held Tryd.prog G0 10 ctLiftX:=by
 have e:ctLiftX=ctLift:=by unfold ctLiftX;rw[qkt];rfl
 rw[e];exact qlv
theorem q9k:∃ f:List Int->Int->Int->List Int × Int,f=qb2:=⟨_,rfl⟩
noncomputable def qxx:List Int->Int->Int->List Int × Int:=Classical.choose q9k
theorem qtl:qxx=qb2:=Classical.choose_spec q9k
noncomputable def ctMovX:Ctr:=⟨[.sl uB,iI,iI],fun x=>qih x.1 x.2.1 x.2.2.1,fun x=>[.win true uB 0 0 (qxx x.1 x.2.1 x.2.2.1).1.length,.int .i64 (qxx x.1 x.2.1 x.2.2.1).2],fun x=>[.row 5 uB (qxx x.1 x.2.1 x.2.2.1).1]⟩
theorem qxw:Held Tryd.prog G0 12 ctMovX:=by
 have e:ctMovX=ctMoved:=by unfold ctMovX;rw[qtl];rfl
 rw[e];exact qtk
noncomputable def CSz:CV:=[(8,.inl ctSanL),(20,.inl ctByt),(10,.inl ctLiftX),(19,.inl ct_fo),(12,.inl ctMovX)]
theorem cxSz:CxOK Tryd.prog tt G0 CSz:=((((cx0.cons qxw (fn:=Tryd.f12) rfl rfl rfl).cons qry (fn:=Tryd.f19) rfl rfl rfl).cons qvb (fn:=Tryd.f10) rfl rfl rfl).cons q17 (fn:=Tryd.f20) rfl rfl rfl).cons qx1 (fn:=Tryd.f8) rfl rfl rfl
set_option maxRecDepth 100000
def zW (l:List Int):List Int:=List.take (min (↑l.length:Int) (20:Int)).toNat l
def zB (l:List Int):List Int:=winL uB 0 (bytL (zW l)).length (bytL (zW l))
noncomputable def zX (l:List Int):LfT:=qvc (zB l)
abbrev zN (l:List Int) (n:Int):Int:=i64.wrap ((↑(bytL (zW l)).length:Int)-(i64.wrap n).tmod (i64.wrap ((↑(bytL (zW l)).length:Int)+(1:Int))))
def zC (l:List Int) (n:Int):List Int:=winL uB (0+0) ((zN l n).toNat-0) (bytL (zW l))
noncomputable def zY (l:List Int) (n:Int):LfT:=qvc (zC l n)
noncomputable def zL (l:List Int):LiT:=(winL u4 0 (zX l).w.length (zX l).w,winL Sh.bool 0 (zX l).m.length (zX l).m,winL iI 0 (zX l).k (zX l).t)
def zP:List Int:=winL uB 0 65540 (List.replicate 65540 uB.dflt)
def zQ:List Int:=winL uB 0 65536 (List.replicate 65536 uB.dflt)
noncomputable def zU:LfT:=qvc zP
noncomputable def zV:List Int × Int:=qxx zQ 0 1
noncomputable def qdh (l:List Int) (n:Int):List (Nat × LB):=[(9,.var [.win false u4 1110592 0 (zX l).w.length,.win false Sh.bool 1110593 0 (zX l).m.length,.win false iI 1110594 0 (zX l).k]),(12,.var [.win false u4 1339968 0 (zY l n).w.length,.win false Sh.bool 1339969 0 (zY l n).m.length,.win false iI 1339970 0 (zY l n).k]),(14,.var [.win false u4 1434176 0 (zU).w.length,.win false Sh.bool 1434177 0 (zU).m.length,.win false iI 1434178 0 (zU).k]),(105,.row 5 uB (List.replicate (65540) uB.dflt)),(110,.row 5 uB (List.replicate (65536) uB.dflt)),(1098304,.row 5 uB (bytL (zW l))),(1110592,.row 50 u4 (zX l).w),(1110593,.row 4 Sh.bool (zX l).m),(1110594,.row 3 iI (zX l).t),(1208896,.row 5 uB (qdr (zL l))),(1339968,.row 50 u4 (zY l n).w),(1339969,.row 4 Sh.bool (zY l n).m),(1339970,.row 3 iI (zY l n).t),(1434176,.row 50 u4 (zU).w),(1434177,.row 4 Sh.bool (zU).m),(1434178,.row 3 iI (zU).t),(1454656,.row 5 uB (zV).1)]
noncomputable def qgu (l:List Int) (n:Int):List (Nat × LB):=[(9,.var [.win false u4 1110592 0 (zX l).w.length,.win false Sh.bool 1110593 0 (zX l).m.length,.win false iI 1110594 0 (zX l).k]),(12,.var [.win false u4 1339968 0 (zY l n).w.length,.win false Sh.bool 1339969 0 (zY l n).m.length,.win false iI 1339970 0 (zY l n).k]),(1098304,.row 5 uB (bytL (zW l))),(1110592,.row 50 u4 (zX l).w),(1110593,.row 4 Sh.bool (zX l).m),(1110594,.row 3 iI (zX l).t),(1208896,.row 5 uB (qdr (zL l))),(1339968,.row 50 u4 (zY l n).w),(1339969,.row 4 Sh.bool (zY l n).m),(1339970,.row 3 iI (zY l n).t)]
noncomputable def qjn (l:List Int):List (Nat × LB):=[(9,.var [.win false u4 1110592 0 (zX l).w.length,.win false Sh.bool 1110593 0 (zX l).m.length,.win false iI 1110594 0 (zX l).k]),(1098304,.row 5 uB (bytL (zW l))),(1110592,.row 50 u4 (zX l).w),(1110593,.row 4 Sh.bool (zX l).m),(1110594,.row 3 iI (zX l).t)]
theorem q73 (l:List Int) (n:Int) (g:Bool) (Q:QT) (R:RT):sy tt G0 CSz Tryd.f7.ntmps Tryd.f7.results.toList Q R 1000 [.code (qaf Tryd.f7)] (entry [.sl u4,.int .u8,.bool] (l,n,g,())) =
 (ctSanL.pre ()/\0<=min (l.length:Int) (20:Int)/\min (l.length:Int) (20:Int)<=(l.length:Int)/\ctByt.pre (zW l,())/\0+(bytL (zW l)).length<=(bytL (zW l)).length/\ctLiftX.pre (zB l,())/\bc (decide ((zX l).e≠0)) (true=true/\true=true/\Q [.bool false] (qjn l)) ((4:Int)≠0/\bc (bif false then true else decide ((↑(zX l).w.length:Int)≠i64.wrap ((↑(bytL (zW l)).length:Int).tdiv (4:Int)))) (true=true/\Q [.bool false] (qjn l)) (bc (bif false then true else decide ((↑(zX l).w.length:Int)<(↑(zX l).k:Int))) (Q [.bool false] (qjn l)) (0+(zX l).w.length<=(zX l).w.length/\0+(zX l).m.length<=(zX l).m.length/\0+(zX l).k<=(zX l).t.length/\ct_fo.pre ((zL l),())/\(8:Int)≠0/\bc (decide ((↑(qdr (zL l)).length:Int)≠i64.wrap (i64.wrap (i64.wrap ((4:Int)+i64.wrap ((2:Int)*(↑(zX l).k:Int)))+i64.wrap ((4:Int)*(↑(zX l).w.length:Int)))+i64.wrap ((i64.wrap ((↑(zX l).w.length:Int)+7)).tdiv (8:Int))))) (Q [.bool false] [(9,.var [.win false u4 1110592 0 (zX l).w.length,.win false Sh.bool 1110593 0 (zX l).m.length,.win false iI 1110594 0 (zX l).k]),(1098304,.row 5 uB (bytL (zW l))),(1110592,.row 50 u4 (zX l).w),(1110593,.row 4 Sh.bool (zX l).m),(1110594,.row 3 iI (zX l).t),(1208896,.row 5 uB (qdr (zL l)))]) (i64.wrap ((↑(bytL (zW l)).length:Int)+1)≠0/\0<=zN l n/\zN l n<=(↑(bytL (zW l)).length:Int)/\0+(bytL (zW l)).length<=(bytL (zW l)).length/\0+0+((zN l n).toNat-0)<=(bytL (zW l)).length/\ctLiftX.pre (zC l n,())/\(4:Int)≠0/\bc (!decide ((zY l n).e=0) == decide ((↑((zN l n).toNat-0):Int).tmod (4:Int)=0)) (true=true/\Q [.bool false] (qgu l n)) (bc (decide ((zY l n).e≠0)) (bc (bif false then true else bif true then decide ((zY l n).e≠30) else false) (Q [.bool false] (qgu l n)) (bc (!g) (Q [.bool true] (qgu l n)) ((0:Int)<=65540/\(65540:Int)<=65540/\(65540:Int)<2 ^ 24/\(↑(1:Nat):Int)*65540<=2 ^ 48/\0+65540<=(List.replicate (65540) uB.dflt).length/\ctLiftX.pre (zP,())/\(0:Int)<=65536/\(65536:Int)<=65536/\(65536:Int)<2 ^ 24/\(↑(1:Nat):Int)*65536<=2 ^ 48/\0+65536<=(List.replicate (65536) uB.dflt).length/\ctMovX.pre (zQ,(0:Int),(1:Int),())/\bc (decide ((zU).e=30)) (bc (decide ((zV).2=30)) (Q [.bool true] (qdh l n)) (false=false/\Q [.bool false] (qdh l n))) (false=false/\false=false/\Q [.bool false] (qdh l n))))) (false=false/\bc (!g) (Q [.bool true] (qgu l n)) ((0:Int)<=65540/\(65540:Int)<=65540/\(65540:Int)<2 ^ 24/\(↑(1:Nat):Int)*65540<=2 ^ 48/\0+65540<=(List.replicate (65540) uB.dflt).length/\ctLiftX.pre (zP,())/\(0:Int)<=65536/\(65536:Int)<=65536/\(65536:Int)<2 ^ 24/\(↑(1:Nat):Int)*65536<=2 ^ 48/\0+65536<=(List.replicate (65536) uB.dflt).length/\ctMovX.pre (zQ,(0:Int),(1:Int),())/\bc (decide ((zU).e=30)) (bc (decide ((zV).2=30)) (Q [.bool true] (qdh l n)) (false=false/\Q [.bool false] (qdh l n))) (false=false/\false=false/\Q [.bool false] (qdh l n)))))))))):=by kernel_rfl
def inc (m:Nat) (l:List Int):Prop:=∀ a b,a<b->b<m->gtI l a<gtI l b
theorem q1e {k:Nat} {l:List Int} {v:Int} (h:inc k l) (hk:k<l.length) (hv:0<k->gtI l (k-1)<v):inc (k+1) (l.set k v):=by
 intro a b hab hb;rw[qdq hk,qdq hk,if_neg (by omega)];by_cases e:b=k
 ·rw[if_pos e];by_cases e2:a=k-1
  ·rw[e2];exact hv (by omega)
  ·have:=h a (k-1) (by omega) (by omega);have:=hv (by omega);omega
 ·rw[if_neg e];exact h a b hab (by omega)
theorem qy4 {L:List Int} (hs:srt L.length L) {lo:Nat}:∀ (f m k:Nat) (l:List Int),l.length=L.length->lo+m+f=L.length->1<=m->1<=k->k+1<=lo+m->inc k l->(∀ x,inI' k l x↔inI' (lo+m) L x)->gtI l (k-1)=gtI L (lo+m-1)->(∀ i,lo+m-1<=i->gtI l i=gtI L i) ->
  (cpJ lo f m k l).1<=L.length/\(cpJ lo f m k l).2.length=L.length/\inc (cpJ lo f m k l).1 (cpJ lo f m k l).2/\∀ x,inI' (cpJ lo f m k l).1 (cpJ lo f m k l).2 x↔inI' L.length L x
 | 0,m,k,l,hl,hf,hm,hk1,hk,hi,hin,_,_=>by
  rw[cpJ];rw[show lo+m=L.length by omega] at hin;exact ⟨by show k<=_;omega,hl,hi,hin⟩
 | f+1,m,k,l,hl,hf,hm,hk1,hk,hi,hin,hlast,hun=>by
  rw[cpJ];have e1:gtI l (lo+m)=gtI L (lo+m):=hun _ (by omega);have e2:gtI l (lo+(m-1))=gtI L (lo+m-1):=by rw[hun _ (by omega),show lo+(m-1)=lo+m-1 by omega]
  rw[e1,e2];split
  ·rename_i hne;have hle:=hs (lo+m-1) (lo+m) (by omega) (by omega);refine qy4 hs f (m+1) (k+1) (l.set k (gtI L (lo+m))) (by rw[List.length_set];exact hl) (by omega) (by omega) (by omega) (by omega) (q1e hi (by omega) fun _=>by rw[hlast];omega) (fun x=>?_) (by rw[qdq (by omega),if_pos (by omega)];congr 1) (fun i hi2=>by rw[qdq (by omega),if_neg (by omega)];exact hun i (by omega));constructor
   ·rintro ⟨i,hi3,e⟩;rw[qdq (by omega)] at e;split at e
    ·exact ⟨lo+m,by omega,e⟩
    ·obtain ⟨j,hj,e⟩:=(hin x).1 ⟨i,by omega,e⟩;exact ⟨j,by omega,e⟩
   ·rintro ⟨i,hi3,e⟩;by_cases h3:i=lo+m
    ·exact ⟨k,by omega,by rw[qdq (by omega),if_pos rfl,<- h3];exact e⟩
    ·obtain ⟨j,hj,e⟩:=(hin x).2 ⟨i,by omega,e⟩;exact ⟨j,by omega,by rw[qdq (by omega),if_neg (by omega)];exact e⟩
  ·rename_i heq;have heq:gtI L (lo+m)=gtI L (lo+m-1):=Decidable.not_not.1 heq;refine qy4 hs f (m+1) k l hl (by omega) (by omega) hk1 (by omega) hi (fun x=>?_) (by rw[hlast,show lo+(m+1)-1=lo+m by omega,heq]) (fun i hi2=>hun i (by omega));rw[hin x];constructor
   ·rintro ⟨i,hi3,e⟩;exact ⟨i,by omega,e⟩
   ·rintro ⟨i,hi3,e⟩;by_cases h3:i=lo+m
    ·exact ⟨lo+m-1,by omega,by rw[<- heq,<- h3];exact e⟩
    ·exact ⟨i,by omega,e⟩
theorem q67 {k i:Nat} {l:List Int} (h:i<k):gtI (winL iI 0 k l) i=gtI l i:=by
 show gt iI _ _=gt iI _ _
 unfold gt winL;rw[List.drop_zero,List.getElem?_take_of_lt h]
theorem qgx {l:List Int} {k i:Nat} {z:List Int} (h:i<k) (hk:k<=l.length):gtI (setRow l k z) i=gtI l i:=by
 show gt iI _ _=gt iI _ _
 unfold gt setRow;rw[List.append_assoc,List.getElem?_append_left (by rw[List.length_take];omega),List.getElem?_take_of_lt h]
theorem q3t {L:List Int} (hs:srt L.length L):∀ (f k:Nat),k+f=L.length->1<=k->inc k L ->
  (cpI f k L).2.1<=L.length/\(cpI f k L).2.2.length=L.length/\inc (cpI f k L).2.1 (cpI f k L).2.2/\∀ x,inI' (cpI f k L).2.1 (cpI f k L).2.2 x↔inI' L.length L x
 | 0,k,hf,hk,hi=>by
  rw[cpI];rw[show k=L.length by omega] at hi;exact ⟨Nat.le_refl _,rfl,hi,fun x=>Iff.rfl⟩
 | f+1,k,hf,hk,hi=>by
  rw[cpI];split
  ·rename_i heq
   obtain ⟨r1,r2,r3,r4⟩:=qy4 hs (lo:=k) (L.length-k-1) 1 k L rfl (by omega) (Nat.le_refl _) hk (Nat.le_refl _) hi (fun x=>by
    constructor
    ·rintro ⟨i,hi3,e⟩;exact ⟨i,by omega,e⟩
    ·rintro ⟨i,hi3,e⟩;by_cases h3:i=k
     ·exact ⟨k-1,by omega,by rw[<- heq,<- h3];exact e⟩
     ·exact ⟨i,by omega,e⟩) (by rw[show k+1-1=k by omega];exact heq.symm) (fun i _=>rfl)
   unfold cpZ;refine ⟨r1,?_,fun a b hab hb=>?_,fun x=>?_⟩
   ·show (setRow _ _ _).length=_
    unfold setRow;simp only[List.length_append,List.length_take,List.length_replicate,List.length_drop];omega
   ·show gtI (setRow _ _ _) a<gtI (setRow _ _ _) b
    have hb:b<(cpJ k (L.length-k-1) 1 k L).1:=hb;rw[qgx (by omega) (by omega),qgx hb (by omega)];exact r3 a b hab hb
   ·rw[<- r4 x];constructor
    ·rintro ⟨i,hi3,e⟩;have hi3:i<(cpJ k (L.length-k-1) 1 k L).1:=hi3;have e:gtI (setRow _ _ _) i=x:=e;rw[qgx hi3 (by omega)] at e;exact ⟨i,hi3,e⟩
    ·rintro ⟨i,hi3,e⟩;refine ⟨i,hi3,?_⟩
     show gtI (setRow _ _ _) i=x
     rw[qgx hi3 (by omega)];exact e
  ·rename_i hne;refine q3t hs f (k+1) (by omega) (by omega) fun a b hab hb=>?_
   by_cases e:b=k
   ·subst e;have h1:=hs (b-1) b (by omega) (by omega);by_cases e2:a=b-1
    ·subst e2;omega
    ·have:=hi a (b-1) (by omega) (by omega);omega
   ·exact hi a b hab (by omega)
theorem qy3 {L:List Int} (hs:srt L.length L):(cptV L).2.1<=L.length/\(cptV L).2.2.length=L.length/\inc (cptV L).2.1 (cptV L).2.2/\∀ x,inI' (cptV L).2.1 (cptV L).2.2 x↔inI' L.length L x:=by
 unfold cptV;by_cases h:L.length=0
 ·rw[show L.length-1=0 by omega,cpI];exact ⟨Nat.le_refl _,rfl,fun a b _ hb=>by have hb:b<L.length:=hb;omega,fun x=>Iff.rfl⟩
 ·exact q3t hs _ 1 (by omega) (Nat.le_refl _) (fun a b hab hb=>by omega)
theorem qwq {l:List Int} (hi:inc l.length l) {p:Nat} (hp:p<l.length):∀ (k i j:Nat),j-i<=k->i<=p->p<=j->j<=l.length->seaF l (gtI l p) k i j=p
 | 0,i,j,hk,h1,h2,h3=>by rw[seaF];omega
 | k+1,i,j,hk,h1,h2,h3=>by
  rw[seaF];split
  ·rename_i hij;split
   ·rename_i hge;refine qwq hi hp k i ((i+j) / 2) (by omega) h1 ?_ (by omega);by_cases e:(i+j) / 2<p
    ·have:=hi _ _ e hp;omega
    ·omega
   ·rename_i hlt;refine qwq hi hp k ((i+j) / 2+1) j (by omega) ?_ h2 h3;by_cases e:p<(i+j) / 2+1
    ·by_cases e2:p=(i+j) / 2
     ·rw[<- e2] at hlt;omega
     ·have:=hi p ((i+j) / 2) (by omega) (by omega);omega
    ·omega
  ·omega
theorem q9x {l:List Int} (hi:inc l.length l) {p:Nat} (hp:p<l.length):iofV l (gtI l p)=p:=qwq hi hp _ 0 _ (by omega) (Nat.zero_le _) (by omega) (Nat.le_refl _)
theorem qru (l:List Int):(qdc l).length=(tgV l).2.1/\inc (qdc l).length (qdc l)/\(qdc l).length<=(lnk l).length/\∀ x,inI' (qdc l).length (qdc l) x↔x∈tgO (lnk l):=by
 obtain ⟨s1,s2⟩:=qqy (tgO (lnk l));have sl:=qfo (tgO (lnk l));obtain ⟨c1,c2,c3,c4⟩:=qy3 (L:=qdj (tgO (lnk l))) (by rw[sl];exact s1);have hlen:(qdc l).length=(tgV l).2.1:=by
  unfold qdc winL;rw[List.drop_zero,List.length_take]
  show min (cptV _).2.1 (cptV _).2.2.length=(cptV _).2.1
  omega
 have hgl:∀ i,i<(tgV l).2.1->gtI (qdc l) i=gtI (tgV l).2.2 i:=fun i hi=>q67 hi
 refine ⟨hlen,fun a b hab hb=>?_,?_,fun x=>?_⟩
 ·rw[hlen] at hb;rw[hgl a (by omega),hgl b hb];exact c3 a b hab hb
 ·rw[hlen];have:(tgO (lnk l)).length=(lnk l).length:=by unfold tgO;rw[List.length_map]
  show (cptV _).2.1<=_
  omega
 ·rw[hlen];have h1:inI' (tgV l).2.1 (qdc l) x↔inI' (tgV l).2.1 (tgV l).2.2 x:=by
   constructor
   ·rintro ⟨i,hi,e⟩;exact ⟨i,hi,by rw[<- hgl i hi];exact e⟩
   ·rintro ⟨i,hi,e⟩;exact ⟨i,hi,by rw[hgl i hi];exact e⟩
  rw[h1,show inI' (tgV l).2.1 (tgV l).2.2 x↔_ from c4 x,sl,s2 x];constructor
  ·rintro ⟨i,hi,e⟩;rw[<- e,show gtI (tgO (lnk l)) i=(tgO (lnk l))[i] from qc9 hi];exact List.getElem_mem hi
  ·intro hx;obtain ⟨i,hi,e⟩:=List.getElem_of_mem hx;exact ⟨i,hi,by rw[show gtI (tgO (lnk l)) i=(tgO (lnk l))[i] from qc9 hi];exact e⟩
theorem q3m {l:List Int} {i j:Nat} {v:Int} (h:i<l.length):gtW (l.set i v) j=if j=i then v else gtW l j:=by
 show gt u4 _ j=_
 unfold gt;by_cases e:j=i
 ·subst e;rw[if_pos rfl,List.getElem?_set_self h];rfl
 ·rw[if_neg e,List.getElem?_set_ne (fun q=>e q.symm)];rfl
theorem q3n {l:List Bool} {i j:Nat} {v:Bool} (h:i<l.length):gtM (l.set i v) j=if j=i then v else gtM l j:=by
 show gt Sh.bool _ j=_
 unfold gt;by_cases e:j=i
 ·subst e;rw[if_pos rfl,List.getElem?_set_self h];rfl
 ·rw[if_neg e,List.getElem?_set_ne (fun q=>e q.symm)];rfl
theorem q3k (l lab:List Int):∀ (rs:List (Nat × InT)) (w:List Int) (m:List Bool),(lfF l lab rs w m).1.length=w.length/\(lfF l lab rs w m).2.length=m.length
 | [],w,m=>⟨rfl,rfl⟩
 | r::rs,w,m=>by
  rw[lfF];obtain ⟨h1,h2⟩:=q3k l lab rs (w.set r.1 (lfW l lab r.1 r.2)) (m.set r.1 true);rw[List.length_set] at h1 h2;exact ⟨h1,h2⟩
theorem qyc {l lab:List Int} {i:Nat}:∀ (rs:List (Nat × InT)) (w:List Int) (m:List Bool),(∀ r∈rs,r.1<w.length)->w.length=m.length->(∀ r∈rs,r.1≠i)->gtW (lfF l lab rs w m).1 i=gtW w i/\gtM (lfF l lab rs w m).2 i=gtM m i
 | [],w,m,_,_,_=>⟨rfl,rfl⟩
 | r::rs,w,m,h,he,hn=>by
  rw[lfF];have h0:=h r (List.mem_cons_self ..);obtain ⟨h1,h2⟩:=qyc rs (w.set r.1 (lfW l lab r.1 r.2)) (m.set r.1 true) (fun x hx=>by rw[List.length_set];exact h x (List.mem_cons_of_mem _ hx)) (by rw[List.length_set,List.length_set];exact he) (fun x hx=>hn x (List.mem_cons_of_mem _ hx));have hi:=hn r (List.mem_cons_self ..);rw[h1,h2,q3m h0,q3n (by omega),if_neg (fun q=>hi q.symm),if_neg (fun q=>hi q.symm)];exact ⟨rfl,rfl⟩
theorem qyb {l lab:List Int}:∀ (rs:List (Nat × InT)) (w:List Int) (m:List Bool),(∀ r∈rs,r.1<w.length)->w.length=m.length->rs.Pairwise (fun a b=>a.1<b.1)->∀ r∈rs,gtW (lfF l lab rs w m).1 r.1=lfW l lab r.1 r.2/\gtM (lfF l lab rs w m).2 r.1=true
 | [],_,_,_,_,_,r,hr=>by cases hr
 | q::rs,w,m,h,he,hp,r,hr=>by
  rw[lfF];have h0:=h q (List.mem_cons_self ..);rw[List.pairwise_cons] at hp;rcases List.mem_cons.1 hr with e | hr
  ·subst e;obtain ⟨h1,h2⟩:=qyc (l:=l) (lab:=lab) (i:=r.1) rs (w.set r.1 (lfW l lab r.1 r.2)) (m.set r.1 true) (fun x hx=>by rw[List.length_set];exact h x (List.mem_cons_of_mem _ hx)) (by rw[List.length_set,List.length_set];exact he) (fun x hx=>by have:=hp.1 x hx;omega);rw[h1,h2,q3m h0,q3n (by omega),if_pos rfl,if_pos rfl];exact ⟨rfl,rfl⟩
  ·exact qyb rs (w.set q.1 (lfW l lab q.1 q.2)) (m.set q.1 true) (fun x hx=>by rw[List.length_set];exact h x (List.mem_cons_of_mem _ hx)) (by rw[List.length_set,List.length_set];exact he) hp.2 r hr
theorem qiq {n:Nat}:∀ (l:List Int) (i:Nat) (r:Nat × InT),r∈lnkF n i l↔∃ j,∃ h:j<l.length,r=(i+j,decT l[j] (4*((i+j:Nat):Int)))/\isLk n l[j] (i+j)=true
 | [],i,r=>⟨fun h=>(by cases h),fun ⟨j,h,_⟩=>(by simp at h)⟩
 | w::l,i,r=>by
  have ih:=qiq (n:=n) l (i+1) r;have tail:(r∈lnkF n (i+1) l)↔∃ j,∃ h:j+1<(w::l).length,r=(i+(j+1),decT (w::l)[j+1] (4*((i+(j+1):Nat):Int)))/\isLk n (w::l)[j+1] (i+(j+1))=true:=by
   rw[ih];constructor
   ·rintro ⟨j,h,e1,e2⟩;exact ⟨j,by simpa using h,by rw[show i+(j+1)=i+1+j by omega];exact e1,by rw[show i+(j+1)=i+1+j by omega];exact e2⟩
   ·rintro ⟨j,h,e1,e2⟩;exact ⟨j,by simpa using h,by rw[show i+1+j=i+(j+1) by omega];exact e1,by rw[show i+1+j=i+(j+1) by omega];exact e2⟩
  rw[lnkF];split
  ·rename_i hl;rw[List.mem_cons,tail];constructor
   ·rintro (e | ⟨j,h,e1,e2⟩)
    ·exact ⟨0,by simp,e,hl⟩
    ·exact ⟨j+1,h,e1,e2⟩
   ·rintro ⟨j,h,e1,e2⟩
    cases j with
    | zero=>exact .inl e1
    | succ j=>exact .inr ⟨j,h,e1,e2⟩
  ·rename_i hl;rw[tail];constructor
   ·rintro ⟨j,h,e1,e2⟩;exact ⟨j+1,h,e1,e2⟩
   ·rintro ⟨j,h,e1,e2⟩
    cases j with
    | zero=>exact absurd e2 hl
    | succ j=>exact ⟨j,h,e1,e2⟩
theorem qlt {n:Nat}:∀ (l:List Int) (i:Nat),(lnkF n i l).Pairwise (fun a b=>a.1<b.1)
 | [],i=>by rw[lnkF];exact List.Pairwise.nil
 | w::l,i=>by
  rw[lnkF];split
  ·rw[List.pairwise_cons];refine ⟨fun x hx=>?_,qlt l (i+1)⟩;obtain ⟨j,h,e,_⟩:=(qiq l (i+1) x).1 hx;rw[e]
   show i<i+1+j
   omega
  ·exact qlt l (i+1)
theorem q6p {l:List Int} {i:Nat} (h:i<l.length):(∃ r∈lnk l,r.1=i)↔isLk l.length l[i] i=true:=by
 constructor
 ·rintro ⟨r,hr,e⟩;obtain ⟨j,hj,e1,e2⟩:=(qiq l 0 r).1 hr;rw[e1] at e;have e:0+j=i:=e;have hji:j=i:=by omega
  subst hji;rw[Nat.zero_add] at e2;exact e2
 ·intro hl;exact ⟨(i,decT l[i] (4*(i:Int))),(qiq l 0 _).2 ⟨i,h,by rw[Nat.zero_add],by rw[Nat.zero_add];exact hl⟩,rfl⟩
theorem q3j (l:List Int):(lfV l).1.length=l.length/\(lfV l).2.length=l.length/\∀ i (h:i<l.length),gtM (lfV l).2 i=isLk l.length l[i] i /\
  (isLk l.length l[i] i=false->gtW (lfV l).1 i=l[i])/\(isLk l.length l[i] i=true->gtW (lfV l).1 i=lfW l (qdc l) i (decT l[i] (4*(i:Int)))/\∃ p,p<(qdc l).length/\gtI (qdc l) p=(decT l[i] (4*(i:Int))).2.2.2.2/\iofV (qdc l) (decT l[i] (4*(i:Int))).2.2.2.2=p):=by
 obtain ⟨g1,g2,g3,g4⟩:=qru l;obtain ⟨f1,f2⟩:=q3k l (qdc l) (lnk l) l (List.replicate l.length false);rw[List.length_replicate] at f2;refine ⟨f1,f2,fun i h=>?_⟩
 cases hk:isLk l.length l[i] i with
 | false=>
  have hn:∀ r∈lnk l,r.1≠i:=fun r hr e=>by
   have:=(q6p h).1 ⟨r,hr,e⟩;rw[hk] at this;cases this
  obtain ⟨a1,a2⟩:=qyc (l:=l) (lab:=qdc l) (i:=i) (lnk l) l (List.replicate l.length false) (qx7 l) (by rw[List.length_replicate]) hn;refine ⟨?_,fun _=>?_,fun q=>by cases q⟩
  ·show gtM (lfF _ _ _ _ _).2 i=false
   rw[a2,qpx (by rw[List.length_replicate];exact h),List.getElem_replicate]
  ·show gtW (lfF _ _ _ _ _).1 i=l[i]
   rw[a1,qha h]
 | true=>
  have hr:(i,decT l[i] (4*(i:Int)))∈lnk l:=(qiq l 0 _).2 ⟨i,h,by rw[Nat.zero_add],by rw[Nat.zero_add];exact hk⟩;obtain ⟨a1,a2⟩:=qyb (l:=l) (lab:=qdc l) (lnk l) l (List.replicate l.length false) (qx7 l) (by rw[List.length_replicate]) (qlt l 0) _ hr;refine ⟨a2,(fun q=>by cases q),fun _=>⟨a1,?_⟩⟩;have hm:(decT l[i] (4*(i:Int))).2.2.2.2∈tgO (lnk l):=List.mem_map.2 ⟨_,hr,rfl⟩;obtain ⟨p,hp,e⟩:=(g4 _).2 hm;exact ⟨p,hp,e,by rw[<- e];exact q9x g2 hp⟩
theorem q7s {a b c d:Int} (ha:u8R a) (hb:u8R b) (hc:u8R c) (hd:u8R d):0<=wd a b c d/\wd a b c d<4294967296:=by
 unfold u8R at ha hb hc hd;unfold wd;omega
theorem qmq:∀ (k:Nat) (b:List Int),u8L b->∀ w∈qch k b,0<=w/\w<4294967296
 | 0,_,_,w,hw=>by cases hw
 | k+1,b,h,w,hw=>by
  rw[qch] at hw;rcases List.mem_cons.1 hw with e | e
  ·rw[e];exact q7s (h 0) (h 1) (h 2) (h 3)
  ·exact qmq k _ (h.drop 4) w e
theorem qob (n:Nat):∀ (l:List Int) (i:Nat),(lnkF n i l).length<=l.length
 | [],_=>Nat.le_refl _
 | w::l,i=>by
  have:=qob n l (i+1);rw[lnkF];split
  ·rw[List.length_cons,List.length_cons];omega
  ·rw[List.length_cons];omega
theorem qy6 {b:List Int} {n:Nat} (hb:b.length=4*n) (h8:∀ x∈b,0<=x/\x<256) (hn:n<=49) :
  (qah b).2=0/\(qah b).1.length=n/\(∀ w∈(qah b).1,0<=w/\w<4294967296)/\qdn b:=by
 have e:qah b=(qch (b.length / 4) b,0):=if_pos (by omega);have hl:(qah b).1.length=n:=by rw[e];show (qch _ _).length=n;rw[qmr];omega
 have hr:∀ w∈(qah b).1,0<=w/\w<4294967296:=by rw[e];exact qmq _ _ (qsq h8)
 have hk:(lnk (qah b).1).length<=49:=Nat.le_trans (qob _ _ _) (by omega);exact ⟨by rw[e],hl,hr,qgp h8 (by omega) hr (by omega) hk⟩
theorem q04 {b:List Int} (h:b.length<=65536) (h0:(qah b).2=0):qag b=⟨(lfV (qah b).1).1,(lfV (qah b).1).2,(tgV (qah b).1).2.1,(tgV (qah b).1).2.2,0⟩:=if_neg (by rintro (q | q);omega;exact q h0)
theorem q9w (n i:Nat):isLk n 0 i=false:=by
 unfold isLk;have:dbV (opV 0)=0:=by decide
 rw[this];rfl
theorem qx8 (n:Nat):∀ (l:List Int) (i:Nat),(lnkF n i l).length<=l.countP (fun w=>decide (w≠0))
 | [],_=>Nat.le_refl _
 | w::l,i=>by
  have:=qx8 n l (i+1);rw[lnkF,List.countP_cons];split
  ·rename_i h;have hw:w≠0:=fun q=>by rw[q,q9w] at h;cases h
   rw[decide_eq_true hw,List.length_cons]
   show _+1<=_+1
   omega
  ·omega
end Go.Proofs.YthejkhpeokeccaaDoor
namespace Go.Proofs.YthejkhpeokeccaaDoor.InM
open Go.Ax
structure Wd (w b0 b1 b2 b3:Int):Prop where
 e:w=16777216*b0+65536*b1+256*b2+b3
 h0:0<=b0/\b0<=255
 h1:0<=b1/\b1<=255
 h2:0<=b2/\b2<=255
 h3:0<=b3/\b3<=255
theorem wd (w:Int) (h0:0<=w) (h1:w<4294967296):Wd w (w / 16777216 % 256) (w / 65536 % 256) (w / 256 % 256) (w % 256):=⟨by omega,by omega,by omega,by omega,by omega⟩
structure I5 where
 o:Int
 a:Int
 b:Int
 c:Int
 n:Int
def form (x:I5) (at_:Int):Int:=
 if x.o=0 then x.n
 else if x.o=1\/x.o=3\/x.o=4 then x.o*16777216+(x.a*65536+(x.b*256+x.c))
 else if x.o=2 then x.n+(2*16777216+x.a*65536)
 else if x.o=5\/x.o=6 then (x.n-at_) / 4 % 16777216+x.o*16777216
 else (x.n-at_) / 4 % 65536+(x.o*16777216+x.a*65536)
open Go.Px Go.Ax
theorem key (w t:Int):∀ o,opV w=o->decN w t=[o,rg w (regs o) 0,rg w (regs o) 1,rg w (regs o) 2,numN w t (kd o).2.2.1 (kd o).2.2.2.1 (kd o).2.2.2.2]:=by
 rintro _ rfl;rfl
end Go.Proofs.YthejkhpeokeccaaDoor.InM
namespace Go.Proofs.YthejkhpeokeccaaDoor
open Go.Px Go.Ax
set_option maxRecDepth 100000
theorem q1l (x:LiT):(qdr x).length=4+2*x.2.2.length+(x.2.1.length+7) / 8+4*x.1.length:=by
 unfold qdr;rw[List.length_append,List.length_append,List.length_append,List.length_append,qtr,qlf,qjs]
 show 2+2+_+_+_=_
 omega
theorem qoc {b:List Int} (h:b.length<=65536) (h0:(qah b).2=0):(qag b).e=0/\(qag b).w=(lfV (qah b).1).1/\(qag b).m=(lfV (qah b).1).2/\winL iI 0 (qag b).k (qag b).t=qdc (qah b).1/\(qag b).k=(qdc (qah b).1).length/\(qag b).k<=(qag b).t.length:=by
 have el:=q04 h h0;have g1:=(qru (qah b).1).1;have s1:=(qqy (tgO (lnk (qah b).1))).1;rw[<- qfo] at s1;have h1:=(qy3 s1).1;have h2:=(qy3 s1).2.1;refine ⟨by rw[el],by rw[el],by rw[el],by rw[el];rfl,by rw[el,g1],?_⟩;rw[el]
 show (tgV (qah b).1).2.1<=(tgV (qah b).1).2.2.length
 unfold tgV;omega
theorem qtq {b:List Int} (h:65536<b.length\/(qah b).2≠0):(qag b).e=30:=by
 unfold qag;rw[if_pos h]
theorem zaa {b:List Int} (h8:∀ x∈b,0<=x/\x<256) (hb:b.length<=196):qdn b/\((qag b).e=0\/(qag b).e=30)/\((qag b).e=0↔b.length % 4=0):=by
 by_cases c:b.length % 4=0
 ·obtain ⟨c1,c2,c3,c4⟩:=qy6 (n:=b.length / 4) (b:=b) (by omega) h8 (by omega);have x:=(qoc (b:=b) (by omega) c1).1;exact ⟨c4,.inl x,fun _=>c,fun _=>x⟩
 ·have e:qah b=([],61):=if_neg (by omega);have x:=qtq (b:=b) (.inr (by rw[e];decide));refine ⟨fun _=>⟨⟨qsq h8,by omega⟩,fun q=>absurd (show (61:Int)=0 by rw[e] at q;exact q) (by decide)⟩,.inr x,fun q=>absurd (show (30:Int)=0 by rw[x] at q;exact q) (by decide),fun q=>absurd q c⟩
theorem qmo:∀ k:Nat,qch k (List.replicate (4*k) 0)=List.replicate k 0
 | 0=>rfl
 | k+1=>by
  have e:List.replicate (4*(k+1)) (0:Int)=0::0::0::0::List.replicate (4*k) 0:=rfl;rw[e,qch]
  show wd 0 0 0 0::qch k (List.replicate (4*k) 0)=_
  rw[qmo k];rfl
theorem qvv {b:List Int} (hb:b=List.replicate 65536 0):qdn b/\(qag b).e=0/\(qag b).w.length=16384:=by
 have hl:b.length=65536:=by rw[hb,List.length_replicate]
 have hz:∀ x∈b,x=0:=fun x hx=>by rw[hb] at hx;exact (List.mem_replicate.1 hx).2
 have h8:∀ x∈b,0<=x/\x<256:=fun x hx=>by rw[hz x hx];decide
 have e:qah b=(List.replicate 16384 0,0):=by
  unfold qah;rw[if_pos (by omega),hl,hb];exact congrArg (fun x=>(x,(0:Int))) (qmo 16384)
 have hk:(lnk (qah b).1).length<=49:=by
  have h:=qx8 (qah b).1.length (qah b).1 0;have c0:(qah b).1.countP (fun w=>decide (w≠0))=0:=by
   rw[e,List.countP_eq_zero];intro x hx;rw[(List.mem_replicate.1 hx).2];decide
  show (lnkF _ _ _).length<=49
  omega
 have h0:(qah b).2=0:=by rw[e]
 have h1:(qah b).1.length=16384:=by rw[e];exact List.length_replicate
 obtain ⟨x1,x2,_⟩:=qoc (b:=b) (by omega) h0;obtain ⟨f1,f2,f3⟩:=q3j (qah b).1;exact ⟨qgp h8 (by omega) (fun w hw=>by rw[e] at hw;rw[(List.mem_replicate.1 hw).2];decide) (by omega) hk,x1,by rw[x2];omega⟩
theorem qul {b:List Int} (hb:b=List.replicate 65536 0):qih b 0 1/\qb2 b 0 1=([],30):=by
 obtain ⟨p,e,w⟩:=qvv hb;have no:¬ okM b 0 1:=fun ⟨_,_,_,_,q⟩=>by omega
 exact ⟨⟨p,fun q=>absurd q no⟩,if_neg no⟩
open Go.IntKind(i64 u32 u8)
attribute [local irreducible] Go.Px.sy Go.Px.syE
def ctT9:Ctr:=⟨[.sl u4,.int .u8,.bool],fun x=>0<=x.2.1/\x.2.1<256,fun _=>[.bool true],fun _=>[]⟩
theorem qvw (k:Nat) (v:Int):winL uB 0 k (List.replicate k v)=List.replicate k v:=by
 have:=winA (e:=uB) (List.replicate k v);rwa[List.length_replicate] at this
theorem q6m (l:List Int) (n:Int) (g:Bool) (hn:0<=n/\n<256) (R:List Item->PS->Prop):sy tt G0 CSz Tryd.f7.ntmps Tryd.f7.results.toList (QC ctT9 (l,n,g,())) R 1000 [.code (qaf Tryd.f7)] (entry [.sl u4,.int .u8,.bool] (l,n,g,())):=by
 refine (q73 l n g _ _).mpr ?_;have hl:(zW l).length<=20:=by unfold zW;rw[List.length_take];omega
 have hb:=qon (zW l);have h8:=q3x (zW l);have eB:zB l=bytL (zW l):=winA (e:=uB) (bytL (zW l));have hby:ctByt.pre (zW l,()):=by show (zW l).length<1000000;omega
 -- the cut
 obtain ⟨c,hN,hc⟩:∃ c:Nat,zN l n=c/\c<=(bytL (zW l)).length:=by
  have w1:i64.wrap n=n:=IntWalk.i64_in _ (by omega);have w2:i64.wrap (((bytL (zW l)).length:Int)+1)=((bytL (zW l)).length:Int)+1:=IntWalk.i64_in _ (by omega)
  show ∃ c:Nat,i64.wrap (((bytL (zW l)).length:Int)-(i64.wrap n).tmod (i64.wrap (((bytL (zW l)).length:Int)+1)))=c/\_
  rw[w1,w2,Int.tmod_eq_emod_of_nonneg hn.1];have m1:=Int.emod_nonneg n (show ((bytL (zW l)).length:Int)+1≠0 by omega);have m2:=Int.emod_lt_of_pos n (show 0<((bytL (zW l)).length:Int)+1 by omega);generalize n % (((bytL (zW l)).length:Int)+1)=m at *;rw[IntWalk.i64_in _ (by omega)];exact ⟨(((bytL (zW l)).length:Int)-m).toNat,by omega,by omega⟩
 have ec:(((zN l n).toNat-0:Nat):Int)=c:=by rw[hN];omega
 have ec2:(zN l n).toNat-0=c:=by omega
 have eC:zC l n=(bytL (zW l)).take c:=by
  show ((bytL (zW l)).drop (0+0)).take ((zN l n).toNat-0)=_
  rw[ec2];rfl
 have lC:(zC l n).length=c:=by rw[eC,List.length_take];omega
 have C8:∀ x∈zC l n,0<=x/\x<256:=fun x hx=>by rw[eC] at hx;exact h8 x (List.mem_of_mem_take hx)
 obtain ⟨k1,k2,k3⟩:=zaa C8 (by omega);rw[lC] at k3;rw[<- eB] at hb h8;obtain ⟨c1,c2,c3,c4⟩:=qy6 hb h8 (by omega);obtain ⟨x1,x2,x3,x4,x5,x6⟩:=qoc (b:=zB l) (by omega) c1;obtain ⟨f1,f2,f3⟩:=q3j (qah (zB l)).1;obtain ⟨g1,g2,g3,g4⟩:=qru (qah (zB l)).1;have hk:(lnk (qah (zB l)).1).length<=(qah (zB l)).1.length:=qob _ _ _;have eX:qag (zB l)=zX l:=by unfold zX;rw[qkt]
 have eY:qag (zC l n)=zY l n:=by unfold zY;rw[qkt]
 have eP:zP=List.replicate 65540 0:=qvw 65540 0;have eQ:zQ=List.replicate 65536 0:=qvw 65536 0;have lP:zP.length=65540:=by rw[eP,List.length_replicate]
 have u1:zU.e=30:=by unfold zU;rw[qkt];exact qtq (.inl (by omega))
 have u2:qdn zP:=fun h=>by omega
 obtain ⟨q1,q2⟩:=qul eQ;have v1:zV.2=30:=by unfold zV;rw[qtl,q2]
 rw[eX] at x1 x2 x3 x4 x5 x6;rw[eY] at k2 k3;have lw:(zX l).w.length=(zW l).length:=by rw[x2];omega
 have lm:(zX l).m.length=(zW l).length:=by rw[x3];omega
 have lk1:(zX l).k<=(zW l).length:=by omega
 have eU:winL u4 0 (zX l).w.length (zX l).w=(zX l).w:=winA (e:=u4) _;have eM:winL Sh.bool 0 (zX l).m.length (zX l).m=(zX l).m:=winA (e:=Sh.bool) _;have z1:(zL l).1.length=(zW l).length:=by unfold zL;rw[eU];exact lw
 have z2:(zL l).2.1.length=(zW l).length:=by unfold zL;rw[eM];exact lm
 have z3:(zL l).2.2.length=(zX l).k:=by unfold zL;show (winL iI 0 (zX l).k (zX l).t).length=_;rw[x4];exact x5.symm
 have pf:qxf (zL l):=⟨by omega,by omega,by omega⟩;have lf:=q1l (zL l);rw[z1,z2,z3] at lf;rw[eB] at hb;have b4:((bytL (zW l)).length:Int).tdiv 4=((zW l).length:Int):=by rw[Int.tdiv_eq_ediv_of_nonneg (by omega)];omega
 have t7:((zW l).length+7:Int).tdiv 8=(((zW l).length+7) / 8:Nat):=by rw[Int.tdiv_eq_ediv_of_nonneg (by omega)];omega
 have d1:decide ((zX l).e≠0)=false:=decide_eq_false (fun q=>q x1);have d2:decide (((zX l).w.length:Int)≠i64.wrap (((bytL (zW l)).length:Int).tdiv 4))=false:=decide_eq_false (fun q=>q (by rw[b4,IntWalk.i64_in _ (by omega)];omega));have d3:decide (((zX l).w.length:Int)<((zX l).k:Int))=false:=decide_eq_false (by omega)
 have d4:decide (((qdr (zL l)).length:Int)≠i64.wrap (i64.wrap (i64.wrap (4+i64.wrap (2*((zX l).k:Int)))+i64.wrap (4*((zX l).w.length:Int)))+i64.wrap ((i64.wrap (((zX l).w.length:Int)+7)).tdiv 8)))=false:=decide_eq_false (fun q=>q (by
  rw[lf,lw,IntWalk.i64_in (2*((zX l).k:Int)) (by omega),IntWalk.i64_in (4+2*((zX l).k:Int)) (by omega),IntWalk.i64_in (4*((zW l).length:Int)) (by omega),IntWalk.i64_in (((zW l).length:Int)+7) (by omega),t7,IntWalk.i64_in ((((zW l).length+7) / 8:Nat):Int) (by omega),IntWalk.i64_in (4+2*((zX l).k:Int)+4*((zW l).length:Int)) (by omega),IntWalk.i64_in _ (by omega)]
  omega))
 have w1:i64.wrap (((bytL (zW l)).length:Int)+1)≠0:=by rw[IntWalk.i64_in _ (by omega)];omega
 have m4:((c:Nat):Int).tmod 4=((c % 4:Nat):Int):=by rw[Int.tmod_eq_emod_of_nonneg (by omega)];omega
 have d5:(!decide ((zY l n).e=0) == decide ((((zN l n).toNat-0:Nat):Int).tmod 4=0))=false:=by
  rw[ec,m4];by_cases h:c % 4=0
  ·rw[decide_eq_true (k3.2 h),decide_eq_true (by omega)];rfl
  ·rw[decide_eq_false (fun q=>h (k3.1 q)),decide_eq_false (by omega)];rfl
 have d6:decide ((zY l n).e≠0)=true->decide ((zY l n).e≠30)=false:=fun h=>decide_eq_false (fun q=>by
  have h:=of_decide_eq_true h;rcases k2 with e | e
  ·exact h e
  ·exact q e)
 have n0:0<=zN l n:=by rw[hN];omega
 have n1:zN l n<=((bytL (zW l)).length:Int):=by rw[hN];omega
 have n2:0+0+((zN l n).toNat-0)<=(bytL (zW l)).length:=by rw[ec2];omega
 clear eP eQ lP eX eY eU eM eC lC C8 hN ec ec2 f1 f2 f3 g1 g2 g3 g4 hk c1 c2 c3 x2 x3 x4 x5 h8 eB hb hl z1 z2 z3 lf b4 t7 lm lw m4 q2 k3;generalize zN l n=N at *;generalize zY l n=Y at *;generalize zC l n=Cc at *;generalize zX l=X at *;generalize zL l=Lz at *;generalize zB l=Bz at *;generalize bytL (zW l)=Bw at *;generalize zP=P at *;generalize zQ=Z at *;generalize zU=U at *;generalize zV=V at *;simp only[d1,d2,d3,d4,d5,bc_f,cond_false,cond_true,u1,v1,bc_t,decide_true,List.length_replicate];have fin:∀ blk,QC ctT9 (l,n,g,()) [SV.bool true] blk:=fun _=>QC.flat rfl rfl rfl
 repeat' first
  | exact fin _
  | exact hby
  | exact c4
  | exact k1
  | exact u2
  | exact q1
  | exact pf
  | exact w1
  | exact n0
  | exact n1
  | exact n2
  | refine And.intro ?_ ?_
  | omega
  | exact trivial
  | decide
  | (rw[d6 (by assumption)];rw[bc_f])
  | refine qap (fun _=>?_) (fun _=>?_)
  | rfl
theorem q0y:Held Tryd.prog G0 7 ctT9:=Held.run cxSz (fn:=Tryd.f7) rfl rfl ⟨by decide,by decide⟩ fun ⟨l,n,g,_⟩ hp=>q6m l n g hp _
theorem qvt {g:Nat} {x:ABlk} (h:rawG.get g=some x):g=0/\x=.cells qiv 114 2:=by
 unfold rawG T.get at h;split at h
 ·rename_i e;cases h;exact ⟨e,rfl⟩
 ·split at h <;> (simp[T.get] at h)
theorem hG:Glob G0.raw:=⟨fun g x h=>by rw[(qvt h).1];decide,fun g x h=>by rw[(qvt h).2];decide⟩
abbrev H0:AHeap:=⟨qjj,G0.raw⟩
def Z0:Nat->Option ABlk:=fun g=>rawG.get g
theorem gz0:GZ Z0 G0:=by
 refine ⟨fun g x e=>?_,fun g x e=>e⟩;simp only[G0,lk] at e;split at e
 ·rename_i h;subst h;cases e;refine ⟨by decide,fun ν=>⟨0,0,qiv,114,2,rfl,rfl,by decide,?_⟩⟩;exact qz8 (.arr 9 kindSh) kindsL ⟨rfl,fun x _=>⟨trivial,trivial,trivial,trivial,trivial⟩⟩
 ·cases e
theorem fro0:Px.Fro G0 H0:=⟨fun i x h=>by rw[(qvt h).2];rfl,fun i x h=>by rw[(qvt h).2];trivial,fun i x h=>by rw[(qvt h).1];decide,gz0⟩
theorem q8i {n:Int} (h:wfD uB n):0<=n/\n<256:=by
 have h:(Lit.int IntKind.u8 n).wf=true:=h;simp[Lit.wf,IntKind.min,IntKind.max,IntKind.signed,IntKind.bits] at h;omega
end Go.Proofs.YthejkhpeokeccaaDoor
