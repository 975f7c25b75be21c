/-
  A part of the proof: what pieces of the program give; conditions: those of each theorem.
-/
import Derived.Test.YtnmkfdgnenkhpaaDoorQ3
import Derived.Test.YtnmkfdgnenkhpaaDoorQ1
import Derived.Test.YtnmkfdgnenkhpaaDoorHD
import Derived.KernelRfl
set_option linter.unusedVariables false
set_option linter.unusedSimpArgs false
namespace Go.Proofs.YtnmkfdgnenkhpaaDoor
open Go.Px Go.Ax
set_option maxRecDepth 100000
attribute [local irreducible] Go.Px.sy Go.Px.syE
def syEr:List PaT->Int
 | []=>0
 | p::r=>match decide ((symV p).2≠0) with
  | true=>(symV p).2
  | false=>syEr r
def sySy (p:PaT):List SyT:=(symV p).1
def qah (l:List PaT):List (List SyT) × Int:=match decide (syEr l≠0) with
 | true=>([],syEr l)
 | false=>match l.any (othB l) with
  | true=>([],62)
  | false=>match l.any (uneB l) with
   | true=>([],61)
   | false=>(l.map sySy,0)
def q8x (l:List PaT):Prop:=0<l.length/\l.length<1000000
def ctSyo:Ctr:=⟨[slP],fun x=>q8x x.1,fun x=>[.win true slY 0 0 (qah x.1).1.length,.int .i64 (qah x.1).2],fun x=>[.row 47 slY (qah x.1).1]⟩
theorem qmh {l:List PaT} {v:Int} {blk:List (Nat × LB)} (h:qah l=([],v)):QC ctSyo (l,()) [.nils,.int .i64 v] blk:=by
 refine QC.nil1 (e:=slY) (et:=47) ?_ ?_ (by decide)
 ·show [SV.win true slY 0 0 (qah l).1.length,SV.int .i64 (qah l).2]=_;rw[h];rfl
 ·show [LB.row 47 slY (qah l).1]=_;rw[h]
theorem qpb {l:List PaT} (h:syEr l≠0):qah l=([],syEr l):=by unfold qah;rw[decide_eq_true h]
theorem quq {l:List PaT} (h:syEr l=0) (h2:l.any (othB l)=true):qah l=([],62):=by unfold qah;rw[decide_eq_false (by simp[h]),h2]
theorem qup {l:List PaT} (h:syEr l=0) (h2:l.any (othB l)=false) (h3:l.any (uneB l)=true):qah l=([],61):=by unfold qah;rw[decide_eq_false (by simp[h]),h2,h3]
theorem qpa {l:List PaT} (h:syEr l=0) (h2:l.any (othB l)=false) (h3:l.any (uneB l)=false):qah l=(l.map sySy,0):=by unfold qah;rw[decide_eq_false (by simp[h]),h2,h3]
theorem q6i {l:List PaT} {i:Nat} (h:i<l.length):l.drop i=gtP l i::l.drop (i+1):=by rw[qa3 h,<- qog h]
theorem q8f {l:List PaT} {i:Nat} (h:i<l.length):(l.take (i+1)).map sySy=(l.take i).map sySy++[sySy (gtP l i)]:=by
 rw[List.take_add_one,List.getElem?_eq_getElem h,<- qog h,List.map_append];rfl
theorem q1s {l:List PaT} {i:Nat} (h:i<l.length):((symV (gtP l i)).2≠0->syEr (l.drop i)=(symV (gtP l i)).2)/\((symV (gtP l i)).2=0->syEr (l.drop i)=syEr (l.drop (i+1))):=by
 rw[q6i h,syEr];constructor
 ·intro hq;rw[decide_eq_true hq]
 ·intro hq;rw[decide_eq_false (by simp[hq])]
section
variable (l:List PaT) (hl0:0<l.length) (hl1:l.length<1000000)
abbrev syS' (i:Nat) (w:SV) (bs:List (Nat × LB)):PS:=⟨[(1,.ptr 1 0),(4,w),(11,.sl paS l),(12,.int .i64 (l.length:Nat)),(13,.int .i64 (i:Nat))],(1,.var [.sl paS l])::bs⟩
include hl0 hl1
theorem qum:∀ (k i:Nat) (a:List (List SyT)),l.length-i=k->i<=l.length->a=(l.take i).map sySy->syEr (l.drop i)=syEr l->GD 30 Tryd.f30 (QC ctSyo (l,())) (hd Tryd.f30 0) (syS' l i (.win true slY 28 0 a.length) [(28,.row 47 slY a)]):=by
 intro k
 induction k with
 | zero=>
  intro i a hk hi ha he;have hi:i=l.length:=by omega
  subst hi;rw[List.drop_length] at he;have he:syEr l=0:=he.symm;rw[List.take_length] at ha;refine qak cx10 (qt0 l a l.length _ _) ?_;rw[decide_eq_false (by omega),bc_f];refine ⟨⟨hl0,hl1⟩,qaf (fun h=>qmh (quq he h)) (fun h=>⟨⟨hl0,hl1⟩,qaf (fun h2=>qmh (qup he h h2)) (fun h2=>?_)⟩)⟩;have hv:=qpa he h h2;rw[<- ha] at hv;refine QC.row1 (e:=slY) (xs:=a) (et:=47) (n:=0) ?_ ?_ rfl rfl rfl
  ·show [SV.win true slY 0 0 (qah l).1.length,SV.int .i64 (qah l).2]=_;rw[hv]
  ·show [LB.row 47 slY (qah l).1]=_;rw[hv]
 | succ k ih=>
  intro i a hk hi ha he;have hil:i<l.length:=by omega
  obtain ⟨d1,d2⟩:=q1s hil;have hal:a.length=i:=by rw[ha,List.length_map,List.length_take];omega
  refine qak cx10 (qt0 l a i _ _) ?_;rw[decide_eq_true (show (i:Int)<(l.length:Int) by omega),bc_t];simp only[Int.toNat_natCast];refine ⟨by omega,by omega,trivial,qaf (fun h=>?_) (fun h=>?_)⟩
  ·have h:(symV (gtP l i)).2≠0:=of_decide_eq_true h;refine qmh ?_;rw[qpb (by rw[<- he,d1 h];exact h),<- he,d1 h]
  ·have h:(symV (gtP l i)).2=0:=by have:=of_decide_eq_false h;simpa using this
   have nx:=ih (i+1) (a++[sySy (gtP l i)]) (by omega) (by omega) (by rw[q8f hil,<- ha]) ((d2 h).symm.trans he);have e:winL syS 0 (symV (gtP l i)).1.length (symV (gtP l i)).1=sySy (gtP l i):=winA (e:=syS) _;rw[wr2 i (by omega)];refine ⟨by omega,by omega,by omega,by omega,by omega,Nat.le_refl 1,trivial,trivial,(show a.length+1<2 ^ 30 by omega),by decide,?_⟩;refine nx.only ⟨rfl,by rw[List.length_append];rfl,rfl,rfl,rfl,trivial⟩ ⟨rfl,?_,trivial⟩;rw[<- e];rfl
theorem qsj:GD 30 Tryd.f30 (QC ctSyo (l,())) (hd Tryd.f30 0) (syS' l 0 .nils []):=by
 obtain ⟨d1,d2⟩:=q1s hl0;refine qak cx10 (q22 l 0 _ _) ?_;rw[decide_eq_true (show ((0:Nat):Int)<(l.length:Int) by omega),bc_t];simp only[Int.toNat_natCast];refine ⟨by omega,by omega,trivial,qaf (fun h=>?_) (fun h=>?_)⟩
 ·have h:(symV (gtP l 0)).2≠0:=of_decide_eq_true h;refine qmh ?_;have he:syEr l=(symV (gtP l 0)).2:=d1 h;rw[qpb (by rw[he];exact h),he]
 ·have h:(symV (gtP l 0)).2=0:=by have:=of_decide_eq_false h;simpa using this
  have nx:=qum l hl0 hl1 _ 1 [sySy (gtP l 0)] rfl (by omega) (by rw[q8f hl0];rfl) (d2 h).symm;have e:winL syS 0 (symV (gtP l 0)).1.length (symV (gtP l 0)).1=sySy (gtP l 0):=winA (e:=syS) _;rw[wr2 0 (by omega)];refine ⟨by omega,by omega,by omega,by omega,by omega,Nat.le_refl 1,(show 1<2 ^ 30 by decide),by decide,?_⟩;refine nx.only ⟨rfl,rfl,rfl,rfl,rfl,trivial⟩ ⟨rfl,?_,trivial⟩;rw[<- e];rfl
end
theorem qx9:Held Tryd.prog G0 30 ctSyo:=Held.of cx10 (fn:=Tryd.f30) rfl rfl ⟨by decide,by decide⟩ fun ⟨l,⟨⟩⟩ hp=>
 qak cx10 (q69 l _ _) ((qsj l hp.1 hp.2).only ⟨rfl,rfl,rfl,rfl,rfl,trivial⟩ ⟨rfl,trivial⟩)
def ctCln:Ctr:=⟨[slY],fun x=>x.1.length<1000000,fun x=>[.win true syS 0 0 (List.length x.1)],fun x=>[.row 51 syS x.1]⟩
abbrev gtSs (l:List (List SyT)) (i:Nat):List SyT:=gt slY l i
def ctRdf:Ctr:=⟨[slY],fun x=>evY x.1,fun x=>[.sl .bool (rdbV x.1)],fun _=>[]⟩
def C11:CV:=(45,.inl ctRdf)::(30,.inl ctSyo)::(60,.inl ctDis)::(32,.inl ctCln)::(35,.inl ctCp)::(9,.inl ctFo)::C8
abbrev KM:List AK:=[.ptr [.row 51 syS]]
set_option maxRecDepth 100000
theorem q75 (l:List SyT) (Q:QT) (R:RT):sy tt G0 [] Tryd.f32.ntmps Tryd.f32.results.toList Q R 1000 [.code (qae Tryd.f32)] (entry [slY] (l,())) =
  (∀ (r:Bool),(r=true->l=[])->bc r (Q [.nils] []) ((0:Nat)=(List.replicate (0:Nat) syS.dflt).length /\
 (0:Nat)=(0:Nat) /\
 0+l.length<2 ^ 30 /\
 (24:Nat)<=2 ^ 10 /\
 Q [.win true syS 7 0 (0+l.length)] [(7,.row 51 syS (List.replicate (0:Nat) syS.dflt++l))])):=by kernel_rfl
theorem q3p (li:Bool) (m o:Int) (l:List OpT) (Q:QT) (R:RT):sy tt G0 C11 Tryd.f21.ntmps Tryd.f21.results.toList Q R 1000 [.code (qae Tryd.f21)] (entry [paS] ((li,m,o,l),())) =
  (0+1<=([(li,m,o,l)]:List paS.D).length /\
 ctSyo.pre (([(li,m,o,l)]:List paS.D),()) /\
 bc (decide ((qah (([(li,m,o,l)]:List paS.D))).2≠0)) (Q [.nils,.int .i64 (qah (([(li,m,o,l)]:List paS.D))).2] [(1,.var [.bool li,.int .i64 m,.int .i64 o,.sl opS l]),(1036864,.row 47 syS.sl (qah (([(li,m,o,l)]:List paS.D))).1)]) ((0:Int)<=0 /\
 (0:Int)<(↑(qah (([(li,m,o,l)]:List paS.D))).1.length:Int) /\
 0+0<(qah (([(li,m,o,l)]:List paS.D))).1.length /\
 ctWhT.pre (gtSs (qah (([(li,m,o,l)]:List paS.D))).1 (0+0),((),()),()) /\
 ctRgT.pre (((),(gtSs (qah (([(li,m,o,l)]:List paS.D))).1 (0+0),()),(((),()),()),()),()) /\
 Q [.win true rgS 1077824 0 (rgTV (gtSs (qah (([(li,m,o,l)]:List paS.D))).1 (0+0))).length,.int .i64 0] [(1,.var [.bool li,.int .i64 m,.int .i64 o,.sl opS l]),(1036864,.row 47 syS.sl (qah (([(li,m,o,l)]:List paS.D))).1),(1077824,.row 69 rgS (rgTV (gtSs (qah (([(li,m,o,l)]:List paS.D))).1 (0+0))))])):=by kernel_rfl
theorem q7q (li:Bool) (m o:Int) (l:List OpT) (Q:QT) (R:RT):sy tt G0 C11 Tryd.f22.ntmps Tryd.f22.results.toList Q R 1000 [.code (qae Tryd.f22)] (entry [paS] ((li,m,o,l),())) =
  (0+1<=([(li,m,o,l)]:List paS.D).length /\
 ctSyo.pre (([(li,m,o,l)]:List paS.D),()) /\
 bc (decide ((qah (([(li,m,o,l)]:List paS.D))).2≠0)) (Q [.nils,.int .i64 (qah (([(li,m,o,l)]:List paS.D))).2] [(1,.var [.bool li,.int .i64 m,.int .i64 o,.sl opS l]),(1040960,.row 47 syS.sl (qah (([(li,m,o,l)]:List paS.D))).1)]) ((0:Int)<=0 /\
 (0:Int)<(↑(qah (([(li,m,o,l)]:List paS.D))).1.length:Int) /\
 0+0<(qah (([(li,m,o,l)]:List paS.D))).1.length /\
 ctRdf.pre (gtSs (qah (([(li,m,o,l)]:List paS.D))).1 (0+0),()) /\
 ctWhR.pre (rdbV (gtSs (qah (([(li,m,o,l)]:List paS.D))).1 (0+0)),((),()),()) /\
 ctRgR.pre (((),(rdbV (gtSs (qah (([(li,m,o,l)]:List paS.D))).1 (0+0)),()),(((),()),()),()),()) /\
 Q [.win true rgS 1090112 0 (rgRV (rdbV (gtSs (qah (([(li,m,o,l)]:List paS.D))).1 (0+0)))).length,.int .i64 0] [(1,.var [.bool li,.int .i64 m,.int .i64 o,.sl opS l]),(1040960,.row 47 syS.sl (qah (([(li,m,o,l)]:List paS.D))).1),(1090112,.row 69 rgS (rgRV (rdbV (gtSs (qah (([(li,m,o,l)]:List paS.D))).1 (0+0)))))])):=by kernel_rfl
theorem q7t (li:Bool) (m o:Int) (l:List OpT) (li2:Bool) (m2 o2:Int) (l2:List OpT) (Q:QT) (R:RT):sy tt G0 C11 Tryd.f13.ntmps Tryd.f13.results.toList Q R 1000 [.code (qae Tryd.f13)] (entry [paS,paS] ((li,m,o,l),(li2,m2,o2,l2),())) =
  (0+2<=([(li,m,o,l),(li2,m2,o2,l2)]:List paS.D).length /\
 ctSyo.pre (([(li,m,o,l),(li2,m2,o2,l2)]:List paS.D),()) /\
 bc (decide ((qah (([(li,m,o,l),(li2,m2,o2,l2)]:List paS.D))).2≠0)) (Q [.nils,.int .i64 (qah (([(li,m,o,l),(li2,m2,o2,l2)]:List paS.D))).2] [(2,.var [.bool li,.int .i64 m,.int .i64 o,.sl opS l]),(3,.var [.bool li2,.int .i64 m2,.int .i64 o2,.sl opS l2]),(1049152,.row 47 syS.sl (qah (([(li,m,o,l),(li2,m2,o2,l2)]:List paS.D))).1)]) ((0:Int)<=0 /\
 (0:Int)<(↑(qah (([(li,m,o,l),(li2,m2,o2,l2)]:List paS.D))).1.length:Int) /\
 0+0<(qah (([(li,m,o,l),(li2,m2,o2,l2)]:List paS.D))).1.length /\
 (0:Int)<=1 /\
 (1:Int)<(↑(qah (([(li,m,o,l),(li2,m2,o2,l2)]:List paS.D))).1.length:Int) /\
 0+1<(qah (([(li,m,o,l),(li2,m2,o2,l2)]:List paS.D))).1.length /\
 ctCls.pre (gtSs (qah (([(li,m,o,l),(li2,m2,o2,l2)]:List paS.D))).1 (0+0),gtSs (qah (([(li,m,o,l),(li2,m2,o2,l2)]:List paS.D))).1 (0+1),()) /\
 Q [.win true rgS 1098304 0 (rgCV (gtSs (qah (([(li,m,o,l),(li2,m2,o2,l2)]:List paS.D))).1 (0+0)) (gtSs (qah (([(li,m,o,l),(li2,m2,o2,l2)]:List paS.D))).1 (0+1))).length,.int .i64 0] [(2,.var [.bool li,.int .i64 m,.int .i64 o,.sl opS l]),(3,.var [.bool li2,.int .i64 m2,.int .i64 o2,.sl opS l2]),(1049152,.row 47 syS.sl (qah (([(li,m,o,l),(li2,m2,o2,l2)]:List paS.D))).1),(1098304,.row 69 rgS (rgCV (gtSs (qah (([(li,m,o,l),(li2,m2,o2,l2)]:List paS.D))).1 (0+0)) (gtSs (qah (([(li,m,o,l),(li2,m2,o2,l2)]:List paS.D))).1 (0+1))))])):=by kernel_rfl
def qib (li:Bool) (m o:Int) (l:List OpT) (li2:Bool) (m2 o2:Int) (l2:List OpT):List (Nat × LB):=[(2,.var [.bool li,.int .i64 m,.int .i64 o,.sl opS l]),(3,.var [.bool li2,.int .i64 m2,.int .i64 o2,.sl opS l2]),(4,.var [.bool false,.int .i64 0,.int .i64 0,.nils]),(5,.var [.bool false,.int .i64 0,.int .i64 0,.nils]),(1061440,.row 47 syS.sl (qah (([(li,m,o,l),(li2,m2,o2,l2)]:List paS.D))).1)]
theorem q7s (li:Bool) (m o:Int) (l:List OpT) (li2:Bool) (m2 o2:Int) (l2:List OpT) (Q:QT) (R:RT):sy tt G0 C11 Tryd.f40.ntmps Tryd.f40.results.toList Q R 1000 [.code (qae Tryd.f40)] (entry [paS,paS] ((li,m,o,l),(li2,m2,o2,l2),())) =
  (0+2<=([(li,m,o,l),(li2,m2,o2,l2)]:List paS.D).length /\
 ctSyo.pre (([(li,m,o,l),(li2,m2,o2,l2)]:List paS.D),()) /\
 bc (decide ((qah (([(li,m,o,l),(li2,m2,o2,l2)]:List paS.D))).2≠0)) (Q [.agg [.bool false,.int .i64 0,.int .i64 0,.nils],.agg [.bool false,.int .i64 0,.int .i64 0,.nils],.int .i64 (qah (([(li,m,o,l),(li2,m2,o2,l2)]:List paS.D))).2] (qib li m o l li2 m2 o2 l2)) ((0:Int)<=0 /\
 (0:Int)<(↑(qah (([(li,m,o,l),(li2,m2,o2,l2)]:List paS.D))).1.length:Int) /\
 0+0<(qah (([(li,m,o,l),(li2,m2,o2,l2)]:List paS.D))).1.length /\
 (0:Int)<=1 /\
 (1:Int)<(↑(qah (([(li,m,o,l),(li2,m2,o2,l2)]:List paS.D))).1.length:Int) /\
 0+1<(qah (([(li,m,o,l),(li2,m2,o2,l2)]:List paS.D))).1.length /\
 ctDis.pre (gtSs (qah (([(li,m,o,l),(li2,m2,o2,l2)]:List paS.D))).1 (0+0),gtSs (qah (([(li,m,o,l),(li2,m2,o2,l2)]:List paS.D))).1 (0+1),()) /\
 bc (disB (gtSs (qah (([(li,m,o,l),(li2,m2,o2,l2)]:List paS.D))).1 (0+0)) (gtSs (qah (([(li,m,o,l),(li2,m2,o2,l2)]:List paS.D))).1 (0+1))) (true=true /\
 Q [.agg [.bool false,.int .i64 0,.int .i64 0,.nils],.agg [.bool false,.int .i64 0,.int .i64 0,.nils],.int .i64 110] (qib li m o l li2 m2 o2 l2)) ((0:Int)<=1 /\
 (1:Int)<(↑(qah (([(li,m,o,l),(li2,m2,o2,l2)]:List paS.D))).1.length:Int) /\
 0+1<(qah (([(li,m,o,l),(li2,m2,o2,l2)]:List paS.D))).1.length /\
 (0:Int)<=0 /\
 (0:Int)<(↑(qah (([(li,m,o,l),(li2,m2,o2,l2)]:List paS.D))).1.length:Int) /\
 0+0<(qah (([(li,m,o,l),(li2,m2,o2,l2)]:List paS.D))).1.length /\
 ctDis.pre (gtSs (qah (([(li,m,o,l),(li2,m2,o2,l2)]:List paS.D))).1 (0+1),gtSs (qah (([(li,m,o,l),(li2,m2,o2,l2)]:List paS.D))).1 (0+0),()) /\
 bc (bif false then true else disB (gtSs (qah (([(li,m,o,l),(li2,m2,o2,l2)]:List paS.D))).1 (0+1)) (gtSs (qah (([(li,m,o,l),(li2,m2,o2,l2)]:List paS.D))).1 (0+0))) (Q [.agg [.bool false,.int .i64 0,.int .i64 0,.nils],.agg [.bool false,.int .i64 0,.int .i64 0,.nils],.int .i64 110] (qib li m o l li2 m2 o2 l2)) (ctFo.pre ((li2,m2,o2,l2),()) /\
 bc (decide ((foV (li2,m2,o2,l2)).2≠0)) (Q [.agg [.bool false,.int .i64 0,.int .i64 0,.nils],.agg [.bool false,.int .i64 0,.int .i64 0,.nils],.int .i64 (foV (li2,m2,o2,l2)).2] [(2,.var [.bool li,.int .i64 m,.int .i64 o,.sl opS l]),(3,.var [.bool li2,.int .i64 m2,.int .i64 o2,.sl opS l2]),(4,.var [.bool false,.int .i64 0,.int .i64 0,.nils]),(5,.var [.bool false,.int .i64 0,.int .i64 0,.nils]),(9,.var [.bool (foV (li2,m2,o2,l2)).1.1,.int .i64 (foV (li2,m2,o2,l2)).1.2.1,.int .i64 (foV (li2,m2,o2,l2)).1.2.2.1,.sl opS (foV (li2,m2,o2,l2)).1.2.2.2]),(1061440,.row 47 syS.sl (qah (([(li,m,o,l),(li2,m2,o2,l2)]:List paS.D))).1)]) (ctFo.pre ((li,m,o,l),()) /\
 bc (decide ((foV (li,m,o,l)).2≠0)) (Q [.agg [.bool false,.int .i64 0,.int .i64 0,.nils],.agg [.bool false,.int .i64 0,.int .i64 0,.nils],.int .i64 (foV (li,m,o,l)).2] [(2,.var [.bool li,.int .i64 m,.int .i64 o,.sl opS l]),(3,.var [.bool li2,.int .i64 m2,.int .i64 o2,.sl opS l2]),(4,.var [.bool false,.int .i64 0,.int .i64 0,.nils]),(5,.var [.bool false,.int .i64 0,.int .i64 0,.nils]),(9,.var [.bool (foV (li2,m2,o2,l2)).1.1,.int .i64 (foV (li2,m2,o2,l2)).1.2.1,.int .i64 (foV (li2,m2,o2,l2)).1.2.2.1,.sl opS (foV (li2,m2,o2,l2)).1.2.2.2]),(10,.var [.bool (foV (li,m,o,l)).1.1,.int .i64 (foV (li,m,o,l)).1.2.1,.int .i64 (foV (li,m,o,l)).1.2.2.1,.sl opS (foV (li,m,o,l)).1.2.2.2]),(1061440,.row 47 syS.sl (qah (([(li,m,o,l),(li2,m2,o2,l2)]:List paS.D))).1)]) (Q [.agg [.bool (foV (li2,m2,o2,l2)).1.1,.int .i64 (foV (li2,m2,o2,l2)).1.2.1,.int .i64 (foV (li2,m2,o2,l2)).1.2.2.1,.sl opS (foV (li2,m2,o2,l2)).1.2.2.2],.agg [.bool (foV (li,m,o,l)).1.1,.int .i64 (foV (li,m,o,l)).1.2.1,.int .i64 (foV (li,m,o,l)).1.2.2.1,.sl opS (foV (li,m,o,l)).1.2.2.2],.int .i64 0] [(2,.var [.bool li,.int .i64 m,.int .i64 o,.sl opS l]),(3,.var [.bool li2,.int .i64 m2,.int .i64 o2,.sl opS l2]),(4,.var [.bool (foV (li2,m2,o2,l2)).1.1,.int .i64 (foV (li2,m2,o2,l2)).1.2.1,.int .i64 (foV (li2,m2,o2,l2)).1.2.2.1,.sl opS (foV (li2,m2,o2,l2)).1.2.2.2]),(5,.var [.bool (foV (li,m,o,l)).1.1,.int .i64 (foV (li,m,o,l)).1.2.1,.int .i64 (foV (li,m,o,l)).1.2.2.1,.sl opS (foV (li,m,o,l)).1.2.2.2]),(9,.var [.bool (foV (li2,m2,o2,l2)).1.1,.int .i64 (foV (li2,m2,o2,l2)).1.2.1,.int .i64 (foV (li2,m2,o2,l2)).1.2.2.1,.sl opS (foV (li2,m2,o2,l2)).1.2.2.2]),(10,.var [.bool (foV (li,m,o,l)).1.1,.int .i64 (foV (li,m,o,l)).1.2.1,.int .i64 (foV (li,m,o,l)).1.2.2.1,.sl opS (foV (li,m,o,l)).1.2.2.2]),(1061440,.row 47 syS.sl (qah (([(li,m,o,l),(li2,m2,o2,l2)]:List paS.D))).1)])))))):=by kernel_rfl
theorem q7r (li:Bool) (m o:Int) (l:List OpT) (li2:Bool) (m2 o2:Int) (l2:List OpT) (Q:QT) (R:RT):sy tt G0 C11 Tryd.f10.ntmps Tryd.f10.results.toList Q (fun it S=>R it (qa4 [2,4,8,40] [2,4,8,1147456,1163840,1163841] S)) 1000 [.code (qae Tryd.f10)] (entry [paS,paS] ((li,m,o,l),(li2,m2,o2,l2),())) =
  (0+2<=([(li,m,o,l),(li2,m2,o2,l2)]:List paS.D).length /\
 ctSyo.pre (([(li,m,o,l),(li2,m2,o2,l2)]:List paS.D),()) /\
 bc (decide ((qah (([(li,m,o,l),(li2,m2,o2,l2)]:List paS.D))).2≠0)) (Q [.agg [.bool false,.int .i64 0,.int .i64 0,.nils],.int .i64 (qah (([(li,m,o,l),(li2,m2,o2,l2)]:List paS.D))).2] [(2,.var [.bool li,.int .i64 m,.int .i64 o,.sl opS l]),(3,.var [.bool li2,.int .i64 m2,.int .i64 o2,.sl opS l2]),(4,.var [.bool false,.int .i64 0,.int .i64 0,.nils]),(1065536,.row 47 syS.sl (qah (([(li,m,o,l),(li2,m2,o2,l2)]:List paS.D))).1)]) ((0:Int)<=0 /\
 (0:Int)<(↑(qah (([(li,m,o,l),(li2,m2,o2,l2)]:List paS.D))).1.length:Int) /\
 0+0<(qah (([(li,m,o,l),(li2,m2,o2,l2)]:List paS.D))).1.length /\
 (0:Int)<=1 /\
 (1:Int)<(↑(qah (([(li,m,o,l),(li2,m2,o2,l2)]:List paS.D))).1.length:Int) /\
 0+1<(qah (([(li,m,o,l),(li2,m2,o2,l2)]:List paS.D))).1.length /\
 ctCls.pre (gtSs (qah (([(li,m,o,l),(li2,m2,o2,l2)]:List paS.D))).1 (0+0),gtSs (qah (([(li,m,o,l),(li2,m2,o2,l2)]:List paS.D))).1 (0+1),()) /\
 bc (decide ((0:Int)<(↑(rgCV (gtSs (qah (([(li,m,o,l),(li2,m2,o2,l2)]:List paS.D))).1 (0+0)) (gtSs (qah (([(li,m,o,l),(li2,m2,o2,l2)]:List paS.D))).1 (0+1))).length:Int))) (Q [.agg [.bool false,.int .i64 0,.int .i64 0,.nils],.int .i64 110] [(2,.var [.bool li,.int .i64 m,.int .i64 o,.sl opS l]),(3,.var [.bool li2,.int .i64 m2,.int .i64 o2,.sl opS l2]),(4,.var [.bool false,.int .i64 0,.int .i64 0,.nils]),(1065536,.row 47 syS.sl (qah (([(li,m,o,l),(li2,m2,o2,l2)]:List paS.D))).1),(1118784,.row 69 rgS (rgCV (gtSs (qah (([(li,m,o,l),(li2,m2,o2,l2)]:List paS.D))).1 (0+0)) (gtSs (qah (([(li,m,o,l),(li2,m2,o2,l2)]:List paS.D))).1 (0+1))))]) ((0:Int)<=1 /\
 (1:Int)<(↑(qah (([(li,m,o,l),(li2,m2,o2,l2)]:List paS.D))).1.length:Int) /\
 0+1<(qah (([(li,m,o,l),(li2,m2,o2,l2)]:List paS.D))).1.length /\
 ctCln.pre (gtSs (qah (([(li,m,o,l),(li2,m2,o2,l2)]:List paS.D))).1 (0+1),()) /\
 (0:Int)<=0 /\
 (0:Int)<(↑(qah (([(li,m,o,l),(li2,m2,o2,l2)]:List paS.D))).1.length:Int) /\
 0+0<(qah (([(li,m,o,l),(li2,m2,o2,l2)]:List paS.D))).1.length /\
 ctWhT.pre (gtSs (qah (([(li,m,o,l),(li2,m2,o2,l2)]:List paS.D))).1 (0+0),((),()),()) /\
 R (hd Tryd.f10 0) { env:=[(2,.ptr 2 0),(4,.ptr 4 0),(8,.ptr 8 0),(40,.fn (57:Nat) [] [.ptr (1163840:Nat) 0,.ptr 1163841 0])],blk:=[(2,.var [.bool li,.int .i64 m,.int .i64 o,.sl opS l]),(4,.var [.bool false,.int .i64 0,.int .i64 0,.nils]),(8,.var [.win true syS 1147456 0 (List.length (gtSs (qah (([(li,m,o,l),(li2,m2,o2,l2)]:List paS.D))).1 (0+1)))]),(1147456,.row 51 syS (gtSs (qah (([(li,m,o,l),(li2,m2,o2,l2)]:List paS.D))).1 (0+1))),(1163840,.var [.sl syS (gtSs (qah (([(li,m,o,l),(li2,m2,o2,l2)]:List paS.D))).1 (0+0))]),(1163841,.var [.fn (34:Nat) [] []])] }))):=by kernel_rfl
theorem q3q (b:List SyT) (i:Int) (s:SyT) (j:Nat) (q:Bool) (Q:AExit->Nat × Bool->PS->Prop) (R:List Item->Nat × Bool->PS->Prop):syE tt G0 C11 Tryd.f10.ntmps Y0 Q R .ready 1000 (rnd Tryd.f10 0) (j,q) (qdt [8] [41,42] KM ySy ((b,()),()) (i,s,())) =
  ((0:Int)<=i /\
 i<(b.length:Int) /\
 0+i.toNat<b.length /\
 Q AExit.normal (j,q) { env:=[(9,.int .i64 i),(10,.ptr 10 0),(41,.int .i64 i),(42,.agg [.bool s.1,.int .i64 s.2.1,.int .u8 s.2.2]),(8,.ptr 1099511627776 0),(43,.win true syS 1099511627777 0 b.length),(44,.int .i64 i),(45,.agg [.bool s.1,.int .i64 s.2.1,.int .u8 s.2.2]),(46,.elp syS (1099511627777:Nat) (0+i.toNat) (0:Nat))],blk:=[(10,.var [.bool s.1,.int .i64 s.2.1,.int .u8 s.2.2]),(1099511627776,.var [.win true syS 1099511627777 0 b.length]),(1099511627777,.row 51 syS (b.set (0+i.toNat) s))] }):=by kernel_rfl
theorem q3r (li:Bool) (m o:Int) (l:List OpT) (b:List SyT) (Q:QT) (R:RT):sy tt G0 C11 Tryd.f10.ntmps Tryd.f10.results.toList Q R 1000 (rfK Tryd.f10 0) ⟨[(2,.ptr 2 0),(4,.ptr 4 0),(8,.ptr 8 0)],[(2,.var [.bool li,.int .i64 m,.int .i64 o,.sl opS l]),(4,.var [.bool false,.int .i64 0,.int .i64 0,.nils]),(8,.var [.win true syS 1086016 0 b.length]),(1086016,.row 51 syS b)]⟩ =
  (0+b.length<=b.length /\
 0+b.length<=b.length /\
 ctCp.pre (winL syS 0 b.length b,m,()) /\
 bc (decide ((cpV (winL syS 0 b.length b) m).2≠0)) (Q [.agg [.bool false,.int .i64 0,.int .i64 0,.nils],.int .i64 (cpV (winL syS 0 b.length b) m).2] [(2,.var [.bool li,.int .i64 m,.int .i64 o,.sl opS l]),(4,.var [.bool false,.int .i64 0,.int .i64 0,.nils]),(8,.var [.sl syS (winL syS 0 b.length b)]),(11,.var [.bool (cpV (winL syS 0 b.length b) m).1.1,.int .i64 (cpV (winL syS 0 b.length b) m).1.2.1,.int .i64 (cpV (winL syS 0 b.length b) m).1.2.2.1,.sl opS (cpV (winL syS 0 b.length b) m).1.2.2.2])]) (Q [.agg [.bool li,.int .i64 (cpV (winL syS 0 b.length b) m).1.2.1,.int .i64 (cpV (winL syS 0 b.length b) m).1.2.2.1,.sl opS (cpV (winL syS 0 b.length b) m).1.2.2.2],.int .i64 0] [(2,.var [.bool li,.int .i64 m,.int .i64 o,.sl opS l]),(4,.var [.bool li,.int .i64 (cpV (winL syS 0 b.length b) m).1.2.1,.int .i64 (cpV (winL syS 0 b.length b) m).1.2.2.1,.sl opS (cpV (winL syS 0 b.length b) m).1.2.2.2]),(8,.var [.sl syS (winL syS 0 b.length b)]),(11,.var [.bool li,.int .i64 (cpV (winL syS 0 b.length b) m).1.2.1,.int .i64 (cpV (winL syS 0 b.length b) m).1.2.2.1,.sl opS (cpV (winL syS 0 b.length b) m).1.2.2.2])])):=by kernel_rfl
theorem QC.nil0 {ct:Ctr} {x:DL ct.args} {blk:List (Nat × LB)} {e:Sh} {et:TypeId} (h:ct.out x=[.win true e 0 0 0]) (hr:ct.rows x=[.row et e []]) (he:0<e.size):QC ct x [.nils] blk:=by
 refine ⟨fun _=>none,?_,?_,fun i j b h1 h2=>(by cases h1),by rw[hr];rfl⟩
 ·rw[h];exact ⟨_,_,rfl,.inr ⟨rfl,rfl,rfl,rfl⟩,rfl⟩
 ·rw[hr];exact ⟨.inr ⟨rfl,et,e,rfl,he⟩,trivial⟩
theorem q0k:Held Tryd.prog G0 32 ctCln:=Held.run cx0 (fn:=Tryd.f32) rfl rfl ⟨by decide,by decide⟩ fun ⟨l,⟨⟩⟩ hp=>by
 have hp:l.length<1000000:=hp;refine (q75 l _ _).mpr fun r hr=>qaf (fun h=>?_) (fun h=>⟨rfl,rfl,(by omega),by decide,?_⟩)
 ·have hl:l=[]:=hr h;subst hl;exact QC.nil0 (e:=syS) (et:=51) rfl rfl (by decide)
 ·refine QC.row0 (e:=syS) (xs:=l) (et:=51) rfl rfl rfl (Nat.zero_add _) ?_
  show some (LB.row 51 syS _)=_
  rfl
theorem qyv:Held Tryd.prog G0 45 ctRdf:=by
 have h:=rdb_held.frz (fun x _=>by
  show inL 0 (rdbV x.1).length [SV.win true .bool 0 0 (rdbV x.1).length]/\True
  exact ⟨⟨fun _=>by omega,trivial⟩,trivial⟩)
 refine h.iff rfl (fun x h=>h) (fun x _=>?_) (fun x _=>rfl)
 show [SV.sl .bool (rdbV x.1)]=[SV.sl .bool (winL .bool 0 (rdbV x.1).length (rdbV x.1))]
 rw[winA (e:=.bool)]
theorem cx11:CxOK Tryd.prog tt G0 C11:=((((((cx8.cons q6f (fn:=Tryd.f9) rfl rfl rfl).cons q6l (fn:=Tryd.f35) rfl rfl rfl).cons q0k (fn:=Tryd.f32) rfl rfl rfl).cons q0f (fn:=Tryd.f60) rfl rfl rfl).cons qx9 (fn:=Tryd.f30) rfl rfl rfl).cons qyv (fn:=Tryd.f45) rfl rfl rfl)
theorem q1r {l:List PaT} (h:(qah l).2=0):qah l=(l.map sySy,0)/\syEr l=0/\l.any (othB l)=false/\l.any (uneB l)=false:=by
 by_cases h1:syEr l=0
 ·by_cases h2:l.any (othB l)=true
  ·rw[quq h1 h2] at h;cases h
  ·by_cases h3:l.any (uneB l)=true
   ·rw[qup h1 (by simpa using h2) h3] at h;cases h
   ·exact ⟨qpa h1 (by simpa using h2) (by simpa using h3),h1,by simpa using h2,by simpa using h3⟩
 ·rw[qpb h1] at h;exact absurd h h1
def evP (p:PaT):Prop:=(symV p).2=0/\p.2.1=p.2.2.1
theorem q4d {p:PaT} {r:List PaT} (h:syEr (p::r)=0):(symV p).2=0/\syEr r=0:=by
 rw[syEr] at h;by_cases hq:(symV p).2=0
 ·rw[decide_eq_false (by simp[hq])] at h;exact ⟨hq,h⟩
 ·rw[decide_eq_true hq] at h;exact absurd h hq
theorem une0 {l:List PaT} {p:PaT} (h:uneB l p=false):p.2.1=p.2.2.1/\p.2.1=(gtP l 0).2.1:=by
 simpa [uneB] using h
theorem qz7 (p:PaT) (r:List PaT):gtP (p::r) 0=p:=qog (l:=p::r) (by simp)
theorem sy1 {p:PaT} (h:(qah [p]).2=0):qah [p]=([sySy p],0)/\evP p:=by
 obtain ⟨h1,h2,_,h4⟩:=q1r h;simp only[List.any_cons,List.any_nil,Bool.or_false] at h4;exact ⟨h1,(q4d h2).1,(une0 h4).1⟩
theorem sy2 {p q:PaT} (h:(qah [p,q]).2=0):qah [p,q]=([sySy p,sySy q],0)/\evP p/\evP q/\p.2.1=q.2.1/\p.1=q.1:=by
 obtain ⟨h1,h2,h3,h4⟩:=q1r h;simp only[List.any_cons,List.any_nil,Bool.or_false,Bool.or_eq_false_iff] at h3 h4;obtain ⟨k1,k2⟩:=q4d h2;have e:=une0 h4.2;rw[qz7] at e;have o:=h3.2;simp only[othB,qz7,bne_eq_false_iff_eq] at o;exact ⟨h1,⟨k1,(une0 h4.1).1⟩,⟨(q4d k2).1,e.1⟩,e.2.symm,o.symm⟩
theorem qiv {p:PaT} (h:evP p):((sySy p).length:Int)=p.2.1/\(0<=p.2.1/\p.2.1<=65536)/\∀ s∈sySy p,sOK p.2.1 s=true:=by
 obtain ⟨h1,h2,h3⟩:=qsk h.1;exact ⟨h3.trans h.2.symm,h2,h1⟩
theorem ev_Y {p:PaT} (h:evP p):evY (sySy p):=by
 obtain ⟨h1,h2,h3⟩:=qiv h;refine ⟨by omega,fun s hs ho=>?_⟩;have:=qpd (h3 s hs) ho;omega
theorem qww (a:List SyT) (r:List (List SyT)):gtSs (a::r) 0=a:=gtE (e:=slY) (l:=a::r) (by simp)
theorem q6b (a b:List SyT) (r:List (List SyT)):gtSs (a::b::r) 1=b:=gtE (e:=slY) (l:=a::b::r) (by simp)
def tchV (p:PaT):List (Int × Int) × Int:=match decide ((qah [p]).2≠0) with
 | true=>([],(qah [p]).2)
 | false=>(rgTV (sySy p),0)
def rdV (p:PaT):List (Int × Int) × Int:=match decide ((qah [p]).2≠0) with
 | true=>([],(qah [p]).2)
 | false=>(rgRV (rdbV (sySy p)),0)
def clV (p q:PaT):List (Int × Int) × Int:=match decide ((qah [p,q]).2≠0) with
 | true=>([],(qah [p,q]).2)
 | false=>(rgCV (sySy p) (sySy q),0)
def ctTch:Ctr:=⟨[paS],fun _=>True,fun x=>[.win true rgS 0 0 (tchV x.1).1.length,.int .i64 (tchV x.1).2],fun x=>[.row 69 rgS (tchV x.1).1]⟩
def ctRd:Ctr:=⟨[paS],fun _=>True,fun x=>[.win true rgS 0 0 (rdV x.1).1.length,.int .i64 (rdV x.1).2],fun x=>[.row 69 rgS (rdV x.1).1]⟩
def ctCl:Ctr:=⟨[paS,paS],fun _=>True,fun x=>[.win true rgS 0 0 (clV x.1 x.2.1).1.length,.int .i64 (clV x.1 x.2.1).2],fun x=>[.row 69 rgS (clV x.1 x.2.1).1]⟩
theorem qwg:Held Tryd.prog G0 21 ctTch:=Held.run cx11 (fn:=Tryd.f21) rfl rfl ⟨by decide,by decide⟩ fun ⟨⟨li,m,o,l⟩,⟨⟩⟩ _=>by
 refine (q3p li m o l _ _).mpr ⟨Nat.le_refl _,⟨by simp,by simp⟩,qaf (fun h=>?_) (fun h=>?_)⟩
 ·have e:tchV (li,m,o,l)=([],(qah [(li,m,o,l)]).2):=by unfold tchV;rw[show decide ((qah [(li,m,o,l)]).2≠0)=true from h]
  refine QC.nil1 (e:=rgS) (et:=69) ?_ ?_ (by decide)
  ·show [SV.win true rgS 0 0 (tchV _).1.length,SV.int .i64 (tchV _).2]=_;rw[e];rfl
  ·show [LB.row 69 rgS (tchV _).1]=_;rw[e]
 ·have h0:(qah [(li,m,o,l)]).2=0:=by have:=of_decide_eq_false h;simpa using this
  obtain ⟨h1,h2⟩:=sy1 h0;have hY:=ev_Y h2;have e:tchV (li,m,o,l)=(rgTV (sySy (li,m,o,l)),0):=by unfold tchV;rw[show decide ((qah [(li,m,o,l)]).2≠0)=false from h]
  rw[h1];simp only[Nat.add_zero,qww];refine ⟨by omega,by simp,by simp,trivial,hY.1,?_⟩;refine QC.row1 (e:=rgS) (xs:=rgTV (sySy (li,m,o,l))) (et:=69) (n:=0) ?_ ?_ rfl rfl rfl
  ·show [SV.win true rgS 0 0 (tchV _).1.length,SV.int .i64 (tchV _).2]=_;rw[e]
  ·show [LB.row 69 rgS (tchV _).1]=_;rw[e]
theorem qzk:Held Tryd.prog G0 22 ctRd:=Held.run cx11 (fn:=Tryd.f22) rfl rfl ⟨by decide,by decide⟩ fun ⟨⟨li,m,o,l⟩,⟨⟩⟩ _=>by
 refine (q7q li m o l _ _).mpr ⟨Nat.le_refl _,⟨by simp,by simp⟩,qaf (fun h=>?_) (fun h=>?_)⟩
 ·have e:rdV (li,m,o,l)=([],(qah [(li,m,o,l)]).2):=by unfold rdV;rw[show decide ((qah [(li,m,o,l)]).2≠0)=true from h]
  refine QC.nil1 (e:=rgS) (et:=69) ?_ ?_ (by decide)
  ·show [SV.win true rgS 0 0 (rdV _).1.length,SV.int .i64 (rdV _).2]=_;rw[e];rfl
  ·show [LB.row 69 rgS (rdV _).1]=_;rw[e]
 ·have h0:(qah [(li,m,o,l)]).2=0:=by have:=of_decide_eq_false h;simpa using this
  obtain ⟨h1,h2⟩:=sy1 h0;have hY:=ev_Y h2;have e:rdV (li,m,o,l)=(rgRV (rdbV (sySy (li,m,o,l))),0):=by unfold rdV;rw[show decide ((qah [(li,m,o,l)]).2≠0)=false from h]
  have hrl:(rdbV (sySy (li,m,o,l))).length=(sySy (li,m,o,l)).length:=by unfold rdbV;rw[qms,List.length_replicate]
  rw[h1];simp only[Nat.add_zero,qww];refine ⟨by omega,by simp,by simp,hY,trivial,(show (rdbV (sySy (li,m,o,l))).length<1000000 by rw[hrl];exact hY.1),?_⟩;refine QC.row1 (e:=rgS) (xs:=rgRV (rdbV (sySy (li,m,o,l)))) (et:=69) (n:=0) ?_ ?_ rfl rfl rfl
  ·show [SV.win true rgS 0 0 (rdV _).1.length,SV.int .i64 (rdV _).2]=_;rw[e]
  ·show [LB.row 69 rgS (rdV _).1]=_;rw[e]
theorem qrk:Held Tryd.prog G0 13 ctCl:=Held.run cx11 (fn:=Tryd.f13) rfl rfl ⟨by decide,by decide⟩ fun ⟨⟨li,m,o,l⟩,⟨li2,m2,o2,l2⟩,⟨⟩⟩ _=>by
 refine (q7t li m o l li2 m2 o2 l2 _ _).mpr ⟨Nat.le_refl _,⟨by simp,by simp⟩,qaf (fun h=>?_) (fun h=>?_)⟩
 ·have e:clV (li,m,o,l) (li2,m2,o2,l2)=([],(qah [(li,m,o,l),(li2,m2,o2,l2)]).2):=by unfold clV;rw[show decide ((qah [(li,m,o,l),(li2,m2,o2,l2)]).2≠0)=true from h]
  refine QC.nil1 (e:=rgS) (et:=69) ?_ ?_ (by decide)
  ·show [SV.win true rgS 0 0 (clV _ _).1.length,SV.int .i64 (clV _ _).2]=_;rw[e];rfl
  ·show [LB.row 69 rgS (clV _ _).1]=_;rw[e]
 ·have h0:(qah [(li,m,o,l),(li2,m2,o2,l2)]).2=0:=by have:=of_decide_eq_false h;simpa using this
  obtain ⟨h1,h2,h3,h4,_⟩:=sy2 h0;have hY:=ev_Y h2;have e:clV (li,m,o,l) (li2,m2,o2,l2)=(rgCV (sySy (li,m,o,l)) (sySy (li2,m2,o2,l2)),0):=by unfold clV;rw[show decide ((qah [(li,m,o,l),(li2,m2,o2,l2)]).2≠0)=false from h]
  have la:=(qiv h2).1;have lb:=(qiv h3).1;rw[h1];simp only[Nat.add_zero,Nat.zero_add,qww,q6b];refine ⟨by omega,by simp,by simp,by omega,by simp,by simp,⟨hY.1,(show (sySy (li,m,o,l)).length<=(sySy (li2,m2,o2,l2)).length by have:=h4;omega)⟩,?_⟩;refine QC.row1 (e:=rgS) (xs:=rgCV (sySy (li,m,o,l)) (sySy (li2,m2,o2,l2))) (et:=69) (n:=0) ?_ ?_ rfl rfl rfl
  ·show [SV.win true rgS 0 0 (clV _ _).1.length,SV.int .i64 (clV _ _).2]=_;rw[e]
  ·show [LB.row 69 rgS (clV _ _).1]=_;rw[e]
def mgF:List (Int × SyT)->List SyT->List SyT
 | [],o=>o
 | x::r,o=>mgF r (o.set x.1.toNat x.2)
def mgL (a b:List SyT):List SyT:=mgF (whF tcB 0 a) b
theorem qps:∀ (r:List (Int × SyT)) (o:List SyT),(mgF r o).length=o.length
 | [],o=>rfl
 | x::r,o=>by rw[mgF,qps r,List.length_set]
def mgV (p q:PaT):PaT × Int:=match decide ((qah [p,q]).2≠0) with
 | true=>((false,0,0,[]),(qah [p,q]).2)
 | false=>match decide (0<(rgCV (sySy p) (sySy q)).length) with
  | true=>((false,0,0,[]),110)
  | false=>match decide ((cpV (mgL (sySy p) (sySy q)) p.2.1).2≠0) with
   | true=>((false,0,0,[]),(cpV (mgL (sySy p) (sySy q)) p.2.1).2)
   | false=>((p.1,(cpV (mgL (sySy p) (sySy q)) p.2.1).1.2),0)
def ctMg:Ctr:=⟨[paS,paS],fun _=>True,fun x=>[paV (mgV x.1 x.2.1).1,.int .i64 (mgV x.1 x.2.1).2],fun _=>[]⟩
def bkM (x:DI KM):List (Nat × LB):=[(BIG,.var [.win true syS 0 0 x.1.1.length]),(0,.row 51 syS x.1.1)]
theorem hdMg:hd Tryd.f10 0=.code (.rangeFunc (.tmp 40) #[41,42] (rfA Tryd.f10 0) (rfB Tryd.f10 0))::rfK Tryd.f10 0:=by kernel_rfl
theorem rndMg:rnd Tryd.f10 0=[.code (rfA Tryd.f10 0),.beginRound,.code (rfB Tryd.f10 0)]:=by kernel_rfl
theorem qn4 {QL:AExit->Nat × Bool->DI KM->Prop} {g:Nat × Bool}:∀ (rs:List (Int × SyT)) (o:List SyT),(∀ x∈rs,0<=x.1/\x.1<o.length)->QL .normal g ((mgF rs o,()),()) ->
  qll Tryd.prog G0 10 Tryd.f10.ntmps Y0 [8] [41,42] KM ySy (rfA Tryd.f10 0) (rfB Tryd.f10 0) QL (rs.map yS) g ((o,()),())
 | [],o,_,h=>h
 | (i,s)::rs,o,hb,h=>by
  show GoodE Tryd.prog G0 10 Tryd.f10.ntmps .ready Y0 _ [.code (rfA Tryd.f10 0),.beginRound,.code (rfB Tryd.f10 0)] g (qdt [8] [41,42] KM ySy ((o,()),()) (i,s,()))
  rw[<- rndMg];obtain ⟨h0,h1⟩:0<=i/\i<o.length:=hb (i,s) (by simp);have k:=qn4 (QL:=QL) (g:=g) rs (o.set i.toNat s) (fun x hx=>by rw[List.length_set];exact hb x (by simp[hx])) h;refine qc7 cx11 (q3q o i s g.1 g.2 _ _) ?_;rw[Nat.zero_add];refine ⟨h0,h1,by omega,?_⟩;exact ⟨[],((o.set i.toNat s,()),()),⟨⟨by show some (LB.var [SV.win true syS (BIG+1) 0 o.length])=some (LB.var [SV.win true syS (BIG+1) 0 (o.set _ _).length]);rw[List.length_set],rfl,trivial⟩,rfl,rfl⟩,k⟩
theorem QPe.qc {ct:Ctr} {x:DL ct.args} {p:PaT × Int} {rs:List SV} {blk:List (Nat × LB)} (h:QPe p rs blk) (ho:ct.out x=[paV p.1,.int .i64 p.2]) (hr:ct.rows x=[]):QC ct x rs blk:=by
 refine QC.mt ?_ hr;rw[ho];exact h
theorem q80 (p:PaT) (z:Int):MtL (fun _=>none) [paV p,.int .i64 z] [.agg [.bool p.1,.int .i64 p.2.1,.int .i64 p.2.2.1,.sl opS p.2.2.2],.int .i64 z]:=⟨_,_,rfl,⟨_,rfl,_,_,rfl,rfl,_,_,rfl,rfl,_,_,rfl,rfl,_,_,rfl,.inl rfl,rfl⟩,_,_,rfl,rfl,rfl⟩
theorem qrj:Held Tryd.prog G0 10 ctMg:=Held.of cx11 (fn:=Tryd.f10) rfl rfl ⟨by decide,by decide⟩ fun ⟨⟨li,m,o,l⟩,⟨li2,m2,o2,l2⟩,⟨⟩⟩ _=>by
 have fin:∀ {v:PaT × Int} {rs blk},mgV (li,m,o,l) (li2,m2,o2,l2)=v->QPe v rs blk->QC ctMg ((li,m,o,l),(li2,m2,o2,l2),()) rs blk:=fun {v rs blk} h k=>QPe.qc k (by show [paV (mgV (li,m,o,l) (li2,m2,o2,l2)).1,SV.int .i64 (mgV (li,m,o,l) (li2,m2,o2,l2)).2]=_;rw[h]) rfl
 refine qak cx11 (q7r li m o l li2 m2 o2 l2 _ _) ⟨Nat.le_refl _,⟨by simp,by simp⟩,qaf (fun h=>?_) (fun h=>?_)⟩
 ·refine fin (v:=((false,0,0,[]),(qah [(li,m,o,l),(li2,m2,o2,l2)]).2)) ?_ (qcy _);unfold mgV;rw[show decide ((qah [(li,m,o,l),(li2,m2,o2,l2)]).2≠0)=true from h]
 ·have h0:(qah [(li,m,o,l),(li2,m2,o2,l2)]).2=0:=by have:=of_decide_eq_false h;simpa using this
  obtain ⟨h1,h2,h3,h4,_⟩:=sy2 h0;have hY:=ev_Y h2;have la:=(qiv h2).1;have lb:=(qiv h3).1;have hle:(sySy (li,m,o,l)).length=(sySy (li2,m2,o2,l2)).length:=by have:=h4;omega
  have e1:decide ((qah [(li,m,o,l),(li2,m2,o2,l2)]).2≠0)=false:=h;rw[h1];simp only[Nat.add_zero,Nat.zero_add,qww,q6b];refine ⟨by omega,by simp,by simp,by omega,by simp,by simp,⟨hY.1,Nat.le_of_eq hle⟩,qaf (fun k=>?_) (fun k=>⟨by omega,by simp,by simp,(show (sySy (li2,m2,o2,l2)).length<1000000 by rw[<- hle];exact hY.1),by omega,by simp,by simp,trivial,?_⟩)⟩
  ·refine fin (v:=((false,0,0,[]),110)) ?_ (qcy _);have k:=of_decide_eq_true k;unfold mgV;rw[e1,show decide (0<(rgCV (sySy (li,m,o,l)) (sySy (li2,m2,o2,l2))).length)=true from decide_eq_true (by omega)]
  ·have k:=of_decide_eq_false k;have e2:decide (0<(rgCV (sySy (li,m,o,l)) (sySy (li2,m2,o2,l2))).length)=false:=decide_eq_false (by omega);generalize ha:sySy (li,m,o,l)=a at *;generalize hb:sySy (li2,m2,o2,l2)=b at *;have hK:GoodE Tryd.prog G0 10 Tryd.f10.ntmps .fn Y0 (endK tt G0 Tryd.f10.results.toList (QC ctMg ((li,m,o,l),(li2,m2,o2,l2),()))) (rfK Tryd.f10 0) (0,false) ⟨[(2,.ptr 2 0),(4,.ptr 4 0),(8,.ptr 8 0)],[(2,.var [.bool li,.int .i64 m,.int .i64 o,.sl opS l]),(4,.var [.bool false,.int .i64 0,.int .i64 0,.nils]),(8,.var [.win true syS 1086016 0 (mgL a b).length]),(1086016,.row 51 syS (mgL a b))]⟩:=by
    refine qmi cx11 (q3r li m o l (mgL a b) _ _) ?_;rw[show winL syS 0 (mgL a b).length (mgL a b)=mgL a b from winA (e:=syS) _];have hml:(mgL a b).length<16777216:=by unfold mgL;rw[qps];have:=hY.1;omega
    refine ⟨by omega,by omega,hml,qaf (fun k2=>?_) (fun k2=>?_)⟩
    ·refine fin (v:=((false,0,0,[]),(cpV (mgL a b) m).2)) ?_ (qcy _);unfold mgV;rw[e1,ha,hb,e2,show decide ((cpV (mgL a b) (li,m,o,l).2.1).2≠0)=true from k2]
    ·refine fin (v:=((li,(cpV (mgL a b) m).1.2),0)) ?_ (q80 _ _);unfold mgV;rw[e1,ha,hb,e2,show decide ((cpV (mgL a b) (li,m,o,l).2.1).2≠0)=false from k2]
   show GoodE Tryd.prog G0 10 Tryd.f10.ntmps .fn Y0 (endK tt G0 Tryd.f10.results.toList (QC ctMg ((li,m,o,l),(li2,m2,o2,l2),()))) (hd Tryd.f10 0) (0,false) _
   rw[hdMg];refine GoodE.rangeF (gf:=57) (ct:=ctTY) (Ko:=KM) (xi:=((a,()),(((),()),()),())) (x0:=((b,()),())) (ns1:=[some 1163840,some 1163841]) (ns2:=[some 8,some 1147456]) (tl:=[(8,.ptr 8 0)]) (bkF:=bkM) (rF:=[(0,BIG+1)]) (d:=21) (m:=2)
    (by simp) ?_ qjk rfl rfl rfl ?_ hY.1 ⟨rfl,trivial⟩ rfl ?_ (by decide) ⟨by decide,by decide,rfl⟩ rfl ?_ (by decide) ?_
   ·exact fun args w=>qaz (fn:=Tryd.f57) rfl rfl rfl args w
   ·exact fun c hc=>by cases hc
   ·intro c hc;have hc:c∈[b.length=b.length]:=hc;rw[List.mem_singleton] at hc;subst hc;rfl
   ·exact fun x hx=>⟨⟨rfl,rfl,trivial⟩,by simp[bkM,rho,lk,BIG],fun p hp hb=>(by
     simp only[bkM,List.mem_cons,List.not_mem_nil,or_false] at hp;rcases hp with rfl | rfl
     ·exact ⟨rfl,rfl⟩
     ·exact absurd hb (show ¬ BIG<=0 by decide)),by kernel_rfl⟩
   ·refine qn4 (whF tcB 0 a) b (fun x hx=>by have:=qgh a 0 x hx;omega) ?_;exact hK.only ⟨by kernel_rfl,by kernel_rfl,by kernel_rfl,trivial⟩ ⟨by kernel_rfl,by kernel_rfl,by kernel_rfl,by kernel_rfl,trivial⟩
open Go.IntKind(i64 u32 u8)
def q44 (x:OpT) (i:Int):Prop:=k14 x/\0<=i/\(x.1=2\/x.1=4->i<(x.2.2.2.2.length:Int))
def syV (s:SyT):SV:=.agg [.bool s.1,.int .i64 s.2.1,.int .u8 s.2.2]
def ctSb:Ctr:=⟨[opS,iI],fun x=>q44 x.1 x.2.1,fun x=>[syV (elO x.1.1.toNat x.1 (Int.toNat x.2.1))],fun _=>[]⟩
def CSm:CV:=[(37,.inl ctRi),(38,.inl ctSb)]
set_option maxRecDepth 100000
theorem vc_sb (x:OpT) (i:Int) (Q:QT) (R:RT):sy tt G0 [] Tryd.f38.ntmps Tryd.f38.results.toList Q R 1000 [.code (qae Tryd.f38)] (entry [opS,iI] (x,i,())) =
  (bc (decide (x.1=(1:Int))) (Q [.agg [.bool true,.int .i64 (i64.wrap (x.2.1+i)),.int .u8 0]] [(2,.var [.int .i64 x.1,.int .i64 x.2.1,.int .i64 x.2.2.1,.int .u8 x.2.2.2.1,.sl uB x.2.2.2.2]),(4,.var [.bool true,.int .i64 (i64.wrap (x.2.1+i)),.int .u8 0])]) (bc (decide (x.1=(2:Int))) ((0:Int)<=i /\
 i<(↑(List.length x.2.2.2.2):Int) /\
 Q [.agg [.bool true,.int .i64 (i64.wrap (x.2.1+i)),.int .u8 (gtB x.2.2.2.2 i.toNat)]] [(2,.var [.int .i64 x.1,.int .i64 x.2.1,.int .i64 x.2.2.1,.int .u8 x.2.2.2.1,.sl uB x.2.2.2.2]),(4,.var [.bool true,.int .i64 (i64.wrap (x.2.1+i)),.int .u8 (gtB x.2.2.2.2 i.toNat)])]) (bc (decide (x.1=(3:Int))) (Q [.agg [.bool false,.int .i64 0,.int .u8 x.2.2.2.1]] [(2,.var [.int .i64 x.1,.int .i64 x.2.1,.int .i64 x.2.2.1,.int .u8 x.2.2.2.1,.sl uB x.2.2.2.2]),(4,.var [.bool false,.int .i64 0,.int .u8 x.2.2.2.1])]) ((0:Int)<=i /\
 i<(↑(List.length x.2.2.2.2):Int) /\
 Q [.agg [.bool false,.int .i64 0,.int .u8 (gtB x.2.2.2.2 i.toNat)]] [(2,.var [.int .i64 x.1,.int .i64 x.2.1,.int .i64 x.2.2.1,.int .u8 x.2.2.2.1,.sl uB x.2.2.2.2]),(4,.var [.bool false,.int .i64 0,.int .u8 (gtB x.2.2.2.2 i.toNat)])])))):=by kernel_rfl
theorem vc_rs (li:Bool) (m o:Int) (l:List OpT) (Q:QT) (R:RT):sy tt G0 CSm Tryd.f17.ntmps Tryd.f17.results.toList Q (fun it S=>R it (qa4 [1,4,5,6] [1,10,37] S)) 1000 [.code (qae Tryd.f17)] (entry [paS] ((li,m,o,l),())) =
  (ctRi.pre ((li,m,o,l),()) /\
 bc (!decide ((chkV (li,m,o,l)).2=(0:Int))) (Q [.nils,.int .i64 60] [(1,.var [.bool li,.int .i64 m,.int .i64 o,.sl opS l])]) (R (hd Tryd.f17 0) { env:=[(1,.ptr 1 0),(4,.win true syS 10 0 (0:Nat)),(5,.int .i64 0)],blk:=[(1,.var [.bool li,.int .i64 m,.int .i64 o,.sl opS l]),(10,.row 51 syS (List.replicate (0:Nat) syS.dflt))] })):=by kernel_rfl
theorem q1i (li:Bool) (m o:Int) (l:List OpT) (s:List SyT) (i:Nat) (Q:QT) (R:RT):sy tt G0 CSm Tryd.f17.ntmps Tryd.f17.results.toList Q (fun it S=>R it (qa4 [1,4,5,6] [1,10,37] S)) 1000 (hd Tryd.f17 0) ⟨[(1,.ptr 1 0),(4,.win true syS 10 0 s.length),(5,.int .i64 (i:Nat))],[(1,.var [.bool li,.int .i64 m,.int .i64 o,.sl opS l]),(10,.row 51 syS s)]⟩ =
  (bc (decide ((i:Int)<(l.length:Int))) (R (hd Tryd.f17 1) { env:=[(1,.ptr 1 0),(4,.win true syS 10 0 s.length),(5,.int .i64 (i:Int)),(6,.int .i64 0)],blk:=[(1,.var [.bool li,.int .i64 m,.int .i64 o,.sl opS l]),(10,.row 51 syS s)] }) (Q [.win true syS 10 0 s.length,.int .i64 0] [(1,.var [.bool li,.int .i64 m,.int .i64 o,.sl opS l]),(10,.row 51 syS s)])):=by kernel_rfl
theorem q1j (li:Bool) (m o:Int) (l:List OpT) (s:List SyT) (i k:Nat) (Q:QT) (R:RT):sy tt G0 CSm Tryd.f17.ntmps Tryd.f17.results.toList Q (fun it S=>R it (qa4 [1,4,5,6] [1,10,37] S)) 1000 (hd Tryd.f17 1) ⟨[(1,.ptr 1 0),(4,.win true syS 10 0 s.length),(5,.int .i64 (i:Nat)),(6,.int .i64 (k:Nat))],[(1,.var [.bool li,.int .i64 m,.int .i64 o,.sl opS l]),(10,.row 51 syS s)]⟩ =
  ((0:Int)<=(i:Int) /\
 (i:Int)<(l.length:Int) /\
 bc (decide ((k:Int)<(gtO l (i:Int).toNat).2.2.1)) ((0:Int)<=(i:Int) /\
 (i:Int)<(l.length:Int) /\
 ctSb.pre ((gtO l (i:Int).toNat),(k:Int),()) /\
 0+1<=([(elO (Int.toNat (gtO l (i:Int).toNat).1) (gtO l (i:Int).toNat) (k:Int).toNat)]:List syS.D).length /\
 s.length=s.length /\
 (0:Nat)=(0:Nat) /\
 s.length+(([(elO (Int.toNat (gtO l (i:Int).toNat).1) (gtO l (i:Int).toNat) (k:Int).toNat)]:List syS.D)).length<2 ^ 30 /\
 (24:Nat)<=2 ^ 10 /\
 R (hd Tryd.f17 1) { env:=[(1,.ptr 1 0),(4,.win true syS 37 0 (s.length+(([(elO (Int.toNat (gtO l (i:Int).toNat).1) (gtO l (i:Int).toNat) (k:Int).toNat)]:List syS.D)).length)),(5,.int .i64 (i:Int)),(6,.int .i64 (i64.wrap ((k:Int)+1)))],blk:=[(1,.var [.bool li,.int .i64 m,.int .i64 o,.sl opS l]),(37,.row 51 syS (s++([(elO (Int.toNat (gtO l (i:Int).toNat).1) (gtO l (i:Int).toNat) (k:Int).toNat)]:List syS.D)))] }) (R (hd Tryd.f17 0) { env:=[(1,.ptr 1 0),(4,.win true syS 10 0 s.length),(5,.int .i64 (i64.wrap ((i:Int)+1))),(6,.int .i64 (k:Int))],blk:=[(1,.var [.bool li,.int .i64 m,.int .i64 o,.sl opS l]),(10,.row 51 syS s)] })):=by kernel_rfl
theorem q8q (k f n b i:Int) (d:List Int) (hp:q44 (k,f,n,b,d) i) (R:List Item->PS->Prop):sy tt G0 [] Tryd.f38.ntmps Tryd.f38.results.toList (QC ctSb ((k,f,n,b,d),i,())) R 1000 [.code (qae Tryd.f38)] (entry [opS,iI] ((k,f,n,b,d),i,())):=by
 obtain ⟨hk,h0,hd⟩:=hp;have out:∀ s,elO k.toNat ((k,f,n,b,d):OpT) i.toNat=s->ctSb.out ((k,f,n,b,d),i,())=[syV s]:=fun s e=>congrArg (fun s=>[syV s]) e
 have hi:((i.toNat:Nat):Int)=i:=by omega
 refine (vc_sb (k,f,n,b,d) i _ _).mpr ?_;rcases hk with e | e | e | e
 ·have e:k=1:=e;subst e;refine QC.flat (out (true,IntKind.i64.wrap (f+i),0) ?_) rfl rfl
  show ((true,IntKind.i64.wrap (f+(i.toNat:Int)),0):SyT)=_
  rw[hi]
 ·have e:k=2:=e;subst e;have hd2:i<(d.length:Int):=hd (.inl rfl);refine ⟨h0,hd2,QC.flat (out (true,IntKind.i64.wrap (f+i),gtB d i.toNat) ?_) rfl rfl⟩
  show ((true,IntKind.i64.wrap (f+(i.toNat:Int)),gtB d i.toNat):SyT)=_
  rw[hi]
 ·have e:k=3:=e;subst e;exact QC.flat (out _ rfl) rfl rfl
 ·have e:k=4:=e;subst e;have hd2:i<(d.length:Int):=hd (.inr rfl);exact ⟨h0,hd2,QC.flat (out _ rfl) rfl rfl⟩
theorem q4s:Held Tryd.prog G0 38 ctSb:=Held.run cx0 (fn:=Tryd.f38) rfl rfl ⟨by decide,by decide⟩ fun ⟨⟨k,f,n,b,d⟩,i,_⟩ hp=>q8q k f n b i d hp _
theorem qtk:CxOK Tryd.prog tt G0 CSm:=(cx0.cons q4s (fn:=Tryd.f38) rfl rfl rfl).cons qsp (fn:=Tryd.f37) rfl rfl rfl
section
variable (li:Bool) (m o:Int) (l:List OpT) (hc:(chkV (li,m,o,l)).2=0)
abbrev RsQ:List SV->List (Nat × LB)->Prop:=QC ctSym ((li,m,o,l),())
include hc
theorem qym (i:Nat) (hi:i<l.length) (nx:GD 17 Tryd.f17 (RsQ li m o l) (hd Tryd.f17 0) ⟨[(1,.ptr 1 0),(4,.win true syS 10 0 (symF (l.take (i+1))).length),(5,.int .i64 ((i+1:Nat):Int))],[(1,.var [.bool li,.int .i64 m,.int .i64 o,.sl opS l]),(10,.row 51 syS (symF (l.take (i+1))))]⟩) :
  ∀ (c k:Nat),l[i].2.2.1.toNat-k=c->k<=l[i].2.2.1.toNat ->
  GD 17 Tryd.f17 (RsQ li m o l) (hd Tryd.f17 1) ⟨[(1,.ptr 1 0),(4,.win true syS 10 0 (symF (l.take i)++(qay l[i].1.toNat l[i]).take k).length),(5,.int .i64 (i:Nat)),(6,.int .i64 (k:Nat))],[(1,.var [.bool li,.int .i64 m,.int .i64 o,.sl opS l]),(10,.row 51 syS (symF (l.take i)++(qay l[i].1.toNat l[i]).take k))]⟩:=by
 obtain ⟨hr,hs,ho,hl⟩:=qk3 hc;have hl:l.length<=4096:=hl;have hx:=hr _ (List.getElem_mem hi);have hlx:=qds hx;obtain ⟨k4,hcn⟩:=qfe hx;have sl:(qay l[i].1.toNat l[i]).length=cntO l[i].1.toNat l[i]:=qkr ..;have hsf:(symF (l.take i)).length<=65536:=by
  have h1:=qfs (m:=m) (l:=l.take i) fun y hy=>hr y (List.mem_of_mem_take hy)
  have h2:lenS l=lenS (l.take i)+lenS (l.drop i):=by rw[<- qzo,List.take_append_drop]
  have h3:=qhk (m:=m) (l:=l.drop i) fun y hy=>hr y (List.mem_of_mem_drop hy)
  have ho2:o<=65536:=ho.2;have hs2:lenS l=o:=hs;omega
 have ht:symF (l.take (i+1))=symF (l.take i)++qay l[i].1.toNat l[i]:=by
  rw[List.take_succ_eq_append_getElem hi,qjd];simp[symF]
 intro c
 induction c with
 | zero=>
  intro k hk hk2;have hk:k=l[i].2.2.1.toNat:=by omega
  have e:(qay l[i].1.toNat l[i]).take k=qay l[i].1.toNat l[i]:=List.take_of_length_le (by omega);rw[e,<- ht];refine qak qtk (q1j li m o l (symF (l.take (i+1))) i k _ _) ?_;rw[Int.toNat_natCast,qge hi,decide_eq_false (by omega),bc_f,IntWalk.i64_in ((i:Int)+1) (by omega)];exact ⟨by omega,by omega,nx.only ⟨rfl,rfl,rfl,trivial⟩ ⟨rfl,rfl,trivial⟩⟩
 | succ c ih=>
  intro k hk hk2;have hk3:k<cntO l[i].1.toNat l[i]:=by omega
  have nk:=ih (k+1) (by omega) (by omega);have e:(qay l[i].1.toNat l[i]).take (k+1)=(qay l[i].1.toNat l[i]).take k++[elO l[i].1.toNat l[i] k]:=by
   rw[List.take_succ_eq_append_getElem (by omega)]
   congr 2
   have:=qp3 (elO l[i].1.toNat l[i]) (cntO l[i].1.toNat l[i]) 0 k hk3;rw[Nat.zero_add] at this;have h2:(qay l[i].1.toNat l[i])[k]?=some (elO l[i].1.toNat l[i] k):=this;rw[List.getElem?_eq_getElem (by omega)] at h2;exact Option.some.inj h2
  rw[e,<- List.append_assoc] at nk;have tl:((qay l[i].1.toNat l[i]).take k).length<=65536:=by rw[List.length_take];omega
  have pre:q44 l[i] (k:Int):=⟨k4,by omega,fun h=>by
   have:cntO l[i].1.toNat l[i]=l[i].2.2.2.2.length:=by rcases h with h | h <;> (rw[h];rfl)
   omega⟩
  generalize hss:symF (l.take i)++(qay l[i].1.toNat l[i]).take k=ss at *;have hsl:ss.length<=131072:=by rw[<- hss,List.length_append];omega
  refine qak qtk (q1j li m o l ss i k _ _) ?_;rw[Int.toNat_natCast,qge hi,decide_eq_true (show (k:Int)<l[i].2.2.1 by omega),bc_t,IntWalk.i64_in ((k:Int)+1) (by omega),Int.toNat_natCast];refine ⟨by omega,by omega,by omega,by omega,pre,Nat.le_refl 1,rfl,rfl,?_,by decide,?_⟩
  ·show ss.length+1<2 ^ 30
   show ss.length+1<1073741824
   omega
  ·exact nk.onlyR [(10,37)] rfl ⟨rfl,by rw[List.length_append];rfl,rfl,rfl,trivial⟩ ⟨rfl,rfl,trivial⟩
theorem qyl:∀ (c i:Nat),l.length-i=c->i<=l.length ->
  GD 17 Tryd.f17 (RsQ li m o l) (hd Tryd.f17 0) ⟨[(1,.ptr 1 0),(4,.win true syS 10 0 (symF (l.take i)).length),(5,.int .i64 (i:Nat))],[(1,.var [.bool li,.int .i64 m,.int .i64 o,.sl opS l]),(10,.row 51 syS (symF (l.take i)))]⟩:=by
 have hv:symV (li,m,o,l)=(symF l,0):=by unfold symV;rw[if_pos hc]
 intro c
 induction c with
 | zero=>
  intro i hc2 hi;refine qak qtk (q1i li m o l (symF (l.take i)) i _ _) ?_;rw[decide_eq_false (by omega),bc_f,List.take_of_length_le (by omega)];refine qvi (e:=syS) (et:=51) (a:=10) (z:=0) (xs:=symF l) ?_ ?_ rfl rfl rfl
  ·show [SV.win true syS 0 0 (symV (li,m,o,l)).1.length,.int .i64 (symV (li,m,o,l)).2]=_
   rw[hv]
  ·show [LB.row 51 syS (symV (li,m,o,l)).1]=_
   rw[hv]
 | succ c ih=>
  intro i hc2 hi;have hil:i<l.length:=by omega
  refine qak qtk (q1i li m o l (symF (l.take i)) i _ _) ?_;rw[decide_eq_true (show (i:Int)<(l.length:Int) by omega),bc_t];have h:=qym li m o l hc i hil (ih (i+1) (by omega) (by omega)) _ 0 rfl (Nat.zero_le _);rw[List.take_zero,List.append_nil] at h;exact h.only ⟨rfl,rfl,rfl,rfl,trivial⟩ ⟨rfl,rfl,trivial⟩
end
theorem q9u {m N:Int}:∀ {l:List OpT} {left i:Int},(chkF m N l left i).2=0\/(chkF m N l left i).2=60
 | [],left,i=>by
  simp only[chkF];split
  ·exact .inr rfl
  ·exact .inl rfl
 | x::l,left,i=>by
  simp only[chkF];split
  ·exact .inr rfl
  ·split
   ·exact .inr rfl
   ·exact q9u
theorem q9t (p:PaT):(chkV p).2=0\/(chkV p).2=60:=by
 unfold chkV;split
 ·exact q9u
 ·exact .inr rfl
theorem qpg:Held Tryd.prog G0 17 ctSym:=Held.of qtk (fn:=Tryd.f17) rfl rfl ⟨by decide,by decide⟩ fun ⟨⟨li,m,o,l⟩,_⟩ _=>by
 refine qak qtk (vc_rs li m o l _ _) ⟨trivial,qaf (fun h=>?_) (fun h=>?_)⟩
 ·have h:¬ (chkV (li,m,o,l)).2=0:=by
   have h:(!decide ((chkV (li,m,o,l)).2=0))=true:=h;simpa using h
  have h6:(chkV (li,m,o,l)).2=60:=by rcases q9t (li,m,o,l) with q | q;exact absurd q h;exact q
  have hv:symV (li,m,o,l)=([],60):=by unfold symV;rw[if_neg h,h6]
  refine qvj (e:=syS) (et:=51) (z:=60) ?_ ?_ rfl (by decide)
  ·show [SV.win true syS 0 0 (symV (li,m,o,l)).1.length,.int .i64 (symV (li,m,o,l)).2]=_
   rw[hv];rfl
  ·show [LB.row 51 syS (symV (li,m,o,l)).1]=_
   rw[hv]
 ·have h:(chkV (li,m,o,l)).2=0:=by
   have h:(!decide ((chkV (li,m,o,l)).2=0))=false:=h;simpa using h
  exact (qyl li m o l h _ 0 rfl (Nat.zero_le _)).only ⟨rfl,rfl,rfl,trivial⟩ ⟨rfl,rfl,trivial⟩
abbrev gtA4 (l:List (List Int)) (i:Nat):List Int:=gt a4S l i
def ctSys:Ctr:=⟨[paS],fun _=>True,fun x=>[.win true syS 0 0 (sySy x.1).length],fun x=>[.row 51 syS (sySy x.1)]⟩
def C13:CV:=[(25,.inl ctSys),(26,.inl ctRw),(27,.inl ctOf6),(17,.inl ctSym)]
set_option maxRecDepth 100000
theorem q68 (li:Bool) (m o:Int) (l:List OpT) (Q:QT) (R:RT):sy tt G0 [(17,.inl ctSym)] Tryd.f25.ntmps Tryd.f25.results.toList Q R 1000 [.code (qae Tryd.f25)] (entry [paS] ((li,m,o,l),())) =
  (ctSym.pre ((li,m,o,l),()) /\
 Q [.win true syS 1028672 0 (symV (li,m,o,l)).1.length] [(1,.var [.bool li,.int .i64 m,.int .i64 o,.sl opS l]),(1028672,.row 51 syS (symV (li,m,o,l)).1)]):=by kernel_rfl
theorem q21 (z n:Int) (l:List (List Int)) (Q:QT) (R:RT):sy tt G0 C13 Tryd.f8.ntmps Tryd.f8.results.toList Q (fun it S=>R it (qa4 [1,2,4,5,6,7,8,9] [2,4,7,1057344] S)) 1000 [.code (qae Tryd.f8)] (entry [raS,iI] ((z,l),n,())) =
  (ctRw.pre (n,()) /\
 ctSys.pre ((rwV n),()) /\
 R (hd Tryd.f8 0) { env:=[(1,.int .i64 n),(2,.ptr 2 0),(4,.ptr 4 0),(5,.win true syS 1057344 0 (sySy (rwV n)).length),(6,.int .i64 0)],blk:=[(2,.var [.int .u8 z,.sl a4S l]),(4,.var [.bool false,.int .i64 0,.int .i64 0,.nils]),(1057344,.row 51 syS (sySy (rwV n)))] }):=by kernel_rfl
def qh9 (z n:Int) (l:List (List Int)) (s:List SyT):List (Nat × LB):=[(2,.var [.int .u8 z,.sl a4S l]),(4,.var [.bool (ofRV (winL syS (0:Nat) s.length s) n).1.1,.int .i64 (ofRV (winL syS (0:Nat) s.length s) n).1.2.1,.int .i64 (ofRV (winL syS (0:Nat) s.length s) n).1.2.2.1,.sl opS (ofRV (winL syS (0:Nat) s.length s) n).1.2.2.2]),(10,.var [.bool (ofRV (winL syS (0:Nat) s.length s) n).1.1,.int .i64 (ofRV (winL syS (0:Nat) s.length s) n).1.2.1,.int .i64 (ofRV (winL syS (0:Nat) s.length s) n).1.2.2.1,.sl opS (ofRV (winL syS (0:Nat) s.length s) n).1.2.2.2])]
theorem q1e (z n:Int) (l:List (List Int)) (s:List SyT) (i:Int) (Q:QT) (R:RT):sy tt G0 C13 Tryd.f8.ntmps Tryd.f8.results.toList Q (fun it S=>R it (qa4 [1,2,4,5,6,7,8,9] [2,4,7,1057344] S)) 1000 (hd Tryd.f8 0) ⟨[(1,.int .i64 n),(2,.ptr 2 0),(4,.ptr 4 0),(5,.win true syS 1057344 0 s.length),(6,.int .i64 i)],[(2,.var [.int .u8 z,.sl a4S l]),(4,.var [.bool false,.int .i64 0,.int .i64 0,.nils]),(1057344,.row 51 syS s)]⟩ =
  (bc (decide (i<(l.length:Int))) (bc (decide (i<5)) (bc (decide ((0:Int)<n)) ((0:Int)<=i /\
 i<(l.length:Int) /\
 (0:Int)<=0 /\
 (0:Int)<(↑(4:Nat):Int) /\
 0<4 /\
 n≠0 /\
 R (hd Tryd.f8 1) { env:=[(1,.int .i64 n),(2,.ptr 2 0),(4,.ptr 4 0),(5,.win true syS 1057344 0 s.length),(6,.int .i64 i),(7,.ptr 7 0),(8,.int .i64 ((i64.wrap (gtB (gtA4 l i.toNat) (0))).tmod n)),(9,.int .i64 0)],blk:=[(2,.var [.int .u8 z,.sl a4S l]),(4,.var [.bool false,.int .i64 0,.int .i64 0,.nils]),(7,.var [.arr (4:Nat) uB (gtA4 l i.toNat)]),(1057344,.row 51 syS s)] }) (0+s.length<=s.length /\
 0+s.length<=s.length /\
 ctOf6.pre (winL syS 0 s.length s,n,()) /\
 Q [.agg [.bool (ofRV (winL syS 0 s.length s) n).1.1,.int .i64 (ofRV (winL syS 0 s.length s) n).1.2.1,.int .i64 (ofRV (winL syS 0 s.length s) n).1.2.2.1,.sl opS (ofRV (winL syS 0 s.length s) n).1.2.2.2]] (qh9 z n l s))) (false=false /\
 0+s.length<=s.length /\
 0+s.length<=s.length /\
 ctOf6.pre (winL syS 0 s.length s,n,()) /\
 Q [.agg [.bool (ofRV (winL syS 0 s.length s) n).1.1,.int .i64 (ofRV (winL syS 0 s.length s) n).1.2.1,.int .i64 (ofRV (winL syS 0 s.length s) n).1.2.2.1,.sl opS (ofRV (winL syS 0 s.length s) n).1.2.2.2]] (qh9 z n l s))) (false=false /\
 false=false /\
 0+s.length<=s.length /\
 0+s.length<=s.length /\
 ctOf6.pre (winL syS 0 s.length s,n,()) /\
 Q [.agg [.bool (ofRV (winL syS 0 s.length s) n).1.1,.int .i64 (ofRV (winL syS 0 s.length s) n).1.2.1,.int .i64 (ofRV (winL syS 0 s.length s) n).1.2.2.1,.sl opS (ofRV (winL syS 0 s.length s) n).1.2.2.2]] (qh9 z n l s))):=by kernel_rfl
theorem q1f (z n:Int) (l:List (List Int)) (s:List SyT) (i:Int) (a k:Int) (c:List Int) (Q:QT) (R:RT):sy tt G0 C13 Tryd.f8.ntmps Tryd.f8.results.toList Q (fun it S=>R it (qa4 [1,2,4,5,6,7,8,9] [2,4,7,1057344] S)) 1000 (hd Tryd.f8 1) ⟨[(1,.int .i64 n),(2,.ptr 2 0),(4,.ptr 4 0),(5,.win true syS 1057344 0 s.length),(6,.int .i64 i),(7,.ptr 7 0),(8,.int .i64 a),(9,.int .i64 k)],[(2,.var [.int .u8 z,.sl a4S l]),(4,.var [.bool false,.int .i64 0,.int .i64 0,.nils]),(7,.var [.arr 4 uB c]),(1057344,.row 51 syS s)]⟩ =
  ((0:Int)<=1 /\
 (1:Int)<(↑(4:Nat):Int) /\
 1<4 /\
 (64:Int)≠0 /\
 (3:Int)≠0 /\
 bc (decide (k<i64.wrap ((1:Int)+(i64.wrap (u8.wrap (Int.tdiv (gtB c (1)) (64:Int)))).tmod (3:Int)))) (bc (decide (i64.wrap (a+k)<n)) ((0:Int)<=1 /\
 (1:Int)<(↑(4:Nat):Int) /\
 1<4 /\
 (4:Int)≠0 /\
 bc (decide (Int.tmod (gtB c (1)) (4:Int)=(0:Int))) ((0:Int)<=2 /\
 (2:Int)<(↑(4:Nat):Int) /\
 2<4 /\
 (0:Int)<=i64.wrap (a+k) /\
 i64.wrap (a+k)<(s.length:Int) /\
 0+(i64.wrap (a+k)).toNat<s.length /\
 R (hd Tryd.f8 1) { env:=[(1,.int .i64 n),(2,.ptr 2 0),(4,.ptr 4 0),(5,.win true syS 1057344 0 s.length),(6,.int .i64 i),(7,.ptr 7 0),(8,.int .i64 a),(9,.int .i64 (i64.wrap (k+1)))],blk:=[(2,.var [.int .u8 z,.sl a4S l]),(4,.var [.bool false,.int .i64 0,.int .i64 0,.nils]),(7,.var [.arr (4:Nat) uB c]),(1057344,.row 51 syS (s.set (0+(i64.wrap (a+k)).toNat) (false,(0:Int),gtB c (2))))] }) (bc (decide (Int.tmod (gtB c (1)) (4:Int)=(1:Int))) ((0:Int)<=3 /\
 (3:Int)<(↑(4:Nat):Int) /\
 3<4 /\
 (0:Int)<=i64.wrap (a+k) /\
 i64.wrap (a+k)<(s.length:Int) /\
 0+(i64.wrap (a+k)).toNat<s.length /\
 R (hd Tryd.f8 1) { env:=[(1,.int .i64 n),(2,.ptr 2 0),(4,.ptr 4 0),(5,.win true syS 1057344 0 s.length),(6,.int .i64 i),(7,.ptr 7 0),(8,.int .i64 a),(9,.int .i64 (i64.wrap (k+1)))],blk:=[(2,.var [.int .u8 z,.sl a4S l]),(4,.var [.bool false,.int .i64 0,.int .i64 0,.nils]),(7,.var [.arr (4:Nat) uB c]),(1057344,.row 51 syS (s.set (0+(i64.wrap (a+k)).toNat) (true,i64.wrap (a+k),gtB c (3))))] }) (bc (decide (Int.tmod (gtB c (1)) (4:Int)=(2:Int))) ((0:Int)<=2 /\
 (2:Int)<(↑(4:Nat):Int) /\
 2<4 /\
 n≠0 /\
 (0:Int)<=i64.wrap (a+k) /\
 i64.wrap (a+k)<(s.length:Int) /\
 0+(i64.wrap (a+k)).toNat<s.length /\
 R (hd Tryd.f8 1) { env:=[(1,.int .i64 n),(2,.ptr 2 0),(4,.ptr 4 0),(5,.win true syS 1057344 0 s.length),(6,.int .i64 i),(7,.ptr 7 0),(8,.int .i64 a),(9,.int .i64 (i64.wrap (k+1)))],blk:=[(2,.var [.int .u8 z,.sl a4S l]),(4,.var [.bool false,.int .i64 0,.int .i64 0,.nils]),(7,.var [.arr (4:Nat) uB c]),(1057344,.row 51 syS (s.set (0+(i64.wrap (a+k)).toNat) (true,(i64.wrap (gtB c (2))).tmod n,(0:Int))))] }) ((0:Int)<=2 /\
 (2:Int)<(↑(4:Nat):Int) /\
 2<4 /\
 n≠0 /\
 (0:Int)<=3 /\
 (3:Int)<(↑(4:Nat):Int) /\
 3<4 /\
 (3:Int)≠0 /\
 (0:Int)<=i64.wrap (a+k) /\
 i64.wrap (a+k)<(s.length:Int) /\
 0+(i64.wrap (a+k)).toNat<s.length /\
 R (hd Tryd.f8 1) { env:=[(1,.int .i64 n),(2,.ptr 2 0),(4,.ptr 4 0),(5,.win true syS 1057344 0 s.length),(6,.int .i64 i),(7,.ptr 7 0),(8,.int .i64 a),(9,.int .i64 (i64.wrap (k+1)))],blk:=[(2,.var [.int .u8 z,.sl a4S l]),(4,.var [.bool false,.int .i64 0,.int .i64 0,.nils]),(7,.var [.arr (4:Nat) uB c]),(1057344,.row 51 syS (s.set (0+(i64.wrap (a+k)).toNat) (true,(i64.wrap (i64.wrap (gtB c (2))+k)).tmod n,Int.tmod (gtB c (3)) (3:Int))))] })))) (R (hd Tryd.f8 0) { env:=[(1,.int .i64 n),(2,.ptr 2 0),(4,.ptr 4 0),(5,.win true syS 1057344 0 s.length),(6,.int .i64 (i64.wrap (i+1))),(7,.ptr 7 0),(8,.int .i64 a),(9,.int .i64 k)],blk:=[(2,.var [.int .u8 z,.sl a4S l]),(4,.var [.bool false,.int .i64 0,.int .i64 0,.nils]),(7,.var [.arr (4:Nat) uB c]),(1057344,.row 51 syS s)] })) (false=false /\
 R (hd Tryd.f8 0) { env:=[(1,.int .i64 n),(2,.ptr 2 0),(4,.ptr 4 0),(5,.win true syS 1057344 0 s.length),(6,.int .i64 (i64.wrap (i+1))),(7,.ptr 7 0),(8,.int .i64 a),(9,.int .i64 k)],blk:=[(2,.var [.int .u8 z,.sl a4S l]),(4,.var [.bool false,.int .i64 0,.int .i64 0,.nils]),(7,.var [.arr (4:Nat) uB c]),(1057344,.row 51 syS s)] })):=by kernel_rfl
theorem qqq:Held Tryd.prog G0 25 ctSys:=Held.run (cx0.cons qpg (fn:=Tryd.f17) rfl rfl rfl) (fn:=Tryd.f25) rfl rfl ⟨by decide,by decide⟩ fun ⟨⟨li,m,o,l⟩,_⟩ _=>(q68 li m o l _ _).mpr ⟨trivial,QC.row0 (e:=syS) (xs:=sySy (li,m,o,l)) (et:=51) (a:=1028672) rfl rfl rfl rfl rfl⟩
theorem qtl:CxOK Tryd.prog tt G0 C13:=(((cx0.cons qpg (fn:=Tryd.f17) rfl rfl rfl).cons qza (fn:=Tryd.f27) rfl rfl rfl).cons q4t (fn:=Tryd.f26) rfl rfl rfl).cons qqq (fn:=Tryd.f25) rfl rfl rfl
def mkP (l:List SyT):PaT:=(false,(l.length:Int),(l.length:Int),ofO l)
def qz8 (l:List SyT):Prop:=l.length<=4096/\∀ s∈l,sOK l.length s=true
theorem q2d {l:List SyT} (h:qz8 l):ofRV l l.length=(mkP l,0)/\(chkV (mkP l)).2=0/\symF (ofO l)=l:=q85 h.2 (by omega) (by have:=h.1;omega) h.1
def P11 (n:Int) (v:PaT):Prop:=∃ l,qz8 l/\(l.length:Int)=n/\v=mkP l
abbrev Q13 (v:PaT):List SV->List (Nat × LB)->Prop:=fun rs _=>MtL (fun _=>none) [paV v] rs
theorem rw_ok:∀ n:Nat,n<13->(symV (rwV n)).1.length=n/\∀ s∈(symV (rwV n)).1,sOK n s=true:=by decide +kernel
theorem q1w {l:List SyT} {m:Int} (h:∀ s∈l,sOK m s=true) {i:Nat} {x:SyT} (hx:sOK m x=true):∀ s∈l.set i x,sOK m s=true:=fun s hs=>by
 rcases List.mem_or_eq_of_mem_set hs with h1 | rfl
 ·exact h s h1
 ·exact hx
section
variable (z:Int) (n:Nat) (l:List (List Int)) (hl:qvn l) (hn:n<13) (hll:l.length<9223372036854775808)
abbrev GD8 (v:PaT) (it:List Item) (S:PS):Prop:=GD 8 Tryd.f8 (Q13 v) it S
abbrev sO (s:List SyT) (i:Nat):PS:=⟨[(1,.int .i64 (n:Int)),(2,.ptr 2 0),(4,.ptr 4 0),(5,.win true syS 1057344 0 s.length),(6,.int .i64 (i:Nat))],[(2,.var [.int .u8 z,.sl a4S l]),(4,.var [.bool false,.int .i64 0,.int .i64 0,.nils]),(1057344,.row 51 syS s)]⟩
abbrev sI (s:List SyT) (i:Nat) (a k:Nat) (c:List Int):PS:=⟨[(1,.int .i64 (n:Int)),(2,.ptr 2 0),(4,.ptr 4 0),(5,.win true syS 1057344 0 s.length),(6,.int .i64 (i:Nat)),(7,.ptr 7 0),(8,.int .i64 (a:Nat)),(9,.int .i64 (k:Nat))],[(2,.var [.int .u8 z,.sl a4S l]),(4,.var [.bool false,.int .i64 0,.int .i64 0,.nils]),(7,.var [.arr 4 uB c]),(1057344,.row 51 syS s)]⟩
def inv8 (s:List SyT):Prop:=s.length=n/\∀ x∈s,sOK n x=true
include hl hn hll
theorem q1p {s:List SyT} (hs:inv8 n s) {i:Nat} (hi:¬ (i<l.length/\i<5/\0<n)):GD8 (mkP s) (hd Tryd.f8 0) (sO z n l s i):=by
 have _:=And.intro hl hll;have hg:qz8 s:=⟨by rw[hs.1];omega,by rw[hs.1];exact hs.2⟩;obtain ⟨e,_,_⟩:=q2d hg;rw[hs.1] at e;have fin:0+s.length<=s.length/\0+s.length<=s.length/\ctOf6.pre (winL syS 0 s.length s,(n:Int),())/\∀ blk,Q13 (mkP s) [SV.agg [.bool (ofRV (winL syS 0 s.length s) n).1.1,.int .i64 (ofRV (winL syS 0 s.length s) n).1.2.1,.int .i64 (ofRV (winL syS 0 s.length s) n).1.2.2.1,.sl opS (ofRV (winL syS 0 s.length s) n).1.2.2.2]] blk:=by
  rw[winA,e];exact ⟨by omega,by omega,(show s.length<1099511627776 by rw[hs.1];omega),fun blk=>⟨_,_,rfl,⟨_,rfl,_,_,rfl,rfl,_,_,rfl,rfl,_,_,rfl,rfl,_,_,rfl,.inl rfl,rfl⟩,rfl⟩⟩
 obtain ⟨f1,f2,f3,f4⟩:=fin;refine qak qtl (q1e z n l s i _ _) (qaf (fun h=>qaf (fun h2=>qaf (fun h3=>?_) (fun _=>⟨f1,f2,f3,f4 _⟩)) (fun _=>⟨rfl,f1,f2,f3,f4 _⟩)) (fun _=>⟨rfl,rfl,f1,f2,f3,f4 _⟩));have h:=of_decide_eq_true h;have h2:=of_decide_eq_true h2;have h3:=of_decide_eq_true h3;omega
theorem qx8 (hn0:0<n) (i:Nat) (c:List Int) (hc:q5a c) (a:Nat) (ha:a<n) (nx:∀ s,inv8 n s->∃ v,P11 n v/\GD8 v (hd Tryd.f8 0) (sO z n l s (i+1))) (hi:i+1<9223372036854775808) :
  ∀ (f k:Nat),k<=3->n-k=f->∀ s,inv8 n s->∃ v,P11 n v/\GD8 v (hd Tryd.f8 1) (sI z n l s i a k c):=by
 have _:=And.intro hl hll;have hb1:=hc 1;have hb2:=hc 2;have hb3:=hc 3;have w:∀ x:Int,0<=x->x<100000->i64.wrap x=x:=fun x h1 h2=>IntWalk.i64_in x (by omega)
 have t64:0<=Int.tdiv (gtB c 1) 64/\Int.tdiv (gtB c 1) 64<4:=by
  rw[Int.tdiv_eq_ediv_of_nonneg hb1.1];omega
 have wu:u8.wrap (Int.tdiv (gtB c 1) 64)=Int.tdiv (gtB c 1) 64:=IntWalk.u8_in _ (by omega);have t3:0<=Int.tmod (Int.tdiv (gtB c 1) 64) 3/\Int.tmod (Int.tdiv (gtB c 1) 64) 3<3:=⟨Int.tmod_nonneg _ t64.1,Int.tmod_lt_of_pos _ (by omega)⟩;have hcnt:∀ k:Nat,(k:Int)<1+Int.tmod (Int.tdiv (gtB c 1) 64) 3->k<3:=fun k h=>by omega
 have tm4:0<=Int.tmod (gtB c 1) 4/\Int.tmod (gtB c 1) 4<4:=⟨Int.tmod_nonneg _ hb1.1,Int.tmod_lt_of_pos _ (by omega)⟩;have tn2:0<=Int.tmod (gtB c 2) n/\Int.tmod (gtB c 2) n<n:=⟨Int.tmod_nonneg _ hb2.1,Int.tmod_lt_of_pos _ (by omega)⟩;have out:∀ {k:Nat} {s:List SyT} {v:PaT},GD8 v (hd Tryd.f8 0) (sO z n l s (i+1))->¬ ((k:Int)<1+Int.tmod (Int.tdiv (gtB c 1) 64) 3/\(a:Int)+k<n)->k<=3->GD8 v (hd Tryd.f8 1) (sI z n l s i a k c):=fun {k s v} g hk h3=>by
  refine qak qtl (q1f z n l s i a k c _ _) ?_;rw[wu,w _ t64.1 (by omega),w (1+_) (by omega) (by omega),IntWalk.i64_in ((i:Int)+1) (by omega),w ((a:Int)+k) (by omega) (by omega)];refine ⟨by omega,by omega,by omega,by omega,by omega,qaf (fun h=>qaf (fun h2=>?_) (fun _=>?_)) (fun _=>⟨rfl,?_⟩)⟩
  ·exact absurd ⟨of_decide_eq_true h,of_decide_eq_true h2⟩ hk
  ·exact g.only ⟨rfl,rfl,rfl,rfl,rfl,trivial⟩ ⟨rfl,rfl,rfl,trivial⟩
  ·exact g.only ⟨rfl,rfl,rfl,rfl,rfl,trivial⟩ ⟨rfl,rfl,rfl,trivial⟩
 intro f
 induction f with
 | zero=>
  intro k hk3 hk s hs;obtain ⟨v,hv,g⟩:=nx s hs;exact ⟨v,hv,out g (by omega) hk3⟩
 | succ f ih=>
  intro k hk3 hk s hs;by_cases q1:(k:Int)<1+Int.tmod (Int.tdiv (gtB c 1) 64) 3/\(a:Int)+k<n
  ·obtain ⟨q1,q2⟩:=q1;have e0:((a:Int)+(k:Int)).toNat=a+k:=by omega
   have hk2:=hcnt k q1;have nxt:∀ x,sOK n x=true->∃ v,P11 n v/\GD8 v (hd Tryd.f8 1) ⟨[(1,.int .i64 (n:Int)),(2,.ptr 2 0),(4,.ptr 4 0),(5,.win true syS 1057344 0 s.length),(6,.int .i64 (i:Nat)),(7,.ptr 7 0),(8,.int .i64 (a:Nat)),(9,.int .i64 (i64.wrap ((k:Int)+1)))],[(2,.var [.int .u8 z,.sl a4S l]),(4,.var [.bool false,.int .i64 0,.int .i64 0,.nils]),(7,.var [.arr 4 uB c]),(1057344,.row 51 syS (s.set (0+((a:Int)+(k:Int)).toNat) x))]⟩:=fun x hx=>by
    obtain ⟨v,hv,g⟩:=ih (k+1) (by omega) (by omega) (s.set (0+((a:Int)+(k:Int)).toNat) x) ⟨by rw[List.length_set];exact hs.1,q1w hs.2 hx⟩;refine ⟨v,hv,?_⟩;have g:=g;rw[w ((k:Int)+1) (by omega) (by omega)];simp only[sI,List.length_set] at g;exact g
   have go:∀ {v},((Int.tmod (gtB c 1) 4=0->GD8 v (hd Tryd.f8 1) ⟨[(1,.int .i64 (n:Int)),(2,.ptr 2 0),(4,.ptr 4 0),(5,.win true syS 1057344 0 s.length),(6,.int .i64 (i:Nat)),(7,.ptr 7 0),(8,.int .i64 (a:Nat)),(9,.int .i64 (i64.wrap ((k:Int)+1)))],[(2,.var [.int .u8 z,.sl a4S l]),(4,.var [.bool false,.int .i64 0,.int .i64 0,.nils]),(7,.var [.arr 4 uB c]),(1057344,.row 51 syS (s.set (0+((a:Int)+(k:Int)).toNat) (false,(0:Int),gtB c 2)))]⟩)
     /\ (Int.tmod (gtB c 1) 4=1->GD8 v (hd Tryd.f8 1) ⟨[(1,.int .i64 (n:Int)),(2,.ptr 2 0),(4,.ptr 4 0),(5,.win true syS 1057344 0 s.length),(6,.int .i64 (i:Nat)),(7,.ptr 7 0),(8,.int .i64 (a:Nat)),(9,.int .i64 (i64.wrap ((k:Int)+1)))],[(2,.var [.int .u8 z,.sl a4S l]),(4,.var [.bool false,.int .i64 0,.int .i64 0,.nils]),(7,.var [.arr 4 uB c]),(1057344,.row 51 syS (s.set (0+((a:Int)+(k:Int)).toNat) (true,(a:Int)+(k:Int),gtB c 3)))]⟩)
     /\ (Int.tmod (gtB c 1) 4=2->GD8 v (hd Tryd.f8 1) ⟨[(1,.int .i64 (n:Int)),(2,.ptr 2 0),(4,.ptr 4 0),(5,.win true syS 1057344 0 s.length),(6,.int .i64 (i:Nat)),(7,.ptr 7 0),(8,.int .i64 (a:Nat)),(9,.int .i64 (i64.wrap ((k:Int)+1)))],[(2,.var [.int .u8 z,.sl a4S l]),(4,.var [.bool false,.int .i64 0,.int .i64 0,.nils]),(7,.var [.arr 4 uB c]),(1057344,.row 51 syS (s.set (0+((a:Int)+(k:Int)).toNat) (true,Int.tmod (gtB c 2) n,0)))]⟩)
     /\ (Int.tmod (gtB c 1) 4=3->GD8 v (hd Tryd.f8 1) ⟨[(1,.int .i64 (n:Int)),(2,.ptr 2 0),(4,.ptr 4 0),(5,.win true syS 1057344 0 s.length),(6,.int .i64 (i:Nat)),(7,.ptr 7 0),(8,.int .i64 (a:Nat)),(9,.int .i64 (i64.wrap ((k:Int)+1)))],[(2,.var [.int .u8 z,.sl a4S l]),(4,.var [.bool false,.int .i64 0,.int .i64 0,.nils]),(7,.var [.arr 4 uB c]),(1057344,.row 51 syS (s.set (0+((a:Int)+(k:Int)).toNat) (true,Int.tmod (gtB c 2+k) n,Int.tmod (gtB c 3) 3)))]⟩))
     -> GD8 v (hd Tryd.f8 1) (sI z n l s i a k c):=fun {v} g=>by
    obtain ⟨g0,g1,g2,g3⟩:=g;refine qak qtl (q1f z n l s i a k c _ _) ?_;rw[wu,w _ t64.1 (by omega),w (1+_) (by omega) (by omega),w ((a:Int)+k) (by omega) (by omega),w (gtB c 2) (by omega) (by omega),w (gtB c 2+_) (by omega) (by omega)];have hsl:=hs.1;refine ⟨by omega,by omega,by omega,by omega,by omega,?_⟩;rw[decide_eq_true q1,bc_t,decide_eq_true q2,bc_t];refine ⟨by omega,by omega,by omega,by omega,qaf (fun h=>⟨by omega,by omega,by omega,by omega,by omega,by omega,g0 (of_decide_eq_true h)⟩) (fun h=>qaf (fun h2=>⟨by omega,by omega,by omega,by omega,by omega,by omega,g1 (of_decide_eq_true h2)⟩) (fun h2=>qaf (fun h3=>⟨by omega,by omega,by omega,by omega,by omega,by omega,by omega,g2 (of_decide_eq_true h3)⟩) (fun h3=>⟨by omega,by omega,by omega,by omega,by omega,by omega,by omega,by omega,by omega,by omega,by omega,g3 ?_⟩)))⟩;have h:=of_decide_eq_false h;have h2:=of_decide_eq_false h2;have h3:=of_decide_eq_false h3;omega
   have hq:Int.tmod (gtB c 1) 4=0\/Int.tmod (gtB c 1) 4=1\/Int.tmod (gtB c 1) 4=2\/Int.tmod (gtB c 1) 4=3:=by omega
   rcases hq with e | e | e | e
   ·obtain ⟨v,hv,g⟩:=nxt (false,0,gtB c 2) rfl;exact ⟨v,hv,go ⟨fun _=>g,fun h=>by omega,fun h=>by omega,fun h=>by omega⟩⟩
   ·obtain ⟨v,hv,g⟩:=nxt (true,(a:Int)+k,gtB c 3) (by simp[sOK];omega);exact ⟨v,hv,go ⟨fun h=>by omega,fun _=>g,fun h=>by omega,fun h=>by omega⟩⟩
   ·obtain ⟨v,hv,g⟩:=nxt (true,Int.tmod (gtB c 2) n,0) (by simp[sOK];omega);exact ⟨v,hv,go ⟨fun h=>by omega,fun h=>by omega,fun _=>g,fun h=>by omega⟩⟩
   ·have tk:0<=Int.tmod (gtB c 2+k) n/\Int.tmod (gtB c 2+k) n<n:=⟨Int.tmod_nonneg _ (by omega),Int.tmod_lt_of_pos _ (by omega)⟩;obtain ⟨v,hv,g⟩:=nxt (true,Int.tmod (gtB c 2+k) n,Int.tmod (gtB c 3) 3) (by simp[sOK];omega);exact ⟨v,hv,go ⟨fun h=>by omega,fun h=>by omega,fun h=>by omega,fun _=>g⟩⟩
  ·obtain ⟨v,hv,g⟩:=nx s hs;exact ⟨v,hv,out g q1 hk3⟩
theorem qx7:∀ (f i:Nat),l.length-i=f->i<=l.length->∀ s,inv8 n s->∃ v,P11 n v/\GD8 v (hd Tryd.f8 0) (sO z n l s i):=by
 intro f
 induction f with
 | zero=>
  intro i hf hi s hs;exact ⟨mkP s,⟨s,⟨by rw[hs.1];omega,by rw[hs.1];exact hs.2⟩,by rw[hs.1],rfl⟩,q1p z n l hl hn hll hs (by omega)⟩
 | succ f ih=>
  intro i hf hi s hs;by_cases q:i<l.length/\i<5/\0<n
  ·have hb:q5a (gtA4 l i):=hl i;have t0:0<=Int.tmod (gtB (gtA4 l i) 0) n/\Int.tmod (gtB (gtA4 l i) 0) n<n:=⟨Int.tmod_nonneg _ (hb 0).1,Int.tmod_lt_of_pos _ (by omega)⟩;obtain ⟨v,hv,g⟩:=qx8 z n l hl hn hll q.2.2 i (gtA4 l i) hb (Int.tmod (gtB (gtA4 l i) 0) n).toNat (by omega) (fun s hs=>ih (i+1) (by omega) (by omega) s hs) (by omega) n 0 (by omega) (by omega) s hs;refine ⟨v,hv,qak qtl (q1e z n l s i _ _) ?_⟩;rw[decide_eq_true (show (i:Int)<(l.length:Int) by omega),bc_t,decide_eq_true (show (i:Int)<5 by omega),bc_t,decide_eq_true (show (0:Int)<(n:Int) by omega),bc_t,Int.toNat_natCast,IntWalk.i64_in (gtB (gtA4 l i) 0) (by have:=hb 0;omega)];refine ⟨by omega,by omega,by omega,by omega,by omega,by omega,?_⟩;have e:((Int.tmod (gtB (gtA4 l i) 0) n).toNat:Int)=Int.tmod (gtB (gtA4 l i) 0) n:=by omega
   simp only[sI,e] at g;exact g.only ⟨rfl,rfl,rfl,rfl,rfl,rfl,rfl,rfl,trivial⟩ ⟨rfl,rfl,rfl,rfl,trivial⟩
  ·exact ⟨mkP s,⟨s,⟨by rw[hs.1];omega,by rw[hs.1];exact hs.2⟩,by rw[hs.1],rfl⟩,q1p z n l hl hn hll hs q⟩
theorem sz_ex:∃ v,P11 n v/\GD8 v [.code (qae Tryd.f8)] (entry [raS,iI] ((z,l),(n:Int),())):=by
 have hr:inv8 n (sySy (rwV n)):=rw_ok n hn;obtain ⟨v,hv,g⟩:=qx7 z n l hl hn hll _ 0 rfl (Nat.zero_le _) (sySy (rwV n)) hr;exact ⟨v,hv,qak qtl (q21 z n l _ _) ⟨trivial,trivial,g.only ⟨rfl,rfl,rfl,rfl,rfl,trivial⟩ ⟨rfl,rfl,rfl,trivial⟩⟩⟩
end
open Classical in
noncomputable def S11V (z n:Int) (l:List (List Int)):PaT:=if h:∃ v,P11 n v/\GD8 v [.code (qae Tryd.f8)] (entry [raS,iI] ((z,l),n,())) then Classical.choose h else (false,0,0,[])
def qq6 (n:Int) (l:List (List Int)):Prop:=qvn l/\0<=n/\n<13/\l.length<9223372036854775808
theorem qxm {z n:Int} {l:List (List Int)} (h:qq6 n l):P11 n (S11V z n l)/\GD8 (S11V z n l) [.code (qae Tryd.f8)] (entry [raS,iI] ((z,l),n,())):=by
 obtain ⟨h1,h2,h3,h4⟩:=h;have k:=sz_ex z n.toNat l h1 (by omega) h4;rw[Int.toNat_of_nonneg h2] at k;unfold S11V;rw[dif_pos k];exact Classical.choose_spec k
noncomputable def ctS11:Ctr:=⟨[raS,iI],fun x=>qq6 x.2.1 x.1.2,fun x=>[paV (S11V x.1.1 x.2.1 x.1.2)],fun _=>[]⟩
theorem qqy:Held Tryd.prog G0 8 ctS11:=Held.of qtl (fn:=Tryd.f8) rfl rfl ⟨by decide,by decide⟩ fun ⟨⟨z,l⟩,n,_⟩ hp=>(qxm hp).2.post fun rs blk h=>QC.mt h rfl
theorem vc_sr (x y:List (Int × Int)) (Q:QT) (R:RT):sy tt G0 [] Tryd.f14.ntmps Tryd.f14.results.toList Q R 1000 [.code (qae Tryd.f14)] (entry [.sl rgS,.sl rgS] (x,y,())) =
  (bc (decide ((x.length:Int)≠(y.length:Int))) (Q [.bool false] []) (R (hd Tryd.f14 0) { env:=[(0,.sl rgS x),(1,.sl rgS y),(4,.bool false),(5,.int .i64 0),(6,.sl rgS x),(7,.int .i64 (x.length:Int)),(8,.sl rgS y),(9,.int .i64 (y.length:Int)),(10,.bool (decide ((x.length:Int)≠(y.length:Int))))],blk:=[] })):=by kernel_rfl
theorem q1g (x y:List (Int × Int)) (i:Int) (Q:QT) (R:RT):sy tt G0 [] Tryd.f14.ntmps Tryd.f14.results.toList Q R 1000 (hd Tryd.f14 0) ⟨[(0,.sl rgS x),(1,.sl rgS y),(5,.int .i64 i)],[]⟩ =
  (bc (decide (i<(x.length:Int))) ((0:Int)<=i /\
 i<(x.length:Int) /\
 (0:Int)<=i /\
 i<(y.length:Int) /\
 bc (!decide ([(gtR x i.toNat).1,(gtR x i.toNat).2]=[(gtR y i.toNat).1,(gtR y i.toNat).2])) (Q [.bool false] []) (R (hd Tryd.f14 0) { env:=[(0,.sl rgS x),(1,.sl rgS y),(5,.int .i64 (IntKind.i64.wrap (i+1))),(11,.int .i64 i),(12,.sl rgS x),(13,.int .i64 (x.length:Int)),(14,.bool (decide (i<(x.length:Int)))),(15,.int .i64 i),(16,.int .i64 (IntKind.i64.wrap (i+1))),(17,.sl rgS x),(18,.int .i64 i),(19,.elv rgS (gtR x i.toNat)),(20,.agg [.int .i64 (gtR x i.toNat).1,.int .i64 (gtR x i.toNat).2]),(21,.sl rgS y),(22,.int .i64 i),(23,.elv rgS (gtR y i.toNat)),(24,.agg [.int .i64 (gtR y i.toNat).1,.int .i64 (gtR y i.toNat).2]),(25,.bool !decide ([(gtR x i.toNat).1,(gtR x i.toNat).2]=[(gtR y i.toNat).1,(gtR y i.toNat).2]))],blk:=[] })) (Q [.bool true] [])):=by kernel_rfl
abbrev z4:PaT:=(false,0,0,[])
def cmV (p q:PaT):PaT × PaT × Int:=match decide ((qah [p,q]).2≠0) with
 | true=>(z4,z4,(qah [p,q]).2)
 | false=>match disB (sySy p) (sySy q) with
  | true=>(z4,z4,110)
  | false=>match disB (sySy q) (sySy p) with
   | true=>(z4,z4,110)
   | false=>match decide ((foV q).2≠0) with
    | true=>(z4,z4,(foV q).2)
    | false=>match decide ((foV p).2≠0) with
     | true=>(z4,z4,(foV p).2)
     | false=>((foV q).1,(foV p).1,0)
def ctCm:Ctr:=⟨[paS,paS],fun _=>True,fun x=>[paV (cmV x.1 x.2.1).1,paV (cmV x.1 x.2.1).2.1,.int .i64 (cmV x.1 x.2.1).2.2],fun _=>[]⟩
theorem qtu (z:Int):MtL (fun _=>none) [paV z4,paV z4,.int .i64 z] [.agg [.bool false,.int .i64 0,.int .i64 0,.nils],.agg [.bool false,.int .i64 0,.int .i64 0,.nils],.int .i64 z]:=⟨_,_,rfl,⟨_,rfl,_,_,rfl,rfl,_,_,rfl,rfl,_,_,rfl,rfl,_,_,rfl,.inr ⟨rfl,rfl⟩,rfl⟩,_,_,rfl,⟨_,rfl,_,_,rfl,rfl,_,_,rfl,rfl,_,_,rfl,rfl,_,_,rfl,.inr ⟨rfl,rfl⟩,rfl⟩,_,_,rfl,rfl,rfl⟩
theorem p2_mt (p q:PaT) (z:Int):MtL (fun _=>none) [paV p,paV q,.int .i64 z] [.agg [.bool p.1,.int .i64 p.2.1,.int .i64 p.2.2.1,.sl opS p.2.2.2],.agg [.bool q.1,.int .i64 q.2.1,.int .i64 q.2.2.1,.sl opS q.2.2.2],.int .i64 z]:=⟨_,_,rfl,⟨_,rfl,_,_,rfl,rfl,_,_,rfl,rfl,_,_,rfl,rfl,_,_,rfl,.inl rfl,rfl⟩,_,_,rfl,⟨_,rfl,_,_,rfl,rfl,_,_,rfl,rfl,_,_,rfl,rfl,_,_,rfl,.inl rfl,rfl⟩,_,_,rfl,rfl,rfl⟩
theorem q50 (li:Bool) (m o:Int) (l:List OpT) (li2:Bool) (m2 o2:Int) (l2:List OpT) (R:List Item->PS->Prop):sy tt G0 C11 Tryd.f40.ntmps Tryd.f40.results.toList (QC ctCm ((li,m,o,l),(li2,m2,o2,l2),())) R 1000 [.code (qae Tryd.f40)] (entry [paS,paS] ((li,m,o,l),(li2,m2,o2,l2),())):=by
 have fin:∀ {v:PaT × PaT × Int} {rs blk},cmV (li,m,o,l) (li2,m2,o2,l2)=v->MtL (fun _=>none) [paV v.1,paV v.2.1,.int .i64 v.2.2] rs->QC ctCm ((li,m,o,l),(li2,m2,o2,l2),()) rs blk:=fun {v rs blk} h k=>by
  refine QC.mt ?_ rfl
  show MtL _ [paV (cmV (li,m,o,l) (li2,m2,o2,l2)).1,paV (cmV (li,m,o,l) (li2,m2,o2,l2)).2.1,.int .i64 (cmV (li,m,o,l) (li2,m2,o2,l2)).2.2] _
  rw[h];exact k
 refine (q7s li m o l li2 m2 o2 l2 _ _).mpr ⟨Nat.le_refl _,⟨by simp,by simp⟩,qaf (fun h=>?_) (fun h=>?_)⟩
 ·refine fin (v:=(z4,z4,(qah [(li,m,o,l),(li2,m2,o2,l2)]).2)) ?_ (qtu _);unfold cmV;rw[show decide ((qah [(li,m,o,l),(li2,m2,o2,l2)]).2≠0)=true from h]
 ·have h0:(qah [(li,m,o,l),(li2,m2,o2,l2)]).2=0:=by have:=of_decide_eq_false h;simpa using this
  obtain ⟨h1,h2,h3,h4,_⟩:=sy2 h0;have hY:=ev_Y h2;have hY2:=ev_Y h3;have la:=(qiv h2).1;have lb:=(qiv h3).1;have hle:(sySy (li,m,o,l)).length=(sySy (li2,m2,o2,l2)).length:=by have:=h4;omega
  have e1:decide ((qah [(li,m,o,l),(li2,m2,o2,l2)]).2≠0)=false:=h;rw[h1];simp only[Nat.add_zero,Nat.zero_add,qww,q6b];refine ⟨by omega,by simp,by simp,by omega,by simp,by simp,⟨hY2,Nat.le_of_eq hle⟩,qaf (fun k=>⟨trivial,?_⟩) (fun k=>⟨by omega,by simp,by simp,by omega,by simp,by simp,⟨hY,Nat.le_of_eq hle.symm⟩,?_⟩)⟩
  ·exact fin (by unfold cmV;rw[e1,k]) (qtu _)
  ·refine qaf (fun k2=>?_) (fun k2=>?_)
   ·have k2:disB (sySy (li2,m2,o2,l2)) (sySy (li,m,o,l))=true:=k2;exact fin (by unfold cmV;rw[e1,k,k2]) (qtu _)
   ·have k2:disB (sySy (li2,m2,o2,l2)) (sySy (li,m,o,l))=false:=k2;refine ⟨trivial,qaf (fun k3=>?_) (fun k3=>⟨trivial,qaf (fun k4=>?_) (fun k4=>?_)⟩)⟩
    ·exact fin (v:=(z4,z4,(foV (li2,m2,o2,l2)).2)) (by unfold cmV;rw[e1,k,k2,k3]) (qtu _)
    ·exact fin (v:=(z4,z4,(foV (li,m,o,l)).2)) (by unfold cmV;rw[e1,k,k2,k3,k4]) (qtu _)
    ·exact fin (v:=((foV (li2,m2,o2,l2)).1,(foV (li,m,o,l)).1,0)) (by unfold cmV;rw[e1,k,k2,k3,k4]) (p2_mt _ _ _)
theorem qzl:Held Tryd.prog G0 40 ctCm:=Held.run cx11 (fn:=Tryd.f40) rfl rfl ⟨by decide,by decide⟩ fun ⟨⟨li,m,o,l⟩,⟨li2,m2,o2,l2⟩,⟨⟩⟩ _=>q50 li m o l li2 m2 o2 l2 _
theorem qlx {l:List (Int × Int)} {i:Nat} (h:i<l.length):gtR l i=l[i]:=gtE (e:=rgS) h
theorem q8u {s t:Int × Int}:([s.1,s.2]=[t.1,t.2])↔s=t:=by
 obtain ⟨a,b⟩:=s;obtain ⟨c,d⟩:=t;simp
def ctSr:Ctr:=⟨[.sl rgS,.sl rgS],fun x=>List.length x.1<1099511627776,fun x=>[.bool (decide ((show List (Int × Int) from x.1)=x.2.1))],fun _=>[]⟩
theorem q4o (x y:List (Int × Int)) (hl:x.length<1099511627776) (he:x.length=y.length):∀ (k i:Nat),x.length-i=k->i<=x.length->x.take i=y.take i ->
  GD 14 Tryd.f14 (fun rs _=>rs=[.bool (decide (x=y))]) (hd Tryd.f14 0) ⟨[(0,.sl rgS x),(1,.sl rgS y),(5,.int .i64 (i:Nat))],[]⟩:=by
 intro k
 induction k with
 | zero=>
  intro i hk hi ht;refine qaj cx0 _ _ _ ((q1g x y i _ _).mpr ?_);rw[decide_eq_false (show ¬ (i:Int)<(x.length:Int) by omega),bc_f];rw[List.take_of_length_le (by omega),List.take_of_length_le (by omega)] at ht
  show [SV.bool true]=_
  rw[decide_eq_true ht]
 | succ k ih=>
  intro i hk hi ht;have hx:i<x.length:=by omega
  have hy:i<y.length:=by omega
  refine qaj cx0 _ _ _ ((q1g x y i _ _).mpr ?_);rw[decide_eq_true (show (i:Int)<(x.length:Int) by omega),bc_t,Int.toNat_natCast,qlx hx,qlx hy,IntWalk.i64_in ((i:Int)+1) (by omega)];refine ⟨by omega,by omega,by omega,by omega,qaf (fun h=>?_) (fun h=>?_)⟩
  ·have h:¬ x[i]=y[i]:=fun q=>by
    rw[decide_eq_true (q8u.2 q)] at h;cases h
   show [SV.bool false]=_
   rw[decide_eq_false (fun q=>h (by simp only[q]))]
  ·have h:x[i]=y[i]:=by
    have h:(!decide ([x[i].1,x[i].2]=[y[i].1,y[i].2]))=false:=h;rw[Bool.not_eq_false'] at h;exact q8u.1 (of_decide_eq_true h)
   exact (ih (i+1) (by omega) (by omega) (by rw[List.take_succ_eq_append_getElem hx,List.take_succ_eq_append_getElem hy,ht,h])).only ⟨rfl,rfl,rfl,trivial⟩ trivial
theorem quv:Held Tryd.prog G0 14 ctSr:=by
 refine Held.run cx0 (fn:=Tryd.f14) rfl rfl ⟨by decide,by decide⟩ ?_;rintro ⟨x,y,⟨⟩⟩ hp;replace hp:x.length<1099511627776:=hp;refine (vc_sr x y _ _).mpr (qaf (fun h=>?_) (fun h=>?_))
 ·have h:(x.length:Int)≠y.length:=of_decide_eq_true h;refine QC.flat ?_ rfl rfl
  show [SV.bool (decide (x=y))]=_
  rw[decide_eq_false (fun q=>h (by rw[q]))]
 ·have h:¬ (x.length:Int)≠y.length:=of_decide_eq_false h;have h:x.length=y.length:=by omega
  exact ((q4o x y hp h _ 0 rfl (by omega) rfl).post fun rs blk hq=>QC.flat (by rw[hq];rfl) rfl (by rw[hq];rfl)).only ⟨rfl,rfl,rfl,trivial⟩ trivial
abbrev exS:Sh:=.pair paS (.pair paS iI)
def CR1:CV:=[(14,.inl ctSr)]
theorem cxR1:CxOK Tryd.prog tt G0 CR1:=cx0.cons quv (fn:=Tryd.f14) rfl rfl rfl
def CR2:CV:=[(12,.inl ctSm)]
theorem cxR2:CxOK Tryd.prog tt G0 CR2:=cx0.cons quw (fn:=Tryd.f12) rfl rfl rfl
def CR3:CV:=[(40,.inl ctCm)]
theorem cxR3:CxOK Tryd.prog tt G0 CR3:=cx0.cons qzl (fn:=Tryd.f40) rfl rfl rfl
noncomputable def CR4:CV:=[(8,.inl ctS11)]
theorem cxR4:CxOK Tryd.prog tt G0 CR4:=cx0.cons qqy (fn:=Tryd.f8) rfl rfl rfl
set_option maxRecDepth 100000
theorem q3n (z:Int) (l:List (List Int)) (Q:QT) (R:RT):sy tt G0 CR4 Tryd.f7.ntmps Tryd.f7.results.toList Q R 1000 [.code (qae Tryd.f7)] (entry [raS] ((z,l),())) =
  ((13:Int)≠0 /\
 ctS11.pre ((z,l),(i64.wrap z).tmod (13:Int),()) /\
 Q [.agg [.bool (S11V z ((i64.wrap z).tmod (13:Int)) l).1,.int .i64 (S11V z ((i64.wrap z).tmod (13:Int)) l).2.1,.int .i64 (S11V z ((i64.wrap z).tmod (13:Int)) l).2.2.1,.sl opS (S11V z ((i64.wrap z).tmod (13:Int)) l).2.2.2]] [(1,.var [.int .u8 z,.sl (Sh.arr (4:Nat) uB) l]),(2,.var [.bool (S11V z ((i64.wrap z).tmod (13:Int)) l).1,.int .i64 (S11V z ((i64.wrap z).tmod (13:Int)) l).2.1,.int .i64 (S11V z ((i64.wrap z).tmod (13:Int)) l).2.2.1,.sl opS (S11V z ((i64.wrap z).tmod (13:Int)) l).2.2.2])]):=by kernel_rfl
theorem q7c (l:List (Int × Int)) (e:Int) (w:Int × Int) (Q:QT) (R:RT):sy tt G0 CR1 Tryd.f24.ntmps Tryd.f24.results.toList Q R 1000 [.code (qae Tryd.f24)] (entry [.sl rgS,iI,rgS] (l,e,w,())) =
  (bc (decide ([w.1,w.2]=[(0:Int),(0:Int)])) (bc (decide (e=(0:Int))) (Q [.bool (decide ((l.length:Int)=(0:Int)))] [(5,.var [.int .i64 w.1,.int .i64 w.2])]) (false=false /\
 Q [.bool false] [(5,.var [.int .i64 w.1,.int .i64 w.2])])) (bc (decide (e=(0:Int))) (0+1<=([(w.1,w.2)]:List rgS.D).length /\
 ctSr.pre (l,([(w.1,w.2)]:List rgS.D),()) /\
 Q [.bool (decide ((have this:=l;this)=([(w.1,w.2)]:List rgS.D)))] [(5,.var [.int .i64 w.1,.int .i64 w.2]),(22,.row 69 rgS ([(w.1,w.2)]:List rgS.D))]) (false=false /\
 Q [.bool false] [(5,.var [.int .i64 w.1,.int .i64 w.2])]))):=by kernel_rfl
def qia (p q p2 q2:PaT) (e e2:Int):List (Nat × LB):=[(2,.var [.bool p.1,.int .i64 p.2.1,.int .i64 p.2.2.1,.sl opS p.2.2.2,.bool q.1,.int .i64 q.2.1,.int .i64 q.2.2.1,.sl opS q.2.2.2,.int .i64 e]),(3,.var [.bool p2.1,.int .i64 p2.2.1,.int .i64 p2.2.2.1,.sl opS p2.2.2.2,.bool q2.1,.int .i64 q2.2.1,.int .i64 q2.2.2.1,.sl opS q2.2.2.2,.int .i64 e2])]
theorem q7a (p q p2 q2:PaT) (e e2:Int) (Q:QT) (R:RT):sy tt G0 CR2 Tryd.f19.ntmps Tryd.f19.results.toList Q R 1000 [.code (qae Tryd.f19)] (entry [exS,exS] ((p,q,e),(p2,q2,e2),())) =
  (ctSm.pre (p,p2,()) /\
 bc (smB p p2) (ctSm.pre (q,q2,()) /\
 bc (bif true then smB q q2 else false) (Q [.bool (decide (e=e2))] (qia p q p2 q2 e e2)) (false=false /\
 Q [.bool false] (qia p q p2 q2 e e2))) (false=false /\
 false=false /\
 Q [.bool false] (qia p q p2 q2 e e2))):=by kernel_rfl
theorem q71 (p q:PaT) (Q:QT) (R:RT):sy tt G0 CR3 Tryd.f20.ntmps Tryd.f20.results.toList Q R 1000 [.code (qae Tryd.f20)] (entry [paS,paS] (p,q,())) =
  (ctCm.pre (p,q,()) /\
 Q [.agg [.bool (cmV p q).1.1,.int .i64 (cmV p q).1.2.1,.int .i64 (cmV p q).1.2.2.1,.sl opS (cmV p q).1.2.2.2,.bool (cmV p q).2.1.1,.int .i64 (cmV p q).2.1.2.1,.int .i64 (cmV p q).2.1.2.2.1,.sl opS (cmV p q).2.1.2.2.2,.int .i64 (cmV p q).2.2]] [(2,.var [.bool p.1,.int .i64 p.2.1,.int .i64 p.2.2.1,.sl opS p.2.2.2]),(3,.var [.bool q.1,.int .i64 q.2.1,.int .i64 q.2.2.1,.sl opS q.2.2.2]),(4,.var [.bool (cmV p q).1.1,.int .i64 (cmV p q).1.2.1,.int .i64 (cmV p q).1.2.2.1,.sl opS (cmV p q).1.2.2.2,.bool (cmV p q).2.1.1,.int .i64 (cmV p q).2.1.2.1,.int .i64 (cmV p q).2.1.2.2.1,.sl opS (cmV p q).2.1.2.2.2,.int .i64 (cmV p q).2.2]),(5,.var [.bool (cmV p q).1.1,.int .i64 (cmV p q).1.2.1,.int .i64 (cmV p q).1.2.2.1,.sl opS (cmV p q).1.2.2.2]),(6,.var [.bool (cmV p q).2.1.1,.int .i64 (cmV p q).2.1.2.1,.int .i64 (cmV p q).2.1.2.2.1,.sl opS (cmV p q).2.1.2.2.2])]):=by kernel_rfl
theorem p1_mt (p:PaT):MtL (fun _=>none) [paV p] [.agg [.bool p.1,.int .i64 p.2.1,.int .i64 p.2.2.1,.sl opS p.2.2.2]]:=⟨_,_,rfl,⟨_,rfl,_,_,rfl,rfl,_,_,rfl,rfl,_,_,rfl,rfl,_,_,rfl,.inl rfl,rfl⟩,rfl⟩
def qvm (z:Int) (l:List (List Int)):Prop:=(0<=z/\z<256)/\qvn l/\l.length<9223372036854775808
noncomputable def q87 (z:Int) (l:List (List Int)):PaT:=S11V z ((IntKind.i64.wrap z).tmod 13) l
theorem q2f {z:Int} {l:List (List Int)} (h:qvm z l):qq6 ((IntKind.i64.wrap z).tmod 13) l:=by
 obtain ⟨⟨h1,h2⟩,h3,h4⟩:=h;rw[IntWalk.i64_in z (by omega)];exact ⟨h3,Int.tmod_nonneg _ h1,Int.tmod_lt_of_pos _ (by omega),h4⟩
noncomputable def ctM11:Ctr:=⟨[raS],fun x=>qvm x.1.1 x.1.2,fun x=>[paV (q87 x.1.1 x.1.2)],fun _=>[]⟩
theorem qzm:Held Tryd.prog G0 7 ctM11:=Held.run cxR4 (fn:=Tryd.f7) rfl rfl ⟨by decide,by decide⟩ fun ⟨⟨z,l⟩,_⟩ hp=>(q3n z l _ _).mpr ⟨by omega,q2f hp,QC.mt (p1_mt _) rfl⟩
def rgsV (l:List (Int × Int)) (e:Int) (w:Int × Int):Bool:=match decide ([w.1,w.2]=[(0:Int),0]) with
 | true=>match decide (e=0) with
  | true=>decide ((l.length:Int)=0)
  | false=>false
 | false=>match decide (e=0) with
  | true=>decide (l=[(w.1,w.2)])
  | false=>false
def ctRgs:Ctr:=⟨[.sl rgS,iI,rgS],fun x=>List.length x.1<1099511627776,fun x=>[.bool (rgsV x.1 x.2.1 x.2.2.1)],fun _=>[]⟩
theorem q4y (l:List (Int × Int)) (e:Int) (w:Int × Int) (hl:l.length<1099511627776) (R:List Item->PS->Prop):sy tt G0 CR1 Tryd.f24.ntmps Tryd.f24.results.toList (QC ctRgs (l,e,w,())) R 1000 [.code (qae Tryd.f24)] (entry [.sl rgS,iI,rgS] (l,e,w,())):=by
 have fin:∀ {v:Bool} {blk},rgsV l e w=v->QC ctRgs (l,e,w,()) [.bool v] blk:=fun {v blk} h=>QC.flat (by show [SV.bool (rgsV l e w)]=[SV.bool v];rw[h]) rfl rfl
 refine (q7c l e w _ _).mpr (qaf (fun h=>qaf (fun h2=>fin ?_) (fun h2=>⟨rfl,fin ?_⟩)) (fun h=>qaf (fun h2=>⟨by simp,hl,fin ?_⟩) (fun h2=>⟨rfl,fin ?_⟩))) <;> (unfold rgsV;rw[h,h2])
theorem qyp:Held Tryd.prog G0 24 ctRgs:=Held.run cxR1 (fn:=Tryd.f24) rfl rfl ⟨by decide,by decide⟩ fun ⟨l,e,w,_⟩ hp=>q4y l e w hp _
def smeV (x y:exS.D):Bool:=match smB x.1 y.1 with
 | true=>match smB x.2.1 y.2.1 with
  | true=>decide (x.2.2=y.2.2)
  | false=>false
 | false=>false
def q13 (x:exS.D):Prop:=x.1.2.2.2.length<1099511627776/\x.2.1.2.2.2.length<1099511627776
def ctSme:Ctr:=⟨[exS,exS],fun x=>q13 x.1,fun x=>[.bool (smeV x.1 x.2.1)],fun _=>[]⟩
theorem q4q (p q p2 q2:PaT) (e e2:Int) (hp:q13 (p,q,e)) (R:List Item->PS->Prop):sy tt G0 CR2 Tryd.f19.ntmps Tryd.f19.results.toList (QC ctSme ((p,q,e),(p2,q2,e2),())) R 1000 [.code (qae Tryd.f19)] (entry [exS,exS] ((p,q,e),(p2,q2,e2),())):=by
 have fin:∀ {v:Bool} {blk},smeV (p,q,e) (p2,q2,e2)=v->QC ctSme ((p,q,e),(p2,q2,e2),()) [.bool v] blk:=fun {v blk} h=>QC.flat (by show [SV.bool (smeV (p,q,e) (p2,q2,e2))]=[SV.bool v];rw[h]) rfl rfl
 refine (q7a p q p2 q2 e e2 _ _).mpr ⟨hp.1,qaf (fun h=>⟨hp.2,?_⟩) (fun h=>⟨rfl,rfl,fin ?_⟩)⟩
 ·refine qaf (fun h2=>fin ?_) (fun h2=>⟨rfl,fin ?_⟩)
  ·have h2:smB q q2=true:=h2;unfold smeV;simp only[h,h2]
  ·have h2:smB q q2=false:=h2;unfold smeV;simp only[h,h2]
 ·unfold smeV;simp only[h]
theorem qyh:Held Tryd.prog G0 19 ctSme:=Held.run cxR2 (fn:=Tryd.f19) rfl rfl ⟨by decide,by decide⟩ fun ⟨⟨p,q,e⟩,⟨p2,q2,e2⟩,_⟩ hp=>q4q p q p2 q2 e e2 hp _
def exV (x:PaT × PaT × Int):SV:=.agg [.bool x.1.1,.int .i64 x.1.2.1,.int .i64 x.1.2.2.1,.sl opS x.1.2.2.2,.bool x.2.1.1,.int .i64 x.2.1.2.1,.int .i64 x.2.1.2.2.1,.sl opS x.2.1.2.2.2,.int .i64 x.2.2]
def ctExc:Ctr:=⟨[paS,paS],fun _=>True,fun x=>[exV (cmV x.1 x.2.1)],fun _=>[]⟩
theorem q0d:Held Tryd.prog G0 20 ctExc:=Held.run cxR3 (fn:=Tryd.f20) rfl rfl ⟨by decide,by decide⟩ fun ⟨p,q,_⟩ _=>(q71 p q _ _).mpr ⟨trivial,QC.mt ⟨_,_,rfl,⟨_,rfl,_,_,rfl,rfl,_,_,rfl,rfl,_,_,rfl,rfl,_,_,rfl,.inl rfl,_,_,rfl,rfl,_,_,rfl,rfl,_,_,rfl,rfl,_,_,rfl,.inl rfl,_,_,rfl,rfl,rfl⟩,rfl⟩ rfl⟩
theorem q66  (Q:QT) (R:RT):sy tt G0 [] Tryd.f23.ntmps Tryd.f23.results.toList Q R 1000 [.code (qae Tryd.f23)] (entry [] ()) =
  (0+1<=([(9:Int)]:List uB.D).length /\
 0+1<=([(9:Int)]:List uB.D).length /\
 0+1<=([(1:Int)]:List uB.D).length /\
 0+1<=([(1:Int)]:List uB.D).length /\
 0+3<=((((List.replicate (3:Nat) opS.dflt).set (0:Nat) ((1:Int),(0:Int),(1:Int),(0:Int),[])).set (1:Nat) ((4:Int),(0:Int),(1:Int),(0:Int),([(9:Int)]:List uB.D))).set (2:Nat) ((1:Int),(2:Int),(2:Int),(0:Int),[])).length /\
 0+3<=((((List.replicate (3:Nat) opS.dflt).set (0:Nat) ((1:Int),(0:Int),(1:Int),(0:Int),[])).set (1:Nat) ((4:Int),(0:Int),(1:Int),(0:Int),([(9:Int)]:List uB.D))).set (2:Nat) ((1:Int),(2:Int),(2:Int),(0:Int),[])).length /\
 0+3<=((((List.replicate (3:Nat) opS.dflt).set (0:Nat) ((1:Int),(0:Int),(1:Int),(0:Int),[])).set (1:Nat) ((4:Int),(0:Int),(1:Int),(0:Int),([(9:Int)]:List uB.D))).set (2:Nat) ((1:Int),(2:Int),(2:Int),(0:Int),[])).length /\
 0+3<=((((List.replicate (3:Nat) opS.dflt).set (0:Nat) ((1:Int),(0:Int),(1:Int),(0:Int),[])).set (1:Nat) ((4:Int),(0:Int),(1:Int),(0:Int),([(9:Int)]:List uB.D))).set (2:Nat) ((1:Int),(2:Int),(2:Int),(0:Int),[])).length /\
 0+2<=(((List.replicate (2:Nat) opS.dflt).set (0:Nat) ((1:Int),(0:Int),(3:Int),(0:Int),[])).set (1:Nat) ((2:Int),(0:Int),(1:Int),(0:Int),([(1:Int)]:List uB.D))).length /\
 0+2<=(((List.replicate (2:Nat) opS.dflt).set (0:Nat) ((1:Int),(0:Int),(3:Int),(0:Int),[])).set (1:Nat) ((2:Int),(0:Int),(1:Int),(0:Int),([(1:Int)]:List uB.D))).length /\
 0+2<=(((List.replicate (2:Nat) opS.dflt).set (0:Nat) ((1:Int),(0:Int),(3:Int),(0:Int),[])).set (1:Nat) ((2:Int),(0:Int),(1:Int),(0:Int),([(1:Int)]:List uB.D))).length /\
 0+2<=(((List.replicate (2:Nat) opS.dflt).set (0:Nat) ((1:Int),(0:Int),(3:Int),(0:Int),[])).set (1:Nat) ((2:Int),(0:Int),(1:Int),(0:Int),([(1:Int)]:List uB.D))).length /\
 0+2<=(((List.replicate (2:Nat) opS.dflt).set (0:Nat) ((1:Int),(0:Int),(1:Int),(0:Int),[])).set (1:Nat) ((3:Int),(0:Int),(3:Int),(9:Int),[])).length /\
 0+2<=(((List.replicate (2:Nat) opS.dflt).set (0:Nat) ((1:Int),(0:Int),(1:Int),(0:Int),[])).set (1:Nat) ((3:Int),(0:Int),(3:Int),(9:Int),[])).length /\
 Q [.arr (3:Nat) paS (((List.set (Sh.arr (3:Nat) paS).dflt (0:Nat) (false,(4:Int),(4:Int),winL opS 0 3 ((((List.replicate (3:Nat) opS.dflt).set (0:Nat) ((1:Int),(0:Int),(1:Int),(0:Int),[])).set (1:Nat) ((4:Int),(0:Int),(1:Int),(0:Int),([(9:Int)]:List uB.D))).set (2:Nat) ((1:Int),(2:Int),(2:Int),(0:Int),[])))).set (1:Nat) (false,(4:Int),(4:Int),winL opS 0 2 (((List.replicate (2:Nat) opS.dflt).set (0:Nat) ((1:Int),(0:Int),(3:Int),(0:Int),[])).set (1:Nat) ((2:Int),(0:Int),(1:Int),(0:Int),([(1:Int)]:List uB.D))))).set (2:Nat) (false,(4:Int),(4:Int),winL opS 0 2 (((List.replicate (2:Nat) opS.dflt).set (0:Nat) ((1:Int),(0:Int),(1:Int),(0:Int),[])).set (1:Nat) ((3:Int),(0:Int),(3:Int),(9:Int),[]))))] [(0,.var [.arr (3:Nat) paS (((List.set (Sh.arr (3:Nat) paS).dflt (0:Nat) (false,(4:Int),(4:Int),winL opS 0 3 ((((List.replicate (3:Nat) opS.dflt).set (0:Nat) ((1:Int),(0:Int),(1:Int),(0:Int),[])).set (1:Nat) ((4:Int),(0:Int),(1:Int),(0:Int),([(9:Int)]:List uB.D))).set (2:Nat) ((1:Int),(2:Int),(2:Int),(0:Int),[])))).set (1:Nat) (false,(4:Int),(4:Int),winL opS 0 2 (((List.replicate (2:Nat) opS.dflt).set (0:Nat) ((1:Int),(0:Int),(3:Int),(0:Int),[])).set (1:Nat) ((2:Int),(0:Int),(1:Int),(0:Int),([(1:Int)]:List uB.D))))).set (2:Nat) (false,(4:Int),(4:Int),winL opS 0 2 (((List.replicate (2:Nat) opS.dflt).set (0:Nat) ((1:Int),(0:Int),(1:Int),(0:Int),[])).set (1:Nat) ((3:Int),(0:Int),(3:Int),(9:Int),[]))))]),(1,.var [.bool false,.int .i64 4,.int .i64 4,.sl opS (winL opS 0 3 ((((List.replicate (3:Nat) opS.dflt).set (0:Nat) ((1:Int),(0:Int),(1:Int),(0:Int),[])).set (1:Nat) ((4:Int),(0:Int),(1:Int),(0:Int),([(9:Int)]:List uB.D))).set (2:Nat) ((1:Int),(2:Int),(2:Int),(0:Int),[])))]),(2,.var [.bool false,.int .i64 4,.int .i64 4,.sl opS (winL opS 0 2 (((List.replicate (2:Nat) opS.dflt).set (0:Nat) ((1:Int),(0:Int),(3:Int),(0:Int),[])).set (1:Nat) ((2:Int),(0:Int),(1:Int),(0:Int),([(1:Int)]:List uB.D))))])]):=by kernel_rfl
def thrL:List PaT:=[(false,4,4,[(1,0,1,0,[]),(4,0,1,0,[9]),(1,2,2,0,[])]),(false,4,4,[(1,0,3,0,[]),(2,0,1,0,[1])]),(false,4,4,[(1,0,1,0,[]),(3,0,3,9,[])])]
def ctThr:Ctr:=⟨[],fun _=>True,fun _=>[.arr 3 paS thrL],fun _=>[]⟩
theorem qx5:Held Tryd.prog G0 23 ctThr:=Held.run cx0 (fn:=Tryd.f23) rfl rfl ⟨by decide,by decide⟩ fun _ _=>(q66 _ _).mpr (by
 repeat' first
  | (refine And.intro ?_ ?_)
  | (exact QC.flat rfl rfl rfl)
  | decide)
def CSan:CV:=[(23,.inl ctThr),(21,.inl ctTch),(22,.inl ctRd),(13,.inl ctCl),(10,.inl ctMg),(24,.inl ctRgs),(12,.inl ctSm),(20,.inl ctExc),(19,.inl ctSme)]
theorem cxSan:CxOK Tryd.prog tt G0 CSan:=((((((((cx0.cons qyh (fn:=Tryd.f19) rfl rfl rfl).cons q0d (fn:=Tryd.f20) rfl rfl rfl).cons quw (fn:=Tryd.f12) rfl rfl rfl).cons qyp (fn:=Tryd.f24) rfl rfl rfl).cons qrj (fn:=Tryd.f10) rfl rfl rfl).cons qrk (fn:=Tryd.f13) rfl rfl rfl).cons qzk (fn:=Tryd.f22) rfl rfl rfl).cons qwg (fn:=Tryd.f21) rfl rfl rfl).cons qx5 (fn:=Tryd.f23) rfl rfl rfl
set_option maxRecDepth 100000
theorem q3m  (Q:QT) (R:RT):sy tt G0 CSan Tryd.f6.ntmps Tryd.f6.results.toList Q R 1000 [.code (qae Tryd.f6)] (entry [] ()) =
  (ctThr.pre () /\
 (0:Int)<=0 /\
 (0:Int)<(↑(3:Nat):Int) /\
 0<3 /\
 ctTch.pre ((gtP thrL (0)),()) /\
 (0:Int)<=2 /\
 (2:Int)<(↑(3:Nat):Int) /\
 2<3 /\
 ctTch.pre ((gtP thrL (2)),()) /\
 (0:Int)<=1 /\
 (1:Int)<(↑(3:Nat):Int) /\
 1<3 /\
 ctRd.pre ((gtP thrL (1)),()) /\
 (0:Int)<=0 /\
 (0:Int)<(↑(3:Nat):Int) /\
 0<3 /\
 (0:Int)<=2 /\
 (2:Int)<(↑(3:Nat):Int) /\
 2<3 /\
 ctCl.pre ((gtP thrL (0)),(gtP thrL (2)),()) /\
 (0:Int)<=1 /\
 (1:Int)<(↑(3:Nat):Int) /\
 1<3 /\
 (0:Int)<=2 /\
 (2:Int)<(↑(3:Nat):Int) /\
 2<3 /\
 ctCl.pre ((gtP thrL (1)),(gtP thrL (2)),()) /\
 (0:Int)<=0 /\
 (0:Int)<(↑(3:Nat):Int) /\
 0<3 /\
 (0:Int)<=1 /\
 (1:Int)<(↑(3:Nat):Int) /\
 1<3 /\
 ctMg.pre ((gtP thrL (0)),(gtP thrL (1)),()) /\
 (0:Int)<=0 /\
 (0:Int)<(↑(3:Nat):Int) /\
 0<3 /\
 ctMg.pre ((gtP thrL (0)),(false,(0:Int),(0:Int),[]),()) /\
 (0:Int)<=1 /\
 (1:Int)<(↑(3:Nat):Int) /\
 1<3 /\
 (0:Int)<=2 /\
 (2:Int)<(↑(3:Nat):Int) /\
 2<3 /\
 ctMg.pre ((gtP thrL (1)),(gtP thrL (2)),()) /\
 0+1<=([(9:Int)]:List uB.D).length /\
 0+1<=([(9:Int)]:List uB.D).length /\
 0+1<=([(1:Int)]:List uB.D).length /\
 0+1<=([(1:Int)]:List uB.D).length /\
 0+(tchV (gtP thrL (0))).1.length<=(tchV (gtP thrL (0))).1.length /\
 ctRgs.pre (winL rgS 0 (tchV (gtP thrL (0))).1.length (tchV (gtP thrL (0))).1,(tchV (gtP thrL (0))).2,((1:Int),(2:Int)),()) /\
 0+(tchV (gtP thrL (2))).1.length<=(tchV (gtP thrL (2))).1.length /\
 ctRgs.pre (winL rgS 0 (tchV (gtP thrL (2))).1.length (tchV (gtP thrL (2))).1,(tchV (gtP thrL (2))).2,((1:Int),(4:Int)),()) /\
 0+(rdV (gtP thrL (1))).1.length<=(rdV (gtP thrL (1))).1.length /\
 ctRgs.pre (winL rgS 0 (rdV (gtP thrL (1))).1.length (rdV (gtP thrL (1))).1,(rdV (gtP thrL (1))).2,((0:Int),(1:Int)),()) /\
 0+(clV (gtP thrL (0)) (gtP thrL (2))).1.length<=(clV (gtP thrL (0)) (gtP thrL (2))).1.length /\
 ctRgs.pre (winL rgS 0 (clV (gtP thrL (0)) (gtP thrL (2))).1.length (clV (gtP thrL (0)) (gtP thrL (2))).1,(clV (gtP thrL (0)) (gtP thrL (2))).2,((0:Int),(0:Int)),()) /\
 0+(clV (gtP thrL (1)) (gtP thrL (2))).1.length<=(clV (gtP thrL (1)) (gtP thrL (2))).1.length /\
 ctRgs.pre (winL rgS 0 (clV (gtP thrL (1)) (gtP thrL (2))).1.length (clV (gtP thrL (1)) (gtP thrL (2))).1,(clV (gtP thrL (1)) (gtP thrL (2))).2,((3:Int),(4:Int)),()) /\
 0+4<=(((((List.replicate (4:Nat) opS.dflt).set (0:Nat) ((1:Int),(0:Int),(1:Int),(0:Int),[])).set (1:Nat) ((4:Int),(0:Int),(1:Int),(0:Int),([(9:Int)]:List uB.D))).set (2:Nat) ((1:Int),(2:Int),(1:Int),(0:Int),[])).set (3:Nat) ((2:Int),(0:Int),(1:Int),(0:Int),([(1:Int)]:List uB.D))).length /\
 ctSm.pre (((mgV (gtP thrL (0)) (gtP thrL (1))).1),(false,(4:Int),(4:Int),winL opS 0 4 (((((List.replicate (4:Nat) opS.dflt).set (0:Nat) ((1:Int),(0:Int),(1:Int),(0:Int),[])).set (1:Nat) ((4:Int),(0:Int),(1:Int),(0:Int),([(9:Int)]:List uB.D))).set (2:Nat) ((1:Int),(2:Int),(1:Int),(0:Int),[])).set (3:Nat) ((2:Int),(0:Int),(1:Int),(0:Int),([(1:Int)]:List uB.D)))),()) /\
 (0:Int)<=0 /\
 (0:Int)<(↑(3:Nat):Int) /\
 0<3 /\
 (0:Int)<=1 /\
 (1:Int)<(↑(3:Nat):Int) /\
 1<3 /\
 ctExc.pre ((gtP thrL (0)),(gtP thrL (1)),()) /\
 (0:Int)<=1 /\
 (1:Int)<(↑(3:Nat):Int) /\
 1<3 /\
 (0:Int)<=0 /\
 (0:Int)<(↑(3:Nat):Int) /\
 0<3 /\
 ctSme.pre ((((cmV (gtP thrL (0)) (gtP thrL (1))).1),((cmV (gtP thrL (0)) (gtP thrL (1))).2.1.1,(cmV (gtP thrL (0)) (gtP thrL (1))).2.1.2.1,(cmV (gtP thrL (0)) (gtP thrL (1))).2.1.2.2.1,(cmV (gtP thrL (0)) (gtP thrL (1))).2.1.2.2.2),(cmV (gtP thrL (0)) (gtP thrL (1))).2.2),((gtP thrL (1)),(gtP thrL (0)),(0:Int)),()) /\
 (0:Int)<=1 /\
 (1:Int)<(↑(3:Nat):Int) /\
 1<3 /\
 (0:Int)<=2 /\
 (2:Int)<(↑(3:Nat):Int) /\
 2<3 /\
 ctExc.pre ((gtP thrL (1)),(gtP thrL (2)),()) /\
 Q [.bool (decide ((cmV (gtP thrL (1)) (gtP thrL (2))).2.2=(110:Int)))] [(1,.var [.arr (3:Nat) paS thrL]),(12,.var [.bool (mgV (gtP thrL (0)) (gtP thrL (1))).1.1,.int .i64 (mgV (gtP thrL (0)) (gtP thrL (1))).1.2.1,.int .i64 (mgV (gtP thrL (0)) (gtP thrL (1))).1.2.2.1,.sl opS (mgV (gtP thrL (0)) (gtP thrL (1))).1.2.2.2]),(14,.var [.bool (mgV (gtP thrL (0)) (false,(0:Int),(0:Int),[])).1.1,.int .i64 (mgV (gtP thrL (0)) (false,(0:Int),(0:Int),[])).1.2.1,.int .i64 (mgV (gtP thrL (0)) (false,(0:Int),(0:Int),[])).1.2.2.1,.sl opS (mgV (gtP thrL (0)) (false,(0:Int),(0:Int),[])).1.2.2.2]),(16,.var [.bool (mgV (gtP thrL (1)) (gtP thrL (2))).1.1,.int .i64 (mgV (gtP thrL (1)) (gtP thrL (2))).1.2.1,.int .i64 (mgV (gtP thrL (1)) (gtP thrL (2))).1.2.2.1,.sl opS (mgV (gtP thrL (1)) (gtP thrL (2))).1.2.2.2]),(18,.var [.bool false,.int .i64 4,.int .i64 4,.win true opS 84 0 (4:Nat)]),(84,.row 56 opS (((((List.replicate (4:Nat) opS.dflt).set (0:Nat) ((1:Int),(0:Int),(1:Int),(0:Int),[])).set (1:Nat) ((4:Int),(0:Int),(1:Int),(0:Int),([(9:Int)]:List uB.D))).set (2:Nat) ((1:Int),(2:Int),(1:Int),(0:Int),[])).set (3:Nat) ((2:Int),(0:Int),(1:Int),(0:Int),([(1:Int)]:List uB.D)))),(1098304,.row 69 rgS (tchV (gtP thrL (0))).1),(1122880,.row 69 rgS (tchV (gtP thrL (2))).1),(1147456,.row 69 rgS (rdV (gtP thrL (1))).1),(1180224,.row 69 rgS (clV (gtP thrL (0)) (gtP thrL (2))).1),(1212992,.row 69 rgS (clV (gtP thrL (1)) (gtP thrL (2))).1)]):=by kernel_rfl
def ctSn11:Ctr:=⟨[],fun _=>True,fun _=>[.bool true],fun _=>[]⟩
theorem qze (R:List Item->PS->Prop):sy tt G0 CSan Tryd.f6.ntmps Tryd.f6.results.toList (QC ctSn11 ()) R 1000 [.code (qae Tryd.f6)] (entry [] ()):=by
 refine (q3m _ _).mpr ?_
 repeat' first
  | exact trivial
  | (show List.length _<1000000;decide +kernel)
  | (show List.length _<16777216;decide +kernel)
  | (show List.length _<1099511627776;decide +kernel)
  | decide +kernel
  | refine And.intro ?_ ?_
  | (refine QC.flat ?_ rfl rfl)
  | (refine congrArg (fun b=>[SV.bool b]) ?_;decide +kernel)
theorem qwc:Held Tryd.prog G0 6 ctSn11:=Held.run cxSan (fn:=Tryd.f6) rfl rfl ⟨by decide,by decide⟩ fun x _=>qze _
abbrev gtRa (l:List (Int × List (List Int))) (i:Nat):Int × List (List Int):=gt raS l i
noncomputable abbrev oP (x:List (Int × List (List Int))):PaT:=q87 (gtRa x (0)).fst (gtRa x (0)).snd
noncomputable abbrev oQ (x:List (Int × List (List Int))) (i:Nat):PaT:=S11V (gtRa x i).fst (oP x).snd.fst (gtRa x i).snd
set_option maxRecDepth 100000
def CIn:CV:=[(39,.inl ctIn)]
def CTo:CV:=[(25,.inl ctSys)]
theorem cxTo:CxOK Tryd.prog tt G0 CTo:=cx0.cons qqq (fn:=Tryd.f25) rfl rfl rfl
set_option maxRecDepth 100000
theorem q3e (x a b:Int) (Q:QT) (R:RT):sy tt G0 [] Tryd.f39.ntmps Tryd.f39.results.toList Q R 1000 [.code (qae Tryd.f39)] (entry [iI,iI,iI] (x,a,b,())) =
  (bc (decide (a<=x)) (Q [.bool (decide (x<=b))] []) (false=false /\
 Q [.bool false] [])):=by kernel_rfl
theorem vc_rt (l:List (Int × Int)) (n:Int) (Q:QT) (R:RT):sy tt G0 [] Tryd.f15.ntmps Tryd.f15.results.toList Q R 1000 [.code (qae Tryd.f15)] (entry [.sl rgS,iI] (l,n,())) =
  (R (hd Tryd.f15 0) { env:=[(0,.sl rgS l),(1,.int .i64 n),(4,.bool false),(5,.int .i64 0)],blk:=[] }):=by kernel_rfl
theorem q1h (l:List (Int × Int)) (n i:Int) (Q:QT) (R:RT):sy tt G0 [] Tryd.f15.ntmps Tryd.f15.results.toList Q (fun it S=>R it (qa4 [0,1,4,5] [] S)) 1000 (hd Tryd.f15 0) ⟨[(0,.sl rgS l),(1,.int .i64 n),(4,.bool false),(5,.int .i64 i)],[]⟩ =
  (bc (decide (i<(l.length:Int))) ((0:Int)<=i /\
 i<(l.length:Int) /\
 bc (decide ((gtR l i.toNat).1<0)) (true=true /\
 true=true /\
 true=true /\
 Q [.bool false] []) ((0:Int)<=i /\
 i<(l.length:Int) /\
 (0:Int)<=i /\
 i<(l.length:Int) /\
 bc (bif false then true else decide ((gtR l i.toNat).2<=(gtR l i.toNat).1)) (true=true /\
 true=true /\
 Q [.bool false] []) ((0:Int)<=i /\
 i<(l.length:Int) /\
 bc (bif false then true else decide (n<(gtR l i.toNat).2)) (true=true /\
 Q [.bool false] []) (bc (decide ((0:Int)<i)) ((0:Int)<=i64.wrap (i-1) /\
 i64.wrap (i-1)<(l.length:Int) /\
 (0:Int)<=i /\
 i<(l.length:Int) /\
 bc (bif false then true else bif true then decide ((gtR l i.toNat).1<=(gtR l (i64.wrap (i-1)).toNat).2) else false) (Q [.bool false] []) (R (hd Tryd.f15 0) { env:=[(0,.sl rgS l),(1,.int .i64 n),(4,.bool false),(5,.int .i64 (i64.wrap (i+1)))],blk:=[] })) (false=false /\
 R (hd Tryd.f15 0) { env:=[(0,.sl rgS l),(1,.int .i64 n),(4,.bool false),(5,.int .i64 (i64.wrap (i+1)))],blk:=[] }))))) (Q [.bool true] [])):=by kernel_rfl
theorem q7y (l:List (Int × Int)) (n:Int) (Q:QT) (R:RT):sy tt G0 CIn Tryd.f18.ntmps Tryd.f18.results.toList Q R 1000 [.code (qae Tryd.f18)] (entry [.sl rgS,iI] (l,n,())) =
  (R (hd Tryd.f18 0) { env:=[(0,.sl rgS l),(1,.int .i64 n),(4,.bool false),(5,.int .i64 0)],blk:=[] }):=by kernel_rfl
theorem que (l:List (Int × Int)) (n i:Int) (Q:QT) (R:RT):sy tt G0 CIn Tryd.f18.ntmps Tryd.f18.results.toList Q (fun it S=>R it (qa4 [0,1,4,5] [] S)) 1000 (hd Tryd.f18 0) ⟨[(0,.sl rgS l),(1,.int .i64 n),(4,.bool false),(5,.int .i64 i)],[]⟩ =
  (bc (decide (i<(l.length:Int))) ((0:Int)<=i /\
 i<(l.length:Int) /\
 (0:Int)<=i /\
 i<(l.length:Int) /\
 ctIn.pre (n,(gtR l i.toNat).1,i64.wrap ((gtR l i.toNat).2-1),()) /\
 bc (decide ((gtR l i.toNat).1<=n)&&decide (n<=i64.wrap ((gtR l i.toNat).2-1))) (Q [.bool true] []) (R (hd Tryd.f18 0) { env:=[(0,.sl rgS l),(1,.int .i64 n),(4,.bool false),(5,.int .i64 (i64.wrap (i+1)))],blk:=[] })) (Q [.bool false] [])):=by kernel_rfl
theorem vc_to (p:PaT) (Q:QT) (R:RT):sy tt G0 CTo Tryd.f16.ntmps Tryd.f16.results.toList Q (fun it S=>R it (qa4 [3,4,5] [8,1040960] S)) 1000 [.code (qae Tryd.f16)] (entry [paS] (p,())) =
  ((0:Int)<=p.2.1 /\
 p.2.1<=p.2.1 /\
 p.2.1<2 ^ 24 /\
 (↑(1:Nat):Int)*p.2.1<=2 ^ 48 /\
 ctSys.pre (p,()) /\
 R (hd Tryd.f16 0) { env:=[(3,.win true Sh.bool (8:Nat) (0:Nat) (Int.toNat p.2.1)),(4,.win true syS 1040960 0 (sySy p).length),(5,.int .i64 0)],blk:=[(8,.row 4 Sh.bool (List.replicate (Int.toNat p.2.1) Sh.bool.dflt)),(1040960,.row 51 syS (sySy p))] }):=by kernel_rfl
theorem q1d (b:List Bool) (s:List SyT) (i:Int) (Q:QT) (R:RT):sy tt G0 CTo Tryd.f16.ntmps Tryd.f16.results.toList Q (fun it S=>R it (qa4 [3,4,5] [8,1040960] S)) 1000 (hd Tryd.f16 0) ⟨[(3,.win true .bool 8 0 b.length),(4,.win true syS 1040960 0 s.length),(5,.int .i64 i)],[(8,.row 4 .bool b),(1040960,.row 51 syS s)]⟩ =
  (bc (decide (i<(s.length:Int))) ((0:Int)<=i /\
 i<(s.length:Int) /\
 0+i.toNat<s.length /\
 (0:Int)<=i /\
 i<(b.length:Int) /\
 0+i.toNat<b.length /\
 R (hd Tryd.f16 0) { env:=[(3,.win true Sh.bool (8:Nat) (0:Nat) b.length),(4,.win true syS 1040960 0 s.length),(5,.int .i64 (i64.wrap (i+1)))],blk:=[(8,.row 4 Sh.bool (b.set (0+i.toNat) !decide ([Cl.cb (gtY s (0+i.toNat)).1,Cl.ci i64 (gtY s (0+i.toNat)).2.1,Cl.ci u8 (gtY s (0+i.toNat)).2.2]=[Cl.cb true,Cl.ci i64 i,Cl.ci u8 (0:Int)]))),(1040960,.row 51 syS s)] }) (Q [.win true Sh.bool (8:Nat) (0:Nat) b.length] [(8,.row 4 Sh.bool b),(1040960,.row 51 syS s)])):=by kernel_rfl
end Go.Proofs.YtnmkfdgnenkhpaaDoor
