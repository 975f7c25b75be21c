/-
  A part of the proof: what pieces of the program give; conditions: those of each theorem.
-/
import Derived.Test.YtdeacfammdjajaaDoorQ4
import Derived.Test.YtdeacfammdjajaaDoorQ1
import Derived.KernelRfl
import Derived.Test.YtdeacfammdjajaaDoorQ2
import Derived.Test.YtdeacfammdjajaaDoorQ3
import Derived.Test.YtdeacfammdjajaaDoorHD
set_option linter.unusedVariables false
set_option linter.unusedSimpArgs false
namespace Go.Proofs.YtdeacfammdjajaaDoor
open Go.Px Go.Ax
set_option maxRecDepth 100000
def CSn:CV:=[(19,.inl ctGiv),(11,.inl ctSec),(9,.inl ctSpl),(13,.inl ctJn),(15,.inl ctSml),(16,.inl ctSm)]
theorem cxSn:CxOK Tryd.prog tt G0 CSn:=(((((cx0.k qp5 (fn:=Tryd.f16)).k qrw (fn:=Tryd.f15)).k qyc (fn:=Tryd.f13)).k spl_held (fn:=Tryd.f9)).k sec_held (fn:=Tryd.f11)).k q2j (fn:=Tryd.f19)
set_option maxRecDepth 100000
theorem q5a  (Q:QT) (R:RT):sA CSn Tryd.f6 Q R [.code (qad Tryd.f6)] (entry [] ()) =
  (ctGiv.pre ()/\ctSec.pre (givP,(2:Int),())/\0+1<=((List.replicate (1:Nat) seS.dflt).set (0:Nat) ((ByteArray.mk #[(120:UInt8)]).data.toList,(1:Int),(4:Int),false)).length/\ctSpl.pre (givP,winL seS 0 1 ((List.replicate (1:Nat) seS.dflt).set (0:Nat) ((ByteArray.mk #[(120:UInt8)]).data.toList,(1:Int),(4:Int),false)),())/\0+1<=((List.replicate (1:Nat) seS.dflt).set (0:Nat) ((ByteArray.mk #[(120:UInt8)]).data.toList,(4:Int),(6:Int),false)).length/\ctSpl.pre (givP,winL seS 0 1 ((List.replicate (1:Nat) seS.dflt).set (0:Nat) ((ByteArray.mk #[(120:UInt8)]).data.toList,(4:Int),(6:Int),false)),())/\ctSec.pre (givP,(0:Int),())/\ctJn.pre ([],())/\0+1<=([(7:Int)]:List uB.D).length/\0+1<=([(7:Int)]:List uB.D).length/\0+1<=([(8:Int)]:List uB.D).length/\0+1<=([(8:Int)]:List uB.D).length/\0+1<=([((1:Int),(0:Int),(2:Int),(0:Int),[])]:List opS.D).length/\0+1<=([((1:Int),(0:Int),(2:Int),(0:Int),[])]:List opS.D).length/\0+2<=(((List.replicate (2:Nat) opS.dflt).set (0:Nat) ((1:Int),(2:Int),(1:Int),(0:Int),[])).set (1:Nat) ((4:Int),(0:Int),(1:Int),(0:Int),([(7:Int)]:List uB.D))).length/\0+2<=(((List.replicate (2:Nat) opS.dflt).set (0:Nat) ((1:Int),(2:Int),(1:Int),(0:Int),[])).set (1:Nat) ((4:Int),(0:Int),(1:Int),(0:Int),([(7:Int)]:List uB.D))).length/\0+1<=([((4:Int),(0:Int),(1:Int),(0:Int),([(8:Int)]:List uB.D))]:List opS.D).length/\0+1<=([((4:Int),(0:Int),(1:Int),(0:Int),([(8:Int)]:List uB.D))]:List opS.D).length/\0+3<=((((List.replicate (3:Nat) paS.dflt).set (0:Nat) (false,(3:Int),(2:Int),([((1:Int),(0:Int),(2:Int),(0:Int),[])]:List opS.D))).set (1:Nat) (false,(3:Int),(2:Int),winL opS 0 2 (((List.replicate (2:Nat) opS.dflt).set (0:Nat) ((1:Int),(2:Int),(1:Int),(0:Int),[])).set (1:Nat) ((4:Int),(0:Int),(1:Int),(0:Int),([(7:Int)]:List uB.D))))).set (2:Nat) (false,(3:Int),(1:Int),([((4:Int),(0:Int),(1:Int),(0:Int),winL uB 0 1 ([(8:Int)]:List uB.D))]:List opS.D))).length/\0+3<=((((List.replicate (3:Nat) paS.dflt).set (0:Nat) (false,(3:Int),(2:Int),([((1:Int),(0:Int),(2:Int),(0:Int),[])]:List opS.D))).set (1:Nat) (false,(3:Int),(2:Int),winL opS 0 2 (((List.replicate (2:Nat) opS.dflt).set (0:Nat) ((1:Int),(2:Int),(1:Int),(0:Int),[])).set (1:Nat) ((4:Int),(0:Int),(1:Int),(0:Int),([(7:Int)]:List uB.D))))).set (2:Nat) (false,(3:Int),(1:Int),([((4:Int),(0:Int),(1:Int),(0:Int),winL uB 0 1 ([(8:Int)]:List uB.D))]:List opS.D))).length/\0+3<=((((List.replicate (3:Nat) paS.dflt).set (0:Nat) (false,(3:Int),(2:Int),([((1:Int),(0:Int),(2:Int),(0:Int),[])]:List opS.D))).set (1:Nat) (false,(3:Int),(2:Int),winL opS 0 2 (((List.replicate (2:Nat) opS.dflt).set (0:Nat) ((1:Int),(2:Int),(1:Int),(0:Int),[])).set (1:Nat) ((4:Int),(0:Int),(1:Int),(0:Int),([(7:Int)]:List uB.D))))).set (2:Nat) (false,(3:Int),(1:Int),([((4:Int),(0:Int),(1:Int),(0:Int),winL uB 0 1 ([(8:Int)]:List uB.D))]:List opS.D))).length/\ctJn.pre (winL paS 0 3 ((((List.replicate (3:Nat) paS.dflt).set (0:Nat) (false,(3:Int),(2:Int),([((1:Int),(0:Int),(2:Int),(0:Int),[])]:List opS.D))).set (1:Nat) (false,(3:Int),(2:Int),winL opS 0 2 (((List.replicate (2:Nat) opS.dflt).set (0:Nat) ((1:Int),(2:Int),(1:Int),(0:Int),[])).set (1:Nat) ((4:Int),(0:Int),(1:Int),(0:Int),([(7:Int)]:List uB.D))))).set (2:Nat) (false,(3:Int),(1:Int),([((4:Int),(0:Int),(1:Int),(0:Int),winL uB 0 1 ([(8:Int)]:List uB.D))]:List opS.D))),())/\0+1<=([(7:Int)]:List uB.D).length/\0+1<=([(7:Int)]:List uB.D).length/\0+(secV givP (2:Int)).1.length<=(secV givP (2:Int)).1.length/\ctSml.pre (winL paS 0 (secV givP (2:Int)).1.length (secV givP (2:Int)).1,winL paS 0 3 ((((List.replicate (3:Nat) paS.dflt).set (0:Nat) (false,(3:Int),(2:Int),([((1:Int),(0:Int),(2:Int),(0:Int),[])]:List opS.D))).set (1:Nat) (false,(3:Int),(2:Int),winL opS 0 2 (((List.replicate (2:Nat) opS.dflt).set (0:Nat) ((1:Int),(2:Int),(1:Int),(0:Int),[])).set (1:Nat) ((4:Int),(0:Int),(1:Int),(0:Int),([(7:Int)]:List uB.D))))).set (2:Nat) (false,(3:Int),(1:Int),([((4:Int),(0:Int),(1:Int),(0:Int),winL uB 0 1 ([(8:Int)]:List uB.D))]:List opS.D))),())/\0+2<=(((List.replicate (2:Nat) opS.dflt).set (0:Nat) ((1:Int),(1:Int),(2:Int),(0:Int),[])).set (1:Nat) ((4:Int),(0:Int),(1:Int),(0:Int),([(7:Int)]:List uB.D))).length/\0+2<=(((List.replicate (2:Nat) opS.dflt).set (0:Nat) ((1:Int),(1:Int),(2:Int),(0:Int),[])).set (1:Nat) ((4:Int),(0:Int),(1:Int),(0:Int),([(7:Int)]:List uB.D))).length/\0+2<=(((List.replicate (2:Nat) opS.dflt).set (0:Nat) ((1:Int),(1:Int),(2:Int),(0:Int),[])).set (1:Nat) ((4:Int),(0:Int),(1:Int),(0:Int),([(7:Int)]:List uB.D))).length/\0+2<=(((List.replicate (2:Nat) opS.dflt).set (0:Nat) ((1:Int),(1:Int),(2:Int),(0:Int),[])).set (1:Nat) ((4:Int),(0:Int),(1:Int),(0:Int),([(7:Int)]:List uB.D))).length/\0+(splV givP (winL seS 0 1 ((List.replicate (1:Nat) seS.dflt).set (0:Nat) ((ByteArray.mk #[(120:UInt8)]).data.toList,(1:Int),(4:Int),false)))).1.length<=(splV givP (winL seS 0 1 ((List.replicate (1:Nat) seS.dflt).set (0:Nat) ((ByteArray.mk #[(120:UInt8)]).data.toList,(1:Int),(4:Int),false)))).1.length/\0+1<=([(false,(3:Int),(3:Int),winL opS 0 2 (((List.replicate (2:Nat) opS.dflt).set (0:Nat) ((1:Int),(1:Int),(2:Int),(0:Int),[])).set (1:Nat) ((4:Int),(0:Int),(1:Int),(0:Int),([(7:Int)]:List uB.D))))]:List paS.D).length/\ctSml.pre (winL paS 0 (splV givP (winL seS 0 1 ((List.replicate (1:Nat) seS.dflt).set (0:Nat) ((ByteArray.mk #[(120:UInt8)]).data.toList,(1:Int),(4:Int),false)))).1.length (splV givP (winL seS 0 1 ((List.replicate (1:Nat) seS.dflt).set (0:Nat) ((ByteArray.mk #[(120:UInt8)]).data.toList,(1:Int),(4:Int),false)))).1,([(false,(3:Int),(3:Int),winL opS 0 2 (((List.replicate (2:Nat) opS.dflt).set (0:Nat) ((1:Int),(1:Int),(2:Int),(0:Int),[])).set (1:Nat) ((4:Int),(0:Int),(1:Int),(0:Int),([(7:Int)]:List uB.D))))]:List paS.D),())/\ctSm.pre (((jnV (winL paS 0 3 ((((List.replicate (3:Nat) paS.dflt).set (0:Nat) (false,(3:Int),(2:Int),([((1:Int),(0:Int),(2:Int),(0:Int),[])]:List opS.D))).set (1:Nat) (false,(3:Int),(2:Int),winL opS 0 2 (((List.replicate (2:Nat) opS.dflt).set (0:Nat) ((1:Int),(2:Int),(1:Int),(0:Int),[])).set (1:Nat) ((4:Int),(0:Int),(1:Int),(0:Int),([(7:Int)]:List uB.D))))).set (2:Nat) (false,(3:Int),(1:Int),([((4:Int),(0:Int),(1:Int),(0:Int),winL uB 0 1 ([(8:Int)]:List uB.D))]:List opS.D))))).1),givP,())/\Q [.bool (bif true then smB ((jnV (winL paS 0 3 ((((List.replicate (3:Nat) paS.dflt).set (0:Nat) (false,(3:Int),(2:Int),([((1:Int),(0:Int),(2:Int),(0:Int),[])]:List opS.D))).set (1:Nat) (false,(3:Int),(2:Int),winL opS 0 2 (((List.replicate (2:Nat) opS.dflt).set (0:Nat) ((1:Int),(2:Int),(1:Int),(0:Int),[])).set (1:Nat) ((4:Int),(0:Int),(1:Int),(0:Int),([(7:Int)]:List uB.D))))).set (2:Nat) (false,(3:Int),(1:Int),([((4:Int),(0:Int),(1:Int),(0:Int),winL uB 0 1 ([(8:Int)]:List uB.D))]:List opS.D))))).1) givP else false)] [(1,.var [.bool givP.1,.i givP.2.1,.i givP.2.2.1,.sl opS givP.2.2.2]),(10,.var [.bool (jnV []).1.1,.i (jnV []).1.2.1,.i (jnV []).1.2.2.1,.sl opS (jnV []).1.2.2.2]),(13,.var [.bool (jnV (winL paS 0 3 ((((List.replicate (3:Nat) paS.dflt).set (0:Nat) (false,(3:Int),(2:Int),([((1:Int),(0:Int),(2:Int),(0:Int),[])]:List opS.D))).set (1:Nat) (false,(3:Int),(2:Int),winL opS 0 2 (((List.replicate (2:Nat) opS.dflt).set (0:Nat) ((1:Int),(2:Int),(1:Int),(0:Int),[])).set (1:Nat) ((4:Int),(0:Int),(1:Int),(0:Int),([(7:Int)]:List uB.D))))).set (2:Nat) (false,(3:Int),(1:Int),([((4:Int),(0:Int),(1:Int),(0:Int),winL uB 0 1 ([(8:Int)]:List uB.D))]:List opS.D))))).1.1,.i (jnV (winL paS 0 3 ((((List.replicate (3:Nat) paS.dflt).set (0:Nat) (false,(3:Int),(2:Int),([((1:Int),(0:Int),(2:Int),(0:Int),[])]:List opS.D))).set (1:Nat) (false,(3:Int),(2:Int),winL opS 0 2 (((List.replicate (2:Nat) opS.dflt).set (0:Nat) ((1:Int),(2:Int),(1:Int),(0:Int),[])).set (1:Nat) ((4:Int),(0:Int),(1:Int),(0:Int),([(7:Int)]:List uB.D))))).set (2:Nat) (false,(3:Int),(1:Int),([((4:Int),(0:Int),(1:Int),(0:Int),winL uB 0 1 ([(8:Int)]:List uB.D))]:List opS.D))))).1.2.1,.i (jnV (winL paS 0 3 ((((List.replicate (3:Nat) paS.dflt).set (0:Nat) (false,(3:Int),(2:Int),([((1:Int),(0:Int),(2:Int),(0:Int),[])]:List opS.D))).set (1:Nat) (false,(3:Int),(2:Int),winL opS 0 2 (((List.replicate (2:Nat) opS.dflt).set (0:Nat) ((1:Int),(2:Int),(1:Int),(0:Int),[])).set (1:Nat) ((4:Int),(0:Int),(1:Int),(0:Int),([(7:Int)]:List uB.D))))).set (2:Nat) (false,(3:Int),(1:Int),([((4:Int),(0:Int),(1:Int),(0:Int),winL uB 0 1 ([(8:Int)]:List uB.D))]:List opS.D))))).1.2.2.1,.sl opS (jnV (winL paS 0 3 ((((List.replicate (3:Nat) paS.dflt).set (0:Nat) (false,(3:Int),(2:Int),([((1:Int),(0:Int),(2:Int),(0:Int),[])]:List opS.D))).set (1:Nat) (false,(3:Int),(2:Int),winL opS 0 2 (((List.replicate (2:Nat) opS.dflt).set (0:Nat) ((1:Int),(2:Int),(1:Int),(0:Int),[])).set (1:Nat) ((4:Int),(0:Int),(1:Int),(0:Int),([(7:Int)]:List uB.D))))).set (2:Nat) (false,(3:Int),(1:Int),([((4:Int),(0:Int),(1:Int),(0:Int),winL uB 0 1 ([(8:Int)]:List uB.D))]:List opS.D))))).1.2.2.2]),(15,.var [.bool false,.i 3,.i 3,.sl opS (winL opS 0 2 (((List.replicate (2:Nat) opS.dflt).set (0:Nat) ((1:Int),(1:Int),(2:Int),(0:Int),[])).set (1:Nat) ((4:Int),(0:Int),(1:Int),(0:Int),([(7:Int)]:List uB.D))))]),(82,.row 31 paS ([(false,(3:Int),(3:Int),winL opS 0 2 (((List.replicate (2:Nat) opS.dflt).set (0:Nat) ((1:Int),(1:Int),(2:Int),(0:Int),[])).set (1:Nat) ((4:Int),(0:Int),(1:Int),(0:Int),([(7:Int)]:List uB.D))))]:List paS.D)),(1077824,.row 31 paS (secV givP (2:Int)).1),(1106496,.row 31 paS (splV givP (winL seS 0 1 ((List.replicate (1:Nat) seS.dflt).set (0:Nat) ((ByteArray.mk #[(120:UInt8)]).data.toList,(1:Int),(4:Int),false)))).1),(1135168,.row 31 paS (splV givP (winL seS 0 1 ((List.replicate (1:Nat) seS.dflt).set (0:Nat) ((ByteArray.mk #[(120:UInt8)]).data.toList,(4:Int),(6:Int),false)))).1),(1155648,.row 31 paS (secV givP (0:Int)).1)]):=by kernel_rfl
attribute [local irreducible] Go.Px.sy Go.Px.syE
def ctSn12:Ctr:=⟨[],λ _=>True,λ _=>[.bool true],λ _=>[]⟩
instance (a:List PaT):Decidable (qgp a):=by unfold qgp;infer_instance
theorem q0e (R:List Item->PS->Prop):sA CSn Tryd.f6 (QC ctSn12 ()) R [.code (qad Tryd.f6)] (entry [] ()):=by
 refine (q5a _ _).mpr ?_
 repeat' first
  | exact trivial
  | decide +kernel
  | refine And.intro ?_ ?_
  | (refine QC.flat ?_ rfl rfl)
  | (show List.length _<1099511627776;decide +kernel)
  | (show List.length _<1000000;decide +kernel)
  | (show qgp _;decide +kernel)
  | (show ∀ s∈_,List.length _<2 ^ 62;decide +kernel)
  | (refine congrArg (λ b=>[SV.bool b]) ?_;decide +kernel)
theorem qwg:Held Tryd.prog G0 6 ctSn12:=Held.run cxSn (fn:=Tryd.f6) rfl rfl ⟨by decide,by decide⟩ λ x _=>q0e _
abbrev qb9 (l:List (Int × List (List Int))) (i:Nat):Int × List (List Int):=gt raS l i
def CMy:CV:=[(17,.inl ctM6),(18,.inl ctSz),(20,.inl ctRw)]
set_option maxRecDepth 100000
theorem q5n (x:List (Int × List (List Int))) (n:Int) (Q:QT) (R:RT):sA CMy Tryd.f7 Q R [.code (qad Tryd.f7)] (entry [.sl raS,iI] (x,n,())) =
  (R (hd Tryd.f7 0) { env:=[(0,.sl (uB.pair a4S.sl) x),(1,.i n),(4,.nils),(5,.win true paS 7 0 (0:Nat)),(6,.i 0),(7,.win true paS 7 0 (0:Nat))],blk:=[(7,.row 31 paS (List.replicate (0:Nat) paS.dflt))] }):=by kernel_rfl
theorem qrm (x:List (Int × List (List Int))) (n:Int) (o:List PaT) (i:Nat) (Q:QT) (R:RT):sA CMy Tryd.f7 Q (λ it S=>R it (qaj [0,1,5,6] [7,28,40,77] S)) (hd Tryd.f7 0) ⟨[(0,.sl raS x),(1,.i n),(5,.win true paS 77 0 o.length),(6,.i (i:Nat))],[(77,.row 31 paS o)]⟩ =
  (bc (decide ((i:Int)<(x.length:Int))) (bc (decide ((i:Int)<n)) (bc (decide ((i:Int)=(0:Int))) ((0:Int)<=(i:Int)/\(i:Int)<(x.length:Int)/\ctM6.pre (((qb9 x (i:Int).toNat).1,(qb9 x (i:Int).toNat).2),())/\0+1<=([(szV (qb9 x (i:Int).toNat).2 ((qb9 x (i:Int).toNat).1 % (13:Int)))]:List paS.D).length/\o.length=o.length/\(0:Nat)=(0:Nat)/\o.length+(([(szV (qb9 x (i:Int).toNat).2 ((qb9 x (i:Int).toNat).1 % (13:Int)))]:List paS.D)).length<2 ^ 30/\(48:Nat)<=2 ^ 10/\R (hd Tryd.f7 0) { env:=[(0,.sl (uB.pair a4S.sl) x),(1,.i n),(5,.win true paS 28 0 (o.length+(([(szV (qb9 x (i:Int).toNat).2 ((qb9 x (i:Int).toNat).1 % (13:Int)))]:List paS.D)).length)),(6,.i (IntKind.i64.wrap ((i:Int)+1)))],blk:=[(28,.row 31 paS (o++([(szV (qb9 x (i:Int).toNat).2 ((qb9 x (i:Int).toNat).1 % (13:Int)))]:List paS.D)))] }) ((0:Int)<=(i:Int)/\(i:Int)<(x.length:Int)/\(0:Int)<=0/\(0:Int)<(o.length:Int)/\0+0<o.length/\ctSz.pre (((qb9 x (i:Int).toNat).1,(qb9 x (i:Int).toNat).2),(gtP o (0+0)).2.1,())/\0+1<=([(szV (qb9 x (i:Int).toNat).2 (gtP o (0+0)).2.1)]:List paS.D).length/\o.length=o.length/\(0:Nat)=(0:Nat)/\o.length+(([(szV (qb9 x (i:Int).toNat).2 (gtP o (0+0)).2.1)]:List paS.D)).length<2 ^ 30/\(48:Nat)<=2 ^ 10/\R (hd Tryd.f7 0) { env:=[(0,.sl (uB.pair a4S.sl) x),(1,.i n),(5,.win true paS 40 0 (o.length+(([(szV (qb9 x (i:Int).toNat).2 (gtP o (0+0)).2.1)]:List paS.D)).length)),(6,.i (IntKind.i64.wrap ((i:Int)+1)))],blk:=[(40,.row 31 paS (o++([(szV (qb9 x (i:Int).toNat).2 (gtP o (0+0)).2.1)]:List paS.D)))] })) (bc (decide ((o.length:Int)=(0:Int))) (ctRw.pre ((3:Int),())/\Q [.win true paS 45 0 (1:Nat)] [(45,.row 31 paS ([(rwV (3:Int))]:List paS.D)),(77,.row 31 paS o)]) (Q [.win true paS 77 0 o.length] [(77,.row 31 paS o)]))) (false=false/\bc (decide ((o.length:Int)=(0:Int))) (ctRw.pre ((3:Int),())/\Q [.win true paS 45 0 (1:Nat)] [(45,.row 31 paS ([(rwV (3:Int))]:List paS.D)),(77,.row 31 paS o)]) (Q [.win true paS 77 0 o.length] [(77,.row 31 paS o)]))):=by kernel_rfl
abbrev RaT:Type:=Int × List (List Int)
def mnL (x:List RaT):Nat->List PaT
 | 0=>[]
 | i+1=>mnL x i++[match decide ((i:Int)=0) with
  | true=>szV (qb9 x i).2 ((qb9 x i).1 % 13)
  | false=>szV (qb9 x i).2 (gtP (mnL x i) 0).2.1]
def mnK (x:List RaT) (n:Int):Nat:=min x.length n.toNat
def mnV (x:List RaT) (n:Int):List PaT:=match decide (((mnL x (mnK x n)).length:Int)=0) with
 | true=>[rwV 3]
 | false=>mnL x (mnK x n)
def qxb (x:List RaT) (n:Int):Prop:=(∀ j,qqf (qb9 x j).1 (qb9 x j).2)/\n<=1000
def ctMn:Ctr:=⟨[.sl raS,iI],λ x=>qxb x.1 x.2.1,λ x=>[.win true paS 0 0 (mnV x.1 x.2.1).length],λ x=>[.row 31 paS (mnV x.1 x.2.1)]⟩
theorem cxMy:CxOK Tryd.prog tt G0 CMy:=((cx0.k q6v (fn:=Tryd.f20)).k qv3 (fn:=Tryd.f18)).k quf (fn:=Tryd.f17)
theorem qno (x:List RaT):∀ i,(mnL x i).length=i
 | 0=>rfl
 | i+1=>by rw[mnL,List.length_append,qno x i];rfl
theorem q70 {x:List RaT}:∀ {i},0<i->(gtP (mnL x i) 0).2.1=(qb9 x 0).1 % 13
 | 1,_=>rfl
 | i+2,_=>by
  have:=q70 (x:=x) (i:=i+1) (by omega);have hl:=qno x (i+1);rw[mnL,qc3 (by rw[List.length_append];omega),List.getElem_append_left (by omega),<- qc3 (by omega)];exact this
abbrev GDmn (x:List RaT) (n:Int) (it:List Item) (S:PS):Prop:=GD 7 Tryd.f7 (QC ctMn (x,n,())) it S
theorem q7z {x:List RaT} {n:Int} (hx:qxb x n):∀ (k i:Nat),mnK x n-i=k->i<=mnK x n->GDmn x n (hd Tryd.f7 0) ⟨[(0,.sl raS x),(1,.i n),(5,.win true paS 77 0 (mnL x i).length),(6,.i (i:Nat))],[(77,.row 31 paS (mnL x i))]⟩:=by
 obtain ⟨hx,hn⟩:=hx;intro k
 induction k with
 | zero=>
  intro i hk hi;have hi:i=mnK x n:=by omega
  have fin:bc (decide (((mnL x i).length:Int)=0)) (ctRw.pre ((3:Int),())/\∀ blk,lk blk 45=some (.row 31 paS [rwV 3])->QC ctMn (x,n,()) [.win true paS 45 0 1] blk) (∀ blk,lk blk 77=some (.row 31 paS (mnL x i))->QC ctMn (x,n,()) [.win true paS 77 0 (mnL x i).length] blk):=by
   refine qaf (λ h=>⟨trivial,λ blk hb=>?_⟩) (λ h blk hb=>?_)
   ·have hv:mnV x n=[rwV 3]:=by unfold mnV;rw[<- hi,h]
    exact qsa (e:=paS) (et:=31) (a:=45) (xs:=mnV x n) rfl rfl rfl (by rw[hv];rfl) (by rw[hv];exact hb)
   ·have hv:mnV x n=mnL x i:=by unfold mnV;rw[<- hi,h]
    exact qsa (e:=paS) (et:=31) (a:=77) (xs:=mnV x n) rfl rfl rfl (by rw[hv]) (by rw[hv];exact hb)
  refine qah cxMy (qrm x n (mnL x i) i _ _) ?_;have hK:¬ ((i:Int)<x.length/\(i:Int)<n):=by
   unfold mnK at hi;omega
  refine qaf (λ h=>qaf (λ h2=>absurd ⟨of_decide_eq_true h,of_decide_eq_true h2⟩ hK) (λ h2=>?_)) (λ h=>⟨rfl,?_⟩)
  all_goals
   revert fin;refine λ fin=>?_
   cases hz:decide (((mnL x i).length:Int)=0) with
   | true=>rw[hz] at fin;exact ⟨fin.1,fin.2 _ rfl⟩
   | false=>rw[hz] at fin;exact fin _ rfl
 | succ k ih=>
  intro i hk hi;have hK:(i:Int)<x.length/\(i:Int)<n:=by
   unfold mnK at hk;omega
  have hl:=qno x i;refine qah cxMy (qrm x n (mnL x i) i _ _) ?_;have nx:=ih (i+1) (by omega) (by omega);rw[decide_eq_true hK.1,bc_t,decide_eq_true hK.2,bc_t,IntWalk.i64_in ((i:Int)+1) (by omega)];simp only[Int.toNat_natCast];refine qaf (λ h=>?_) (λ h=>?_)
  ·rw[mnL,h] at nx;refine ⟨by omega,by omega,hx i,by simp,by trivial,by trivial,?_,by omega,?_⟩
   ·show (mnL x i).length+1<2 ^ 30
    omega
   ·refine nx.onlyR [(77,28)] rfl ⟨rfl,rfl,?_,rfl,trivial⟩ ⟨rfl,trivial⟩;rw[List.length_append];rfl
  ·have h0:¬ (i:Int)=0:=of_decide_eq_false h;have hm:=q70 (x:=x) (i:=i) (by omega);have hs:zbi (qb9 x i).2 (gtP (mnL x i) (0+0)).2.1:=⟨(hx i).2.1,by show preN (gtP (mnL x i) 0).2.1;rw[hm];exact ⟨by omega,by omega⟩,(hx i).2.2⟩;rw[mnL,h] at nx;refine ⟨by omega,by omega,by omega,by omega,by omega,hs,by simp,by trivial,by trivial,?_,by omega,?_⟩
   ·show (mnL x i).length+1<2 ^ 30
    omega
   ·refine nx.onlyR [(77,40)] rfl ⟨rfl,rfl,?_,rfl,trivial⟩ ⟨rfl,trivial⟩;rw[List.length_append];rfl
theorem mn_held:Held Tryd.prog G0 7 ctMn:=Held.of cxMy (fn:=Tryd.f7) rfl rfl ⟨by decide,by decide⟩ λ ⟨x,n,_⟩ hp=>by
 refine qe6 cxMy (q5n x n _ _) ?_;exact (q7z hp _ 0 rfl (Nat.zero_le _)).onlyR [(77,7)] rfl ⟨rfl,rfl,rfl,rfl,trivial⟩ ⟨rfl,trivial⟩
theorem za4 {p:PaT} (h:(chkV p).2=0):(symV p).2=0/\((symV p).1.length:Int)=p.2.2.1:=by
 have hs:(symV p).2=0:=by unfold symV;rw[if_pos h]
 exact ⟨hs,(qd6 hs).2.2⟩
theorem sz_ok {t:List (List Int)} {m:Int} (ht:qls t) (h0:0<=m) (h1:m<=65536):(chkV (szV t m)).2=0/\(symV (szV t m)).1.length<=30:=by
 have hc:(chkV (szV t m)).2=0:=by rw[q55 ht h0 h1]
 have:=(za4 hc).2;have h2:=qv4 ht h0;refine ⟨hc,?_⟩;have:((symV (szV t m)).1.length:Int)=lenS (szO t m):=this;omega
theorem qry (p:PaT):smB p p=true:=by
 have:∀ l:List OpT,smL l l=true:=by
  intro l
  induction l with
  | nil=>rfl
  | cons x l ih=>rw[smL,ih,Bool.and_true];unfold soB;simp
 unfold smB;simp[this]
def ctSecF:Ctr:=⟨[paS,iI],λ _=>True,λ x=>[.sl paS (secV x.1 x.2.1).1,.i (secV x.1 x.2.1).2],λ _=>[]⟩
def ctSplF:Ctr:=⟨[paS,.sl seS],λ x=>∀ s∈(show List SecT from x.2.1),s.1.length<2 ^ 62,λ x=>[.sl paS (splV x.1 x.2.1).1,.i (splV x.1 x.2.1).2],λ _=>[]⟩
abbrev RaT3:Type:=Int × List (List Int)
abbrev gtR3 (x:List (Int × List (List Int))) (i:Nat):Int × List (List Int):=gt raS x i
set_option maxRecDepth 100000
theorem qwl:Held Tryd.prog G0 11 ctSecF:=by
 have h:=sec_held.frz (λ x _=>by
  show inL 0 (secV x.1 x.2.1).1.length [SV.win true paS 0 0 (secV x.1 x.2.1).1.length,SV.i (secV x.1 x.2.1).2]/\True
  exact ⟨⟨λ _=>by omega,⟨trivial,trivial⟩⟩,trivial⟩)
 refine h.iff rfl (λ x h=>h) (λ x _=>?_) (λ x _=>rfl)
 show [SV.sl paS (secV x.1 x.2.1).1,SV.i (secV x.1 x.2.1).2]=[SV.sl paS (winL paS 0 (secV x.1 x.2.1).1.length (secV x.1 x.2.1).1),SV.i (secV x.1 x.2.1).2]
 rw[winA (e:=paS)]
theorem qwf:Held Tryd.prog G0 9 ctSplF:=by
 have h:=spl_held.frz (λ x _=>by
  show inL 0 (splV x.1 x.2.1).1.length [SV.win true paS 0 0 (splV x.1 x.2.1).1.length,SV.i (splV x.1 x.2.1).2]/\True
  exact ⟨⟨λ _=>by omega,⟨trivial,trivial⟩⟩,trivial⟩)
 refine h.iff rfl (λ x h=>h) (λ x _=>?_) (λ x _=>rfl)
 show [SV.sl paS (splV x.1 x.2.1).1,SV.i (splV x.1 x.2.1).2]=[SV.sl paS (winL paS 0 (splV x.1 x.2.1).1.length (splV x.1 x.2.1).1),SV.i (splV x.1 x.2.1).2]
 rw[winA (e:=paS)]
abbrev rgS:Sh:=.pair iI iI
abbrev gtRg (l:List (Int × Int)) (i:Nat):Int × Int:=gt rgS l i
def ctSymF:Ctr:=⟨[paS],λ _=>True,λ x=>[.sl syS (symV x.1).1,.i (symV x.1).2],λ _=>[]⟩
theorem qog:Held Tryd.prog G0 33 ctSymF:=by
 have h:=rs_held.frz (λ x _=>⟨by simp[ctSym,inL,inS],trivial⟩);refine h.iff rfl (λ x h=>h) (λ x _=>?_) (λ x _=>rfl)
 show [SV.sl syS (symV x.1).1,SV.i (symV x.1).2]=[SV.sl syS (winL syS 0 (symV x.1).1.length (symV x.1).1),SV.i (symV x.1).2]
 rw[winA (e:=syS)]
abbrev CRp:CV:=[(33,.inl ctSymF),(34,.inl ctCp)]
abbrev CRj:CV:=[(26,.inl ctRi),(33,.inl ctSymF),(34,.inl ctCp)]
set_option maxRecDepth 100000
theorem q9o (li:Bool) (m o:Int) (ops:List OpT) (l:List (Int × Int)) (Q:QT) (R:RT):sA CRp Tryd.f28 Q (λ it S=>R it (qaj [1,2,6,8,9] [2,17,48,88] S)) [.code (qad Tryd.f28)] (entry [paS,.sl rgS] ((li,m,o,ops),l,())) =
  (ctSymF.pre ((li,m,o,ops),())/\R (hd Tryd.f28 0) { env:=[(1,.sl rgS l),(2,.ptr 2 0),(6,.sl syS (symV (li,m,o,ops)).1),(8,.win true paS 17 0 (0:Nat)),(9,.i 0)],blk:=[(2,.var [.bool li,.i m,.i o,.sl opS ops]),(17,.row 31 paS (List.replicate (0:Nat) paS.dflt))] }):=by kernel_rfl
theorem qvd (li:Bool) (m o:Int) (ops:List OpT) (l:List (Int × Int)) (s:List SyT) (q:List PaT) (i:Nat) (Q:QT) (R:RT):sA CRp Tryd.f28 Q (λ it S=>R it (qaj [1,2,6,8,9] [2,17,48,88] S)) (hd Tryd.f28 0) ⟨[(1,.sl rgS l),(2,.ptr 2 0),(6,.sl syS s),(8,.win true paS 88 0 q.length),(9,.i (i:Nat))],[(2,.var [.bool li,.i m,.i o,.sl opS ops]),(88,.row 31 paS q)]⟩ =
  (bc (decide ((i:Int)<(l.length:Int))) ((0:Int)<=(i:Int)/\(i:Int)<(l.length:Int)/\(0:Int)<=(i:Int)/\(i:Int)<(l.length:Int)/\(0:Int)<=(gtRg l (i:Int).toNat).1/\(gtRg l (i:Int).toNat).1<=(gtRg l (i:Int).toNat).2/\(gtRg l (i:Int).toNat).2<=(s.length:Int)/\ctCp.pre (Px.part s (some (gtRg l (i:Int).toNat).1) (some (gtRg l (i:Int).toNat).2),m,())/\bc (decide ((cpV (Px.part s (some (gtRg l (i:Int).toNat).1) (some (gtRg l (i:Int).toNat).2)) m).2≠0)) (Q [.nils,.i (cpV (Px.part s (some (gtRg l (i:Int).toNat).1) (some (gtRg l (i:Int).toNat).2)) m).2] [(2,.var [.bool li,.i m,.i o,.sl opS ops]),(10,.var [.bool (cpV (Px.part s (some (gtRg l (i:Int).toNat).1) (some (gtRg l (i:Int).toNat).2)) m).1.1,.i (cpV (Px.part s (some (gtRg l (i:Int).toNat).1) (some (gtRg l (i:Int).toNat).2)) m).1.2.1,.i (cpV (Px.part s (some (gtRg l (i:Int).toNat).1) (some (gtRg l (i:Int).toNat).2)) m).1.2.2.1,.sl opS (cpV (Px.part s (some (gtRg l (i:Int).toNat).1) (some (gtRg l (i:Int).toNat).2)) m).1.2.2.2]),(88,.row 31 paS q)]) (0+1<=([((cpV (Px.part s (some (gtRg l (i:Int).toNat).1) (some (gtRg l (i:Int).toNat).2)) m).1)]:List paS.D).length/\q.length=q.length/\(0:Nat)=(0:Nat)/\q.length+(([((cpV (Px.part s (some (gtRg l (i:Int).toNat).1) (some (gtRg l (i:Int).toNat).2)) m).1)]:List paS.D)).length<2 ^ 30/\(48:Nat)<=2 ^ 10/\R (hd Tryd.f28 0) { env:=[(1,.sl rgS l),(2,.ptr 2 0),(6,.sl syS s),(8,.win true paS 48 0 (q.length+(([((cpV (Px.part s (some (gtRg l (i:Int).toNat).1) (some (gtRg l (i:Int).toNat).2)) m).1)]:List paS.D)).length)),(9,.i (IntKind.i64.wrap ((i:Int)+1)))],blk:=[(2,.var [.bool li,.i m,.i o,.sl opS ops]),(48,.row 31 paS (q++([((cpV (Px.part s (some (gtRg l (i:Int).toNat).1) (some (gtRg l (i:Int).toNat).2)) m).1)]:List paS.D)))] })) (Q [.win true paS 88 0 q.length,.i 0] [(2,.var [.bool li,.i m,.i o,.sl opS ops]),(88,.row 31 paS q)])):=by kernel_rfl
theorem q9q (l:List PaT) (Q:QT) (R:RT):sA CRj Tryd.f14 Q (λ it S=>R it (qaj [0,2,3,4,5,6,7] [2,46,66,82] S)) [.code (qad Tryd.f14)] (entry [.sl paS] (l,())) =
  (bc (decide ((l.length:Int)=(0:Int))) (Q [.agg [.bool false,.i 0,.i 0,.nils],.i 1] [(2,.var [.bool false,.i 0,.i 0,.nils])]) (R (hd Tryd.f14 0) { env:=[(0,.sl paS l),(2,.ptr 2 0),(3,.i 0),(4,.i 0)],blk:=[(2,.var [.bool false,.i 0,.i 0,.nils])] })):=by kernel_rfl
theorem qvh (l:List PaT) (i:Nat) (Q:QT) (R:RT):sA CRj Tryd.f14 Q (λ it S=>R it (qaj [0,2,3,4,5,6,7] [2,46,66,82] S)) (hd Tryd.f14 0) ⟨[(0,.sl paS l),(2,.ptr 2 0),(3,.i 0),(4,.i (i:Nat))],[(2,.var [.bool false,.i 0,.i 0,.nils])]⟩ =
  (bc (decide ((i:Int)<(l.length:Int))) ((0:Int)<=(i:Int)/\(i:Int)<(l.length:Int)/\ctRi.pre ((gtP l (i:Int).toNat),())/\bc (!decide ((chkV (gtP l (i:Int).toNat)).2=(0:Int))) (Q [.agg [.bool false,.i 0,.i 0,.nils],.i 60] [(2,.var [.bool false,.i 0,.i 0,.nils])]) (R (hd Tryd.f14 0) { env:=[(0,.sl paS l),(2,.ptr 2 0),(3,.i 0),(4,.i (IntKind.i64.wrap ((i:Int)+1)))],blk:=[(2,.var [.bool false,.i 0,.i 0,.nils])] })) (R (hd Tryd.f14 1) { env:=[(0,.sl paS l),(2,.ptr 2 0),(3,.i 0),(4,.i (i:Int)),(5,.i 0)],blk:=[(2,.var [.bool false,.i 0,.i 0,.nils])] })):=by kernel_rfl
theorem qvg (l:List PaT) (i:Nat) (Q:QT) (R:RT):sA CRj Tryd.f14 Q (λ it S=>R it (qaj [0,2,3,4,5,6,7] [2,46,66,82] S)) (hd Tryd.f14 1) ⟨[(0,.sl paS l),(2,.ptr 2 0),(3,.i 0),(5,.i (i:Nat))],[(2,.var [.bool false,.i 0,.i 0,.nils])]⟩ =
  (bc (decide ((i:Int)<(l.length:Int))) ((0:Int)<=(i:Int)/\(i:Int)<(l.length:Int)/\(0:Int)<=0/\(0:Int)<(l.length:Int)/\bc (!(gtP l (i:Int).toNat).1 == (gtP l (0)).1) (Q [.agg [.bool false,.i 0,.i 0,.nils],.i 62] [(2,.var [.bool false,.i 0,.i 0,.nils])]) (R (hd Tryd.f14 1) { env:=[(0,.sl paS l),(2,.ptr 2 0),(3,.i 0),(5,.i (IntKind.i64.wrap ((i:Int)+1)))],blk:=[(2,.var [.bool false,.i 0,.i 0,.nils])] })) (R (hd Tryd.f14 2) { env:=[(0,.sl paS l),(2,.ptr 2 0),(3,.i 0),(5,.i (i:Int)),(6,.win true syS 46 0 (0:Nat)),(7,.i 0)],blk:=[(2,.var [.bool false,.i 0,.i 0,.nils]),(46,.row 82 syS (List.replicate (0:Nat) syS.dflt))] })):=by kernel_rfl
theorem qvf (l:List PaT) (s:List SyT) (i:Nat) (Q:QT) (R:RT):sA CRj Tryd.f14 Q (λ it S=>R it (qaj [0,2,3,4,5,6,7] [2,46,66,82] S)) (hd Tryd.f14 2) ⟨[(0,.sl paS l),(2,.ptr 2 0),(3,.i 0),(6,.win true syS 66 0 s.length),(7,.i (i:Nat))],[(2,.var [.bool false,.i 0,.i 0,.nils]),(66,.row 82 syS s)]⟩ =
  (bc (decide ((i:Int)<(l.length:Int))) ((0:Int)<=(i:Int)/\(i:Int)<(l.length:Int)/\ctSymF.pre ((gtP l (i:Int).toNat),())/\(0:Int)<=(i:Int)/\(i:Int)<(l.length:Int)/\(0:Int)<=0/\(0:Int)<(l.length:Int)/\bc (decide ((gtP l (i:Int).toNat).2.1≠(gtP l (0)).2.1)) (true=true/\Q [.agg [.bool false,.i 0,.i 0,.nils],.i 61] [(2,.var [.bool false,.i 0,.i 0,.nils]),(66,.row 82 syS s)]) (bc (bif false then true else decide ((65536:Int)<IntKind.i64.wrap ((s.length:Int)+(↑(symV (gtP l (i:Int).toNat)).1.length:Int)))) (Q [.agg [.bool false,.i 0,.i 0,.nils],.i 61] [(2,.var [.bool false,.i 0,.i 0,.nils]),(66,.row 82 syS s)]) (s.length=s.length/\(0:Nat)=(0:Nat)/\s.length+(symV (gtP l (i:Int).toNat)).1.length<2 ^ 30/\(24:Nat)<=2 ^ 10/\R (hd Tryd.f14 2) { env:=[(0,.sl paS l),(2,.ptr 2 0),(3,.i 0),(6,.win true syS 82 0 (s.length+(symV (gtP l (i:Int).toNat)).1.length)),(7,.i (IntKind.i64.wrap ((i:Int)+1)))],blk:=[(2,.var [.bool false,.i 0,.i 0,.nils]),(82,.row 82 syS (s++(symV (gtP l (i:Int).toNat)).1))] }))) ((0:Int)<=0/\(0:Int)<(l.length:Int)/\0+s.length<=s.length/\0+s.length<=s.length/\ctCp.pre (winL syS 0 s.length s,(gtP l (0)).2.1,())/\bc (decide ((cpV (winL syS 0 s.length s) (gtP l (0)).2.1).2=(0:Int))) ((0:Int)<=0/\(0:Int)<(l.length:Int)/\Q [.agg [.bool (gtP l (0)).1,.i (cpV (winL syS 0 s.length s) (gtP l (0)).2.1).1.2.1,.i (cpV (winL syS 0 s.length s) (gtP l (0)).2.1).1.2.2.1,.sl opS (cpV (winL syS 0 s.length s) (gtP l (0)).2.1).1.2.2.2],.i (cpV (winL syS 0 s.length s) (gtP l (0)).2.1).2] [(2,.var [.bool (gtP l (0)).1,.i (cpV (winL syS 0 s.length s) (gtP l (0)).2.1).1.2.1,.i (cpV (winL syS 0 s.length s) (gtP l (0)).2.1).1.2.2.1,.sl opS (cpV (winL syS 0 s.length s) (gtP l (0)).2.1).1.2.2.2]),(10,.var [.bool (gtP l (0)).1,.i (cpV (winL syS 0 s.length s) (gtP l (0)).2.1).1.2.1,.i (cpV (winL syS 0 s.length s) (gtP l (0)).2.1).1.2.2.1,.sl opS (cpV (winL syS 0 s.length s) (gtP l (0)).2.1).1.2.2.2])]) (Q [.agg [.bool (cpV (winL syS 0 s.length s) (gtP l (0)).2.1).1.1,.i (cpV (winL syS 0 s.length s) (gtP l (0)).2.1).1.2.1,.i (cpV (winL syS 0 s.length s) (gtP l (0)).2.1).1.2.2.1,.sl opS (cpV (winL syS 0 s.length s) (gtP l (0)).2.1).1.2.2.2],.i (cpV (winL syS 0 s.length s) (gtP l (0)).2.1).2] [(2,.var [.bool (cpV (winL syS 0 s.length s) (gtP l (0)).2.1).1.1,.i (cpV (winL syS 0 s.length s) (gtP l (0)).2.1).1.2.1,.i (cpV (winL syS 0 s.length s) (gtP l (0)).2.1).1.2.2.1,.sl opS (cpV (winL syS 0 s.length s) (gtP l (0)).2.1).1.2.2.2]),(10,.var [.bool (cpV (winL syS 0 s.length s) (gtP l (0)).2.1).1.1,.i (cpV (winL syS 0 s.length s) (gtP l (0)).2.1).1.2.1,.i (cpV (winL syS 0 s.length s) (gtP l (0)).2.1).1.2.2.1,.sl opS (cpV (winL syS 0 s.length s) (gtP l (0)).2.1).1.2.2.2])]))):=by kernel_rfl
theorem cxRp:CxOK Tryd.prog tt G0 CRp:=(cx0.k qw6 (fn:=Tryd.f34)).k qog (fn:=Tryd.f33)
abbrev RgT:Type:=Int × Int
def rgF (s:List SyT) (m:Int) (l:List RgT):List (PaT × Int):=l.map λ x=>cpV (cutS s x.1 x.2) m
def qxa (p:PaT) (l:List RgT):Prop:=l.length<1000000/\(symV p).1.length<=65536/\∀ x∈l,0<=x.1/\x.1<=x.2/\x.2<=(symV p).1.length
def rpaV (p:PaT) (l:List RgT):List PaT × Int:=colF (rgF (symV p).1 p.2.1 l) []
def ctRpa:Ctr:=⟨[paS,.sl rgS],λ x=>qxa x.1 x.2.1,λ x=>[.win true paS 0 0 (rpaV x.1 x.2.1).1.length,.i (rpaV x.1 x.2.1).2],λ x=>[.row 31 paS (rpaV x.1 x.2.1).1]⟩
abbrev RpQ (p:PaT) (l:List RgT):List SV->List (Nat × LB)->Prop:=QC ctRpa (p,l,())
theorem q2r (s:List SyT) (a b:Int):(cutS s a b).length<=s.length:=by
 show ((s.take b.toNat).drop a.toNat).length<=s.length
 rw[List.length_drop,List.length_take];omega
theorem q0s {li:Bool} {m o:Int} {ops:List OpT} {l:List RgT} (hp:qxa (li,m,o,ops) l):∀ (k i:Nat) (q:List PaT),l.length-i=k->i<=l.length->q.length<=i->colF (rgF (symV (li,m,o,ops)).1 m (l.drop i)) q=rpaV (li,m,o,ops) l ->
  GD 28 Tryd.f28 (RpQ (li,m,o,ops) l) (hd Tryd.f28 0) ⟨[(1,.sl rgS l),(2,.ptr 2 0),(6,.sl syS (symV (li,m,o,ops)).1),(8,.win true paS 88 0 q.length),(9,.i (i:Nat))],[(2,.var [.bool li,.i m,.i o,.sl opS ops]),(88,.row 31 paS q)]⟩:=by
 obtain ⟨hl,hs,hx⟩:=hp;intro k
 induction k with
 | zero=>
  intro i q hk hi hq hv;refine qah cxRp (qvd li m o ops l _ q i _ _) ?_;rw[decide_eq_false (show ¬ (i:Int)<(l.length:Int) by omega),bc_f];have hi:i=l.length:=by omega
  subst hi;rw[List.drop_length] at hv;have hv:(q,(0:Int))=rpaV (li,m,o,ops) l:=hv;refine qff (e:=paS) (et:=31) (a:=88) (z:=0) (xs:=q) ?_ ?_ rfl rfl rfl
  ·show [SV.win true paS 0 0 (rpaV (li,m,o,ops) l).1.length,.i (rpaV (li,m,o,ops) l).2]=_
   rw[<- hv]
  ·show [LB.row 31 paS (rpaV (li,m,o,ops) l).1]=_
   rw[<- hv]
 | succ k ih=>
  intro i q hk hi hq hv;have hil:i<l.length:=by omega
  refine qah cxRp (qvd li m o ops l _ q i _ _) ?_;have e1:gtRg l i=l[i]:=gtE (e:=rgS) hil;have hx1:=hx _ (List.getElem_mem hil);rw[decide_eq_true (show (i:Int)<(l.length:Int) by omega),bc_t,IntWalk.i64_in ((i:Int)+1) (by omega)];simp only[Int.toNat_natCast,e1];have ep:Px.part (symV (li,m,o,ops)).1 (some l[i].1) (some l[i].2)=cutS (symV (li,m,o,ops)).1 l[i].1 l[i].2:=rfl;rw[qe0 hil] at hv
  have hv:(match decide ((cpV (cutS (symV (li,m,o,ops)).1 l[i].1 l[i].2) m).2≠0) with
   | true=>([],(cpV (cutS (symV (li,m,o,ops)).1 l[i].1 l[i].2) m).2)
   | false=>colF (rgF (symV (li,m,o,ops)).1 m (l.drop (i+1))) (q++[(cpV (cutS (symV (li,m,o,ops)).1 l[i].1 l[i].2) m).1]))=rpaV (li,m,o,ops) l:=hv
  simp only[ep];have hc:=q2r (symV (li,m,o,ops)).1 l[i].1 l[i].2;refine ⟨by omega,by omega,by omega,by omega,hx1.1,hx1.2.1,hx1.2.2,(show (cutS (symV (li,m,o,ops)).1 l[i].1 l[i].2).length<16777216 by omega),qaf (λ h=>?_) (λ h=>?_)⟩
  ·rw[h] at hv;refine qc5 (e:=paS) (et:=31) (z:=(cpV (cutS (symV (li,m,o,ops)).1 l[i].1 l[i].2) m).2) ?_ ?_ rfl (by decide)
   ·show [SV.win true paS 0 0 (rpaV (li,m,o,ops) l).1.length,.i (rpaV (li,m,o,ops) l).2]=_
    rw[<- hv];rfl
   ·show [LB.row 31 paS (rpaV (li,m,o,ops) l).1]=_
    rw[<- hv]
  ·rw[h] at hv;refine ⟨Nat.le_refl 1,trivial,trivial,?_,by decide,?_⟩
   ·show q.length+1<1073741824
    omega
   ·have nx:=ih (i+1) _ (by omega) (by omega) (by rw[List.length_append];exact Nat.succ_le_succ hq) hv;exact nx.onlyR [(88,48)] rfl ⟨rfl,rfl,rfl,by rw[List.length_append];rfl,rfl,trivial⟩ ⟨rfl,rfl,trivial⟩
theorem q0t:Held Tryd.prog G0 28 ctRpa:=Held.of cxRp (fn:=Tryd.f28) rfl rfl ⟨by decide,by decide⟩ λ ⟨⟨li,m,o,ops⟩,l,_⟩ hp=>by
 refine qah cxRp (q9o li m o ops l _ _) ⟨trivial,?_⟩;exact (q0s hp _ 0 [] rfl (Nat.zero_le _) (Nat.zero_le _) rfl).onlyR [(88,17)] rfl ⟨rfl,rfl,rfl,rfl,rfl,trivial⟩ ⟨rfl,rfl,trivial⟩
open Go.IntKind(i64 u32 u8)
abbrev CRs:CV:=[(26,.inl ctRi),(27,.inl (Im.ctVal True)),(28,.inl ctRpa)]
set_option maxRecDepth 100000
theorem q5f (li:Bool) (m o:Int) (ops:List OpT) (l:List SecT) (Q:QT) (R:RT):sA CRs Tryd.f10 Q (λ it S=>R it (qaj [1,2,6,7] [2,18,19,37,38,66] S)) [.code (qad Tryd.f10)] (entry [paS,.sl seS] ((li,m,o,ops),l,())) =
  (ctRi.pre ((li,m,o,ops),())/\bc (!decide ((chkV (li,m,o,ops)).2=(0:Int))) (Q [.nils,.i 60] [(2,.var [.bool li,.i m,.i o,.sl opS ops])]) (bc li (Q [.nils,.i 62] [(2,.var [.bool li,.i m,.i o,.sl opS ops])]) ((Im.ctVal True).pre (l,o,())/\bc (!Im.validB l o) (Q [.nils,.i 120] [(2,.var [.bool li,.i m,.i o,.sl opS ops])]) (R (hd Tryd.f10 0) { env:=[(1,.sl seS l),(2,.ptr 2 0),(6,.win true rgS 18 0 (0:Nat)),(7,.i 0)],blk:=[(2,.var [.bool li,.i m,.i o,.sl opS ops]),(18,.row 78 rgS (List.replicate (0:Nat) rgS.dflt))] })))):=by kernel_rfl
theorem qri (li:Bool) (m o:Int) (ops:List OpT) (l:List SecT) (r:List RgT) (i:Nat) (Q:QT) (R:RT):sA CRs Tryd.f10 Q (λ it S=>R it (qaj [1,2,6,7] [2,18,19,37,38,66] S)) (hd Tryd.f10 0) ⟨[(1,.sl seS l),(2,.ptr 2 0),(6,.win true rgS 66 0 r.length),(7,.i (i:Nat))],[(2,.var [.bool li,.i m,.i o,.sl opS ops]),(66,.row 78 rgS r)]⟩ =
  (bc (decide ((i:Int)<(l.length:Int))) ((0:Int)<=(i:Int)/\(i:Int)<(l.length:Int)/\(0:Int)<=(i:Int)/\(i:Int)<(l.length:Int)/\0+1<=([((gtSe l (i:Int).toNat).2.1,(gtSe l (i:Int).toNat).2.2.1)]:List rgS.D).length/\r.length=r.length/\(0:Nat)=(0:Nat)/\r.length+(([((gtSe l (i:Int).toNat).2.1,(gtSe l (i:Int).toNat).2.2.1)]:List rgS.D)).length<2 ^ 30/\(16:Nat)<=2 ^ 10/\R (hd Tryd.f10 0) { env:=[(1,.sl seS l),(2,.ptr 2 0),(6,.win true rgS 38 0 (r.length+(([((gtSe l (i:Int).toNat).2.1,(gtSe l (i:Int).toNat).2.2.1)]:List rgS.D)).length)),(7,.i (i64.wrap ((i:Int)+1)))],blk:=[(2,.var [.bool li,.i m,.i o,.sl opS ops]),(37,.row 78 rgS ([((gtSe l (i:Int).toNat).2.1,(gtSe l (i:Int).toNat).2.2.1)]:List rgS.D)),(38,.row 78 rgS (r++([((gtSe l (i:Int).toNat).2.1,(gtSe l (i:Int).toNat).2.2.1)]:List rgS.D)))] }) (0+r.length<=r.length/\0+r.length<=r.length/\ctRpa.pre ((li,m,o,ops),winL rgS 0 r.length r,())/\Q [.win true paS 1167936 0 (rpaV (li,m,o,ops) (winL rgS 0 r.length r)).1.length,.i (rpaV (li,m,o,ops) (winL rgS 0 r.length r)).2] [(2,.var [.bool li,.i m,.i o,.sl opS ops]),(1167936,.row 31 paS (rpaV (li,m,o,ops) (winL rgS 0 r.length r)).1)])):=by kernel_rfl
theorem q5g (li:Bool) (m o:Int) (ops:List OpT) (n:Int) (Q:QT) (R:RT):sA CRs Tryd.f12 Q (λ it S=>R it (qaj [1,2,6,7] [2,18,19,37,38,66] S)) [.code (qad Tryd.f12)] (entry [paS,iI] ((li,m,o,ops),n,())) =
  (ctRi.pre ((li,m,o,ops),())/\bc (!decide ((chkV (li,m,o,ops)).2=(0:Int))) (Q [.nils,.i 60] [(2,.var [.bool li,.i m,.i o,.sl opS ops])]) (bc li (Q [.nils,.i 62] [(2,.var [.bool li,.i m,.i o,.sl opS ops])]) (bc (decide (n<1)) (true=true/\Q [.nils,.i 1] [(2,.var [.bool li,.i m,.i o,.sl opS ops])]) (bc (bif false then true else decide ((4096:Int)<n)) (Q [.nils,.i 1] [(2,.var [.bool li,.i m,.i o,.sl opS ops])]) (R (hd Tryd.f12 0) { env:=[(1,.i n),(2,.ptr 2 0),(6,.win true rgS 19 0 (0:Nat)),(7,.i 0)],blk:=[(2,.var [.bool li,.i m,.i o,.sl opS ops]),(19,.row 78 rgS (List.replicate (0:Nat) rgS.dflt))] }))))):=by kernel_rfl
theorem qrj (li:Bool) (m o:Int) (ops:List OpT) (n:Int) (r:List RgT) (at_:Int) (Q:QT) (R:RT):sA CRs Tryd.f12 Q (λ it S=>R it (qaj [1,2,6,7] [2,18,19,37,38,66] S)) (hd Tryd.f12 0) ⟨[(1,.i n),(2,.ptr 2 0),(6,.win true rgS 66 0 r.length),(7,.i at_)],[(2,.var [.bool li,.i m,.i o,.sl opS ops]),(66,.row 78 rgS r)]⟩ =
  (bc (decide (at_<o)) (0+1<=([(at_,min (i64.wrap (at_+n)) o)]:List rgS.D).length/\r.length=r.length/\(0:Nat)=(0:Nat)/\r.length+(([(at_,min (i64.wrap (at_+n)) o)]:List rgS.D)).length<2 ^ 30/\(16:Nat)<=2 ^ 10/\R (hd Tryd.f12 0) { env:=[(1,.i n),(2,.ptr 2 0),(6,.win true rgS 37 0 (r.length+(([(at_,min (i64.wrap (at_+n)) o)]:List rgS.D)).length)),(7,.i (i64.wrap (at_+n)))],blk:=[(2,.var [.bool li,.i m,.i o,.sl opS ops]),(37,.row 78 rgS (r++([(at_,min (i64.wrap (at_+n)) o)]:List rgS.D)))] }) (0+r.length<=r.length/\0+r.length<=r.length/\ctRpa.pre ((li,m,o,ops),winL rgS 0 r.length r,())/\Q [.win true paS 1163840 0 (rpaV (li,m,o,ops) (winL rgS 0 r.length r)).1.length,.i (rpaV (li,m,o,ops) (winL rgS 0 r.length r)).2] [(2,.var [.bool li,.i m,.i o,.sl opS ops]),(1163840,.row 31 paS (rpaV (li,m,o,ops) (winL rgS 0 r.length r)).1)])):=by kernel_rfl
theorem cxRs:CxOK Tryd.prog tt G0 CRs:=((cx0.k q0t (fn:=Tryd.f28)).k Im.rval_held (fn:=Tryd.f27)).k qin (fn:=Tryd.f26)
theorem qmz {p:PaT} (h:(chkV p).2=0):(symV p).2=0:=by unfold symV;rw[if_pos h]
theorem qw9 {p:PaT} (h:¬ (chkV p).2=0):(psV p).2=60:=by
 have h6:(chkV p).2=60:=by rcases qza p with q | q;exact absurd q h;exact q
 have hs:(symV p).2=60:=by unfold symV;rw[if_neg h];exact h6
 rw[q62 (by omega)];exact hs
theorem qw8 {p:PaT} (h:(chkV p).2=0) (hl:p.1=true):(psV p).2=62:=by rw[q60 (qmz h) hl]
theorem qsd {p:PaT} (h:(chkV p).2=0) (hl:p.1=false):psV p=((symV p).1,0):=q61 (qmz h) hl
theorem qv9 {p:PaT} (h:(chkV p).2=0):(symV p).1.length<=65536/\((symV p).1.length:Int)=p.2.2.1:=by
 have h1:=(qd6 (qmz h)).2.2;have h2:=(qe2 h).2.2.1;omega
theorem qrv {p:PaT} {l:List SecT} {z:Int} (hz:z≠0) (h:(psV p).2=z):splV p l=([],z):=by unfold splV;rw[decide_eq_true (by omega),h]
theorem qr2 {p:PaT} {n:Int} {z:Int} (hz:z≠0) (h:(psV p).2=z):secV p n=([],z):=by unfold secV;rw[decide_eq_true (by omega),h]
theorem qp4 {p:PaT} {l:List SecT} {z:Int} (h:splV p l=([],z)) (blk:List (Nat × LB)):QC ctSpl (p,l,()) [SV.nils,.i z] blk:=by
 refine qc5 (e:=paS) (et:=31) (z:=z) ?_ ?_ rfl (by decide)
 ·show [SV.win true paS 0 0 (splV p l).1.length,.i (splV p l).2]=_;rw[h];rfl
 ·show [LB.row 31 paS (splV p l).1]=_;rw[h]
theorem qm9 {p:PaT} {n:Int} {z:Int} (h:secV p n=([],z)) (blk:List (Nat × LB)):QC ctSec (p,n,()) [SV.nils,.i z] blk:=by
 refine qc5 (e:=paS) (et:=31) (z:=z) ?_ ?_ rfl (by decide)
 ·show [SV.win true paS 0 0 (secV p n).1.length,.i (secV p n).2]=_;rw[h];rfl
 ·show [LB.row 31 paS (secV p n).1]=_;rw[h]
theorem q6l {p:PaT} {l:List SecT} {a:Nat} {r:List PaT × Int} {blk:List (Nat × LB)} (h:splV p l=r) (hb:lk blk a=some (.row 31 paS r.1)):QC ctSpl (p,l,()) [SV.win true paS a 0 r.1.length,.i r.2] blk:=by
 refine qff (e:=paS) (et:=31) (a:=a) (z:=r.2) (xs:=r.1) ?_ ?_ rfl rfl hb
 ·show [SV.win true paS 0 0 (splV p l).1.length,.i (splV p l).2]=_;rw[h]
 ·show [LB.row 31 paS (splV p l).1]=_;rw[h]
theorem q6s {p:PaT} {n:Int} {a:Nat} {r:List PaT × Int} {blk:List (Nat × LB)} (h:secV p n=r) (hb:lk blk a=some (.row 31 paS r.1)):QC ctSec (p,n,()) [SV.win true paS a 0 r.1.length,.i r.2] blk:=by
 refine qff (e:=paS) (et:=31) (a:=a) (z:=r.2) (xs:=r.1) ?_ ?_ rfl rfl hb
 ·show [SV.win true paS 0 0 (secV p n).1.length,.i (secV p n).2]=_;rw[h]
 ·show [LB.row 31 paS (secV p n).1]=_;rw[h]
abbrev rgO (l:List SecT):List RgT:=l.map λ x=>(x.2.1,x.2.2.1)
section
variable {li:Bool} {m o:Int} {ops:List OpT}
theorem qwu {l:List SecT} (hc:(chkV (li,m,o,ops)).2=0) (hl:li=false) (hv:Im.validB l o=true):∀ (k i:Nat),l.length-i=k->i<=l.length ->
  GD 10 Tryd.f10 (QC ctSpl ((li,m,o,ops),l,())) (hd Tryd.f10 0) ⟨[(1,.sl seS l),(2,.ptr 2 0),(6,.win true rgS 66 0 (rgO (l.take i)).length),(7,.i (i:Nat))],[(2,.var [.bool li,.i m,.i o,.sl opS ops]),(66,.row 78 rgS (rgO (l.take i)))]⟩:=by
 obtain ⟨h8,hx⟩:=qmx hv;have h8:l.length<=8:=h8;obtain ⟨s1,s2⟩:=qv9 hc;have s2:((symV (li,m,o,ops)).1.length:Int)=o:=s2;intro k
 induction k with
 | zero=>
  intro i hk hi;refine qah cxRs (qri li m o ops l (rgO (l.take i)) i _ _) ?_;rw[decide_eq_false (show ¬ (i:Int)<(l.length:Int) by omega),bc_f,List.take_of_length_le (by omega),winA (e:=rgS)];have e:splV (li,m,o,ops) l=rpaV (li,m,o,ops) (rgO l):=by
   unfold splV;rw[qsd hc hl,decide_eq_false (by simp),show Im.validB l (li,m,o,ops).2.2.1=true from hv]
   show colF ((secF (symV (li,m,o,ops)).1 l).map (cpV · m)) []=colF (rgF (symV (li,m,o,ops)).1 m (rgO l)) []
   unfold rgF secF rgO;rw[List.map_map,List.map_map];rfl
  have pr:qxa (li,m,o,ops) (rgO l):=⟨by rw[List.length_map];omega,s1,λ x hq=>by
   obtain ⟨y,hy,rfl⟩:=List.mem_map.1 hq;have:=hx y hy;refine ⟨this.1,?_,?_⟩
   ·show y.2.1<=y.2.2.1;omega
   ·show y.2.2.1<=_;rw[s2];exact this.2.2⟩
  refine ⟨by omega,by omega,pr,?_⟩;exact q6l e rfl
 | succ k ih=>
  intro i hk hi;have hil:i<l.length:=by omega
  refine qah cxRs (qri li m o ops l (rgO (l.take i)) i _ _) ?_;have nx:=ih (i+1) (by omega) (by omega);have e1:gtSe l i=l[i]:=qyl hil;have e2:rgO (l.take (i+1))=rgO (l.take i)++[(l[i].2.1,l[i].2.2.1)]:=by
   unfold rgO;rw[List.take_succ_eq_append_getElem hil,List.map_append];rfl
  rw[e2] at nx;have hr:(rgO (l.take i)).length<=8:=by rw[List.length_map,List.length_take];omega
  rw[decide_eq_true (show (i:Int)<(l.length:Int) by omega),bc_t,IntWalk.i64_in ((i:Int)+1) (by omega)];simp only[Int.toNat_natCast,e1];generalize rgO (l.take i)=r at *;refine ⟨by omega,by omega,by omega,by omega,Nat.le_refl 1,trivial,trivial,?_,by decide,?_⟩
  ·show r.length+1<1073741824
   omega
  ·exact nx.onlyR [(66,38)] rfl ⟨rfl,rfl,by rw[List.length_append];rfl,rfl,trivial⟩ ⟨rfl,rfl,trivial⟩
theorem q0n (l:List SecT) (hl:∀ s∈l,s.1.length<2 ^ 62):GD 10 Tryd.f10 (QC ctSpl ((li,m,o,ops),l,())) [.code (qad Tryd.f10)] (entry [paS,.sl seS] ((li,m,o,ops),l,())):=by
 refine qah cxRs (q5f li m o ops l _ _) ⟨trivial,qaf (λ h=>?_) (λ h=>qaf (λ h2=>?_) (λ h2=>⟨⟨trivial,hl⟩,qaf (λ h3=>?_) (λ h3=>?_)⟩))⟩
 ·exact qp4 (qrv (by decide) (qw9 (by simpa using h))) _
 all_goals have hc:(chkV (li,m,o,ops)).2=0:=by simpa using h
 ·exact qp4 (qrv (by decide) (qw8 hc h2)) _
 ·have h3:Im.validB l o=false:=by simpa using h3
  refine qp4 ?_ _;unfold splV;rw[qsd hc h2,decide_eq_false (by simp),show Im.validB l (li,m,o,ops).2.2.1=false from h3]
 ·have h3:Im.validB l o=true:=by simpa using h3
  exact (qwu hc h2 h3 _ 0 rfl (Nat.zero_le _)).onlyR [(66,18)] rfl ⟨rfl,rfl,rfl,rfl,trivial⟩ ⟨rfl,rfl,trivial⟩
theorem qww {n:Nat} (hn:1<=n) (hn2:n<=4096) (hc:(chkV (li,m,o,ops)).2=0) (hl:li=false):∀ (f i:Nat) (r:List RgT),(symV (li,m,o,ops)).1.length<=i+f->i<=(symV (li,m,o,ops)).1.length+4096->r.length<=i->(∀ x∈r,0<=x.1/\x.1<=x.2/\x.2<=(symV (li,m,o,ops)).1.length)->rgF (symV (li,m,o,ops)).1 m r++(qh7 (symV (li,m,o,ops)).1 n f i).map (cpV · m)=(qbp (symV (li,m,o,ops)).1 (n:Int)).map (cpV · m) ->
  GD 12 Tryd.f12 (QC ctSec ((li,m,o,ops),(n:Int),())) (hd Tryd.f12 0) ⟨[(1,.i (n:Nat)),(2,.ptr 2 0),(6,.win true rgS 66 0 r.length),(7,.i (i:Nat))],[(2,.var [.bool li,.i m,.i o,.sl opS ops]),(66,.row 78 rgS r)]⟩:=by
 obtain ⟨s1,s2⟩:=qv9 hc;have s2:((symV (li,m,o,ops)).1.length:Int)=o:=s2;have fin:∀ (i:Nat) (r:List RgT),¬ i<(symV (li,m,o,ops)).1.length->i<=(symV (li,m,o,ops)).1.length+4096->r.length<=i->(∀ x∈r,0<=x.1/\x.1<=x.2/\x.2<=(symV (li,m,o,ops)).1.length)->rgF (symV (li,m,o,ops)).1 m r=(qbp (symV (li,m,o,ops)).1 (n:Int)).map (cpV · m) ->
  GD 12 Tryd.f12 (QC ctSec ((li,m,o,ops),(n:Int),())) (hd Tryd.f12 0) ⟨[(1,.i (n:Nat)),(2,.ptr 2 0),(6,.win true rgS 66 0 r.length),(7,.i (i:Nat))],[(2,.var [.bool li,.i m,.i o,.sl opS ops]),(66,.row 78 rgS r)]⟩:=by
  intro i r hi hi2 hr hx hv;refine qah cxRs (qrj li m o ops n r i _ _) ?_;rw[decide_eq_false (show ¬ (i:Int)<o by omega),bc_f,winA (e:=rgS)];have e:secV (li,m,o,ops) (n:Int)=rpaV (li,m,o,ops) r:=by
   unfold secV;rw[qsd hc hl,decide_eq_false (by simp),decide_eq_true (show 1<=(n:Int)/\(n:Int)<=4096 by omega)]
   show colF ((qbp (symV (li,m,o,ops)).1 (n:Int)).map (cpV · m)) []=colF (rgF (symV (li,m,o,ops)).1 m r) []
   rw[hv]
  refine ⟨by omega,by omega,⟨by show r.length<1000000;omega,s1,hx⟩,?_⟩;exact q6s e rfl
 intro f
 induction f with
 | zero=>
  intro i r hk hi hr hx hv;refine fin i r (by omega) hi hr hx ?_;rw[<- hv]
  show _=_++[]
  rw[List.append_nil]
 | succ f ih=>
  intro i r hk hi hr hx hv;rw[qh7] at hv;by_cases hil:i<(symV (li,m,o,ops)).1.length
  ·rw[if_pos hil] at hv;have hm:((i+min n ((symV (li,m,o,ops)).1.length-i):Nat):Int)=min ((i:Int)+(n:Int)) o:=by omega
   have nx:=ih (i+n) (r++[((i:Int),min ((i:Int)+(n:Int)) o)]) (by omega) (by omega) (by rw[List.length_append];show r.length+1<=_;omega) (λ x hq=>by
    rcases List.mem_append.1 hq with hq | hq
    ·exact hx x hq
    ·rw[List.mem_singleton] at hq;rw[hq];refine ⟨?_,?_,?_⟩
     ·show 0<=(i:Int);omega
     ·show (i:Int)<=min ((i:Int)+(n:Int)) o;omega
     ·show min ((i:Int)+(n:Int)) o<=_;omega) (by
    rw[<- hv];unfold rgF
    rw[List.map_append,List.append_assoc,hm];rfl)
   refine qah cxRs (qrj li m o ops n r i _ _) ?_;rw[decide_eq_true (show (i:Int)<o by omega),bc_t,IntWalk.i64_in ((i:Int)+(n:Int)) (by omega)];refine ⟨Nat.le_refl 1,rfl,rfl,?_,by decide,?_⟩
   ·show r.length+1<1073741824
    omega
   ·exact nx.onlyR [(66,37)] rfl ⟨rfl,rfl,by rw[List.length_append];rfl,rfl,trivial⟩ ⟨rfl,rfl,trivial⟩
  ·rw[if_neg hil] at hv;refine fin i r hil hi hr hx ?_;rw[<- hv]
   show _=_++[]
   rw[List.append_nil]
theorem q0p (n:Int):GD 12 Tryd.f12 (QC ctSec ((li,m,o,ops),n,())) [.code (qad Tryd.f12)] (entry [paS,iI] ((li,m,o,ops),n,())):=by
 have bad:∀ {h:(chkV (li,m,o,ops)).2=0} {h2:li=false},¬ (1<=n/\n<=4096)->secV (li,m,o,ops) n=([],1):=fun {h h2} h3=>by
  unfold secV;rw[qsd h h2,decide_eq_false (by simp),decide_eq_false h3]
 refine qah cxRs (q5g li m o ops n _ _) ⟨trivial,qaf (λ h=>?_) (λ h=>qaf (λ h2=>?_) (λ h2=>qaf (λ h3=>⟨rfl,?_⟩) (λ h3=>qaf (λ h4=>?_) (λ h4=>?_))))⟩
 ·exact qm9 (qr2 (by decide) (qw9 (by simpa using h))) _
 all_goals have hc:(chkV (li,m,o,ops)).2=0:=by simpa using h
 ·exact qm9 (qr2 (by decide) (qw8 hc h2)) _
 ·have h3:n<1:=of_decide_eq_true h3;exact qm9 (bad (h:=hc) (h2:=h2) (by omega)) _
 ·have h4:4096<n:=of_decide_eq_true h4;exact qm9 (bad (h:=hc) (h2:=h2) (by omega)) _
 ·have h3:¬ n<1:=of_decide_eq_false h3;have h4:¬ 4096<n:=of_decide_eq_false h4;obtain ⟨k,rfl⟩:=Int.eq_ofNat_of_zero_le (show 0<=n by omega);exact (qww (n:=k) (by omega) (by omega) hc h2 _ 0 [] (by rw[Nat.zero_add];exact Nat.le_refl _) (by omega) (Nat.zero_le _) (λ x hx=>by cases hx) rfl).onlyR [(66,19)] rfl ⟨rfl,rfl,rfl,rfl,trivial⟩ ⟨rfl,rfl,trivial⟩
end
theorem rspl_held:Held Tryd.prog G0 10 ctSpl:=Held.of cxRs (fn:=Tryd.f10) rfl rfl ⟨by decide,by decide⟩ λ ⟨⟨_,_,_,_⟩,l,_⟩ hp=>q0n l hp
theorem rsec_held:Held Tryd.prog G0 12 ctSec:=Held.of cxRs (fn:=Tryd.f12) rfl rfl ⟨by decide,by decide⟩ λ ⟨⟨_,_,_,_⟩,n,_⟩ _=>q0p n
theorem cxRj:CxOK Tryd.prog tt G0 CRj:=((cx0.k qw6 (fn:=Tryd.f34)).k qog (fn:=Tryd.f33)).k qin (fn:=Tryd.f26)
theorem qy9:∀ {l:List PaT} {p:PaT},p∈l->¬ (chkV p).2=0->ckaF l=60
 | q::l,p,hp,h=>by
  rw[ckaF];by_cases hq:(chkV q).2≠0
  ·rw[decide_eq_true hq]
   show (chkV q).2=60
   rcases qza q with h1 | h1
   ·exact absurd h1 hq
   ·exact h1
  ·rw[decide_eq_false hq];rcases List.mem_cons.1 hp with rfl | hp
   ·exact absurd h hq
   ·exact qy9 hp h
theorem qy8:∀ {l:List PaT},(∀ p∈l,(chkV p).2=0)->ckaF l=0
 | [],_=>rfl
 | q::l,h=>by
  rw[ckaF,decide_eq_false (by simpa using h q (List.mem_cons_self ..))];exact qy8 λ p hp=>h p (List.mem_cons_of_mem _ hp)
theorem q8t {s:List SyT} {m:Int} (h:¬ (cpV s m).2=0):(cpV s m).1=(false,0,0,[]):=by
 unfold cpV at h |-;by_cases h1:(ofV s m).2=60
 ·rw[if_pos h1]
 ·rw[if_neg h1] at h |-;unfold poV at h |-;by_cases h2:4096<(chL s).length
  ·rw[if_pos h2]
  ·rw[if_neg h2] at h;exact absurd rfl h
theorem qyb {l:List PaT} {z:Int} {blk:List (Nat × LB)} (hv:jnV l=((false,0,0,[]),z)):QC ctJn (l,()) [.agg [.bool false,.i 0,.i 0,.nils],.i z] blk:=
 QC.mt (by show MtL _ [paV (jnV l).1,.i (jnV l).2] _;rw[hv];exact qeh _) rfl
theorem qst {l:List PaT} {z:Int} {blk:List (Nat × LB)} (hz:z≠0) (h:cjV l=z):QC ctJn (l,()) [.agg [.bool false,.i 0,.i 0,.nils],.i z] blk:=
 qyb (by unfold jnV;rw[decide_eq_true (show cjV l≠0 by omega),h])
section
variable {l:List PaT} (h0:0<l.length) (hl:l.length<1000000)
include h0 hl
abbrev GDj (l:List PaT) (it:List Item) (S:PS):Prop:=GD 14 Tryd.f14 (QC ctJn (l,())) it S
abbrev q46:Nat × LB:=(2,.var [.bool false,.i 0,.i 0,.nils])
theorem q0y (hc:∀ p∈l,(chkV p).2=0):∀ (k i:Nat),l.length-i=k->i<=l.length->(ayaF (l.take i)).length<=65536->cjV l=lenF (gtP l 0).2.1 (l.drop i) (65536-((ayaF (l.take i)).length:Int)) ->
  GDj l (hd Tryd.f14 2) ⟨[(0,.sl paS l),(2,.ptr 2 0),(3,.i 0),(6,.win true syS 66 0 (ayaF (l.take i)).length),(7,.i (i:Nat))],[q46,(66,.row 82 syS (ayaF (l.take i)))]⟩:=by
 intro k
 induction k with
 | zero=>
  intro i hk hi hs hv;refine qah cxRj (qvf l (ayaF (l.take i)) i _ _) ?_;rw[decide_eq_false (show ¬ (i:Int)<(l.length:Int) by omega),bc_f];have hi:i=l.length:=by omega
  subst hi;rw[List.drop_length] at hv;have hv:cjV l=0:=hv;rw[List.take_length] at hs |-;simp only[winA (e:=syS)];refine ⟨by omega,by omega,by omega,by omega,(show (ayaF l).length<16777216 by omega),qaf (λ h=>?_) (λ h=>?_)⟩
  ·have h:(cpV (ayaF l) (gtP l 0).2.1).2=0:=of_decide_eq_true h;refine ⟨by omega,by omega,QC.flat ?_ rfl rfl⟩;have hj:jnV l=(((gtP l 0).1,(cpV (ayaF l) (gtP l 0).2.1).1.2),0):=by unfold jnV;rw[decide_eq_false (by simpa using hv),decide_eq_false (by simpa using h)]
   show [paV (jnV l).1,.i (jnV l).2]=_
   rw[hj,h];rfl
  ·have h:¬ (cpV (ayaF l) (gtP l 0).2.1).2=0:=of_decide_eq_false h;have hj:jnV l=((false,0,0,[]),(cpV (ayaF l) (gtP l 0).2.1).2):=by unfold jnV;rw[decide_eq_false (by simpa using hv),decide_eq_true h]
   refine QC.flat ?_ rfl rfl
   show [paV (jnV l).1,.i (jnV l).2]=_
   rw[hj,q8t h];rfl
 | succ k ih=>
  intro i hk hi hs hv;have hil:i<l.length:=by omega
  refine qah cxRj (qvf l (ayaF (l.take i)) i _ _) ?_;rw[decide_eq_true (show (i:Int)<(l.length:Int) by omega),bc_t,IntWalk.i64_in ((i:Int)+1) (by omega)];simp only[Int.toNat_natCast];have hci:(chkV (gtP l i)).2=0:=by rw[qc3 hil];exact hc _ (List.getElem_mem hil)
  obtain ⟨s1,s2⟩:(symV (gtP l i)).1.length<=65536/\((symV (gtP l i)).1.length:Int)=(gtP l i).2.2.1:=by
   have h1:=(qd6 (p:=gtP l i) (by unfold symV;rw[if_pos hci])).2.2;have h2:=(qe2 hci).2.2.1;omega
  have nx:=ih (i+1) (by omega) (by omega);rw[qfz hil,List.length_append] at nx;rw[qe0 hil,<- qc3 hil] at hv;rw[lenF] at hv;generalize ayaF (l.take i)=s at *;refine ⟨by omega,by omega,trivial,by omega,by omega,by omega,by omega,qaf (λ h=>⟨trivial,?_⟩) (λ h=>?_)⟩
  ·rw[h] at hv;exact qst (by decide) hv
  ·rw[h] at hv;have hw:=IntWalk.i64_in ((s.length:Int)+((symV (gtP l i)).1.length:Int)) (by omega);refine qaf (λ h2=>?_) (λ h2=>?_)
   ·have h2:(65536:Int)<(s.length:Int)+((symV (gtP l i)).1.length:Int):=by
     have h2:decide ((65536:Int)<IntKind.i64.wrap ((s.length:Int)+((symV (gtP l i)).1.length:Int)))=true:=h2;rw[hw] at h2;exact of_decide_eq_true h2
    refine qst (by decide) ?_;rw[hv,decide_eq_true (by omega)]
   ·have h2:¬ (65536:Int)<(s.length:Int)+((symV (gtP l i)).1.length:Int):=by
     have h2:decide ((65536:Int)<IntKind.i64.wrap ((s.length:Int)+((symV (gtP l i)).1.length:Int)))=false:=h2;rw[hw] at h2;exact of_decide_eq_false h2
    refine ⟨trivial,trivial,?_,by decide,?_⟩
    ·show s.length+(symV (gtP l i)).1.length<1073741824
     omega
    ·refine (nx (by omega) ?_).onlyR [(66,82)] rfl ⟨rfl,rfl,rfl,rfl,rfl,trivial⟩ ⟨rfl,rfl,trivial⟩;rw[hv,decide_eq_false (by omega)]
     show lenF _ _ _=lenF _ _ _
     congr 1
     omega
theorem q0z (hc:∀ p∈l,(chkV p).2=0):∀ (k i:Nat),l.length-i=k->i<=l.length->(l.take i).any (othB l)=false ->
  GDj l (hd Tryd.f14 1) ⟨[(0,.sl paS l),(2,.ptr 2 0),(3,.i 0),(5,.i (i:Nat))],[q46]⟩:=by
 have hcj:∀ b,l.any (othB l)=b->cjV l=match b with
   | true=>62
   | false=>lenF (gtP l 0).2.1 l 65536:=λ b hb=>by
  unfold cjV;rw[decide_eq_false (show ¬ l.length=0 by omega),decide_eq_false (show ¬ ckaF l≠0 by simpa using qy8 hc),hb]
  cases b <;> rfl
 intro k
 induction k with
 | zero=>
  intro i hk hi ho;refine qah cxRj (qvg l i _ _) ?_;rw[decide_eq_false (show ¬ (i:Int)<(l.length:Int) by omega),bc_f];have hi:i=l.length:=by omega
  subst hi;rw[List.take_length] at ho;have g:=q0y h0 hl hc _ 0 rfl (Nat.zero_le _) (Nat.zero_le _) (hcj _ ho);exact g.onlyR [(66,46)] rfl ⟨rfl,rfl,rfl,rfl,rfl,trivial⟩ ⟨rfl,rfl,trivial⟩
 | succ k ih=>
  intro i hk hi ho;have hil:i<l.length:=by omega
  refine qah cxRj (qvg l i _ _) ?_;rw[decide_eq_true (show (i:Int)<(l.length:Int) by omega),bc_t,IntWalk.i64_in ((i:Int)+1) (by omega)];simp only[Int.toNat_natCast];refine ⟨by omega,by omega,by omega,by omega,qaf (λ h=>?_) (λ h=>?_)⟩
  ·refine qst (by decide) (hcj true ?_);refine List.any_eq_true.2 ⟨l[i],List.getElem_mem hil,?_⟩;rw[<- qc3 hil];exact h
  ·have nx:=ih (i+1) (by omega) (by omega) (by
    rw[List.take_succ_eq_append_getElem hil,List.any_append,ho,List.any_cons,List.any_nil,Bool.or_false,Bool.false_or,<- qc3 hil]
    exact h)
   exact nx.only ⟨rfl,rfl,rfl,rfl,trivial⟩ ⟨rfl,trivial⟩
theorem q00:∀ (k i:Nat),l.length-i=k->i<=l.length->(∀ p∈l.take i,(chkV p).2=0) ->
  GDj l (hd Tryd.f14 0) ⟨[(0,.sl paS l),(2,.ptr 2 0),(3,.i 0),(4,.i (i:Nat))],[q46]⟩:=by
 intro k
 induction k with
 | zero=>
  intro i hk hi ho;refine qah cxRj (qvh l i _ _) ?_;rw[decide_eq_false (show ¬ (i:Int)<(l.length:Int) by omega),bc_f];rw[List.take_of_length_le (by omega)] at ho;exact (q0z h0 hl ho _ 0 rfl (Nat.zero_le _) rfl).only ⟨rfl,rfl,rfl,rfl,trivial⟩ ⟨rfl,trivial⟩
 | succ k ih=>
  intro i hk hi ho;have hil:i<l.length:=by omega
  refine qah cxRj (qvh l i _ _) ?_;rw[decide_eq_true (show (i:Int)<(l.length:Int) by omega),bc_t,IntWalk.i64_in ((i:Int)+1) (by omega)];simp only[Int.toNat_natCast];refine ⟨by omega,by omega,trivial,qaf (λ h=>?_) (λ h=>?_)⟩
  ·refine qst (by decide) ?_;have h:¬ (chkV (gtP l i)).2=0:=by simpa using h
   rw[qc3 hil] at h;have:=qy9 (List.getElem_mem hil) h;unfold cjV;rw[decide_eq_false (show ¬ l.length=0 by omega),decide_eq_true (show ckaF l≠0 by omega)];exact this
  ·have h:(chkV (gtP l i)).2=0:=by simpa using h
   have nx:=ih (i+1) (by omega) (by omega) (λ p hp=>by
    rw[List.take_succ_eq_append_getElem hil] at hp;rcases List.mem_append.1 hp with hp | hp
    ·exact ho p hp
    ·rw[List.mem_singleton] at hp
     rw[hp,<- qc3 hil];exact h)
   exact nx.only ⟨rfl,rfl,rfl,rfl,trivial⟩ ⟨rfl,trivial⟩
end
theorem q0x:Held Tryd.prog G0 14 ctJn:=Held.of cxRj (fn:=Tryd.f14) rfl rfl ⟨by decide,by decide⟩ λ ⟨l,_⟩ hp=>by
 have hp:l.length<1000000:=hp;refine qah cxRj (q9q l _ _) (qaf (λ h=>?_) (λ h=>?_))
 ·have h:(l.length:Int)=0:=of_decide_eq_true h;refine qyb ?_;have hc:cjV l=1:=by unfold cjV;rw[decide_eq_true (by omega)]
  unfold jnV;rw[decide_eq_true (show cjV l≠0 by omega),hc]
 ·have h:¬ (l.length:Int)=0:=of_decide_eq_false h;exact (q00 (l:=l) (by omega) hp _ 0 rfl (Nat.zero_le _) (λ p hp=>by cases hp)).only ⟨rfl,rfl,rfl,rfl,trivial⟩ ⟨rfl,trivial⟩
def ctMnF:Ctr:=⟨[.sl raS,iI],λ x=>qxb x.1 x.2.1,λ x=>[.sl paS (mnV x.1 x.2.1)],λ _=>[]⟩
def ctMkF:Ctr:=⟨[.sl Im.rwS,iI],λ x=>Im.preMk x.1 x.2.1,λ x=>[.sl seS (Im.mk x.1 x.2.1)],λ _=>[]⟩
def CMr:CV:=[(6,.inl ctSn12),(7,.inl ctMnF),(8,.inl ctMkF),(9,.inl ctSplF),(10,.inl ctSplF),(11,.inl ctSecF),(12,.inl ctSecF),(13,.inl ctJn),(14,.inl ctJn),(15,.inl ctSml),(16,.inl ctSm)]
set_option maxRecDepth 100000
theorem q9k (x:List (Int × List (List Int))) (r:List (Int × Int × Int × Bool)) (w:List Int) (Q:List SV->Prop) (R:List Item->PS->Prop):sA CMr Tryd.f3 (λ rs _=>Q rs) R [.code (qad Tryd.f3)] (entry [.sl raS,.sl Im.rwS,.arr 2 (.int .i8)] (x,r,w,())) =
  (ctSn12.pre ()/\ctMnF.pre (x,(4:Int),())/\(0:Int)<=0/\(0:Int)<(↑(mnV x (4:Int)).length:Int)/\(0:Int)<=1/\(1:Int)<(↑(2:Nat):Int)/\1<2/\(3:Int)≠0/\ctMkF.pre (r,max (0:Int) (i64.wrap ((gtP (mnV x (4:Int)) (0)).2.2.1+(i64.wrap (gt (Sh.int IntKind.i8) w (1))).tmod (3:Int))),())/\ctSplF.pre ((gtP (mnV x (4:Int)) (0)),Im.mk r (max (0:Int) (i64.wrap ((gtP (mnV x (4:Int)) (0)).2.2.1+(i64.wrap (gt (Sh.int IntKind.i8) w (1))).tmod (3:Int)))),())/\ctSplF.pre ((gtP (mnV x (4:Int)) (0)),Im.mk r (max (0:Int) (i64.wrap ((gtP (mnV x (4:Int)) (0)).2.2.1+(i64.wrap (gt (Sh.int IntKind.i8) w (1))).tmod (3:Int)))),())/\(0:Int)<=0/\(0:Int)<(↑(2:Nat):Int)/\0<2/\ctSecF.pre ((gtP (mnV x (4:Int)) (0)),i64.wrap (gt (Sh.int IntKind.i8) w (0)),())/\(0:Int)<=0/\(0:Int)<(↑(2:Nat):Int)/\0<2/\ctSecF.pre ((gtP (mnV x (4:Int)) (0)),i64.wrap (gt (Sh.int IntKind.i8) w (0)),())/\ctJn.pre (mnV x (4:Int),())/\ctJn.pre (mnV x (4:Int),())/\ctSml.pre ((splV (gtP (mnV x (4:Int)) (0)) (Im.mk r (max (0:Int) (i64.wrap ((gtP (mnV x (4:Int)) (0)).2.2.1+(i64.wrap (gt (Sh.int IntKind.i8) w (1))).tmod (3:Int)))))).1,(splV (gtP (mnV x (4:Int)) (0)) (Im.mk r (max (0:Int) (i64.wrap ((gtP (mnV x (4:Int)) (0)).2.2.1+(i64.wrap (gt (Sh.int IntKind.i8) w (1))).tmod (3:Int)))))).1,())/\bc (smlB (splV (gtP (mnV x (4:Int)) (0)) (Im.mk r (max (0:Int) (i64.wrap ((gtP (mnV x (4:Int)) (0)).2.2.1+(i64.wrap (gt (Sh.int IntKind.i8) w (1))).tmod (3:Int)))))).1 (splV (gtP (mnV x (4:Int)) (0)) (Im.mk r (max (0:Int) (i64.wrap ((gtP (mnV x (4:Int)) (0)).2.2.1+(i64.wrap (gt (Sh.int IntKind.i8) w (1))).tmod (3:Int)))))).1) (bc (decide ((splV (gtP (mnV x (4:Int)) (0)) (Im.mk r (max (0:Int) (i64.wrap ((gtP (mnV x (4:Int)) (0)).2.2.1+(i64.wrap (gt (Sh.int IntKind.i8) w (1))).tmod (3:Int)))))).2=(splV (gtP (mnV x (4:Int)) (0)) (Im.mk r (max (0:Int) (i64.wrap ((gtP (mnV x (4:Int)) (0)).2.2.1+(i64.wrap (gt (Sh.int IntKind.i8) w (1))).tmod (3:Int)))))).2)) (ctSml.pre ((secV (gtP (mnV x (4:Int)) (0)) (i64.wrap (gt (Sh.int IntKind.i8) w (0)))).1,(secV (gtP (mnV x (4:Int)) (0)) (i64.wrap (gt (Sh.int IntKind.i8) w (0)))).1,())/\bc (bif true then smlB (secV (gtP (mnV x (4:Int)) (0)) (i64.wrap (gt (Sh.int IntKind.i8) w (0)))).1 (secV (gtP (mnV x (4:Int)) (0)) (i64.wrap (gt (Sh.int IntKind.i8) w (0)))).1 else false) (bc (decide ((secV (gtP (mnV x (4:Int)) (0)) (i64.wrap (gt (Sh.int IntKind.i8) w (0)))).2=(secV (gtP (mnV x (4:Int)) (0)) (i64.wrap (gt (Sh.int IntKind.i8) w (0)))).2)) (ctSm.pre (((jnV (mnV x (4:Int))).1),((jnV (mnV x (4:Int))).1),())/\bc (bif true then smB ((jnV (mnV x (4:Int))).1) ((jnV (mnV x (4:Int))).1) else false) (bc (decide ((jnV (mnV x (4:Int))).2=(jnV (mnV x (4:Int))).2)) (Q [.bool true]) (false=false/\Q [.bool false])) (false=false/\false=false/\Q [.bool false])) (false=false/\false=false/\false=false/\Q [.bool false])) (false=false/\false=false/\false=false/\false=false/\Q [.bool false])) (false=false/\false=false/\false=false/\false=false/\false=false/\Q [.bool false])) (false=false/\false=false/\false=false/\false=false/\false=false/\false=false/\Q [.bool false])):=by kernel_rfl
end Go.Proofs.YtdeacfammdjajaaDoor
namespace Go.Proofs.YtdeacfammdjajaaDoor.Im
open Go.Px Go.Ax
set_option maxRecDepth 100000
theorem qsn (n:Int):∀ (nm:List (List UInt8)) (at_:Int) (l:List Raw),∀ s∈mkF n nm at_ l,s.1∈nm
 | [],_,_,s,hs=>by rw[mkF] at hs;cases hs;intros;contradiction
 | _::_,_,[],s,hs=>by rw[mkF] at hs;cases hs;intros;contradiction
 | nm::nms,at_,r::l,s,hs=>by
  rw[mkF] at hs;split at hs
  ·cases hs
  ·rcases List.mem_cons.1 hs with rfl | hs
   ·obtain ⟨g,w,od,c⟩:=r
    cases c <;> simp[qtx]
   ·exact List.mem_cons_of_mem _ (qsn n nms _ l s hs)
def okNs (l:List Sec):Prop:=∀ s∈l,s.1.length<2 ^ 62
theorem mk_ok (raw:List Raw) (n:Int):okNs (mk raw n):=λ s hs=>by
 have:=qsn n nmL 0 raw s hs;have h:∀ x∈nmL,x.length<2 ^ 62:=by decide
 exact h _ this
end Go.Proofs.YtdeacfammdjajaaDoor.Im
namespace Go.Proofs.YtdeacfammdjajaaDoor
open Go.Px Go.Ax
set_option maxRecDepth 100000
attribute [local irreducible] Go.Px.sy Go.Px.syE
theorem q1t:Held Tryd.prog G0 7 ctMnF:=by
 have h:=mn_held.frz (λ x _=>by
  show inL 0 (mnV x.1 x.2.1).length [SV.win true paS 0 0 (mnV x.1 x.2.1).length]/\True
  exact ⟨⟨λ _=>by omega,trivial⟩,trivial⟩)
 refine h.iff rfl (λ x h=>h) (λ x _=>?_) (λ x _=>rfl)
 show [SV.sl paS (mnV x.1 x.2.1)]=[SV.sl paS (winL paS 0 (mnV x.1 x.2.1).length (mnV x.1 x.2.1))]
 rw[winA (e:=paS)]
theorem q1u:Held Tryd.prog G0 8 ctMkF:=by
 have h:=Im.mk_held.frz (λ x _=>by
  show inL 0 (Im.mk x.1 x.2.1).length [SV.win true seS 0 0 (Im.mk x.1 x.2.1).length]/\True
  exact ⟨⟨λ _=>by omega,trivial⟩,trivial⟩)
 refine h.iff rfl (λ x h=>h) (λ x _=>?_) (λ x _=>rfl)
 show [SV.sl seS (Im.mk x.1 x.2.1)]=[SV.sl seS (winL seS 0 (Im.mk x.1 x.2.1).length (Im.mk x.1 x.2.1))]
 rw[winA (e:=seS)]
theorem qt0:Held Tryd.prog G0 12 ctSecF:=by
 have h:=rsec_held.frz (λ x _=>by
  show inL 0 (secV x.1 x.2.1).1.length [SV.win true paS 0 0 (secV x.1 x.2.1).1.length,SV.i (secV x.1 x.2.1).2]/\True
  exact ⟨⟨λ _=>by omega,⟨trivial,trivial⟩⟩,trivial⟩)
 refine h.iff rfl (λ x h=>h) (λ x _=>?_) (λ x _=>rfl)
 show [SV.sl paS (secV x.1 x.2.1).1,SV.i (secV x.1 x.2.1).2]=[SV.sl paS (winL paS 0 (secV x.1 x.2.1).1.length (secV x.1 x.2.1).1),SV.i (secV x.1 x.2.1).2]
 rw[winA (e:=paS)]
theorem qtz:Held Tryd.prog G0 10 ctSplF:=by
 have h:=rspl_held.frz (λ x _=>by
  show inL 0 (splV x.1 x.2.1).1.length [SV.win true paS 0 0 (splV x.1 x.2.1).1.length,SV.i (splV x.1 x.2.1).2]/\True
  exact ⟨⟨λ _=>by omega,⟨trivial,trivial⟩⟩,trivial⟩)
 refine h.iff rfl (λ x h=>h) (λ x _=>?_) (λ x _=>rfl)
 show [SV.sl paS (splV x.1 x.2.1).1,SV.i (splV x.1 x.2.1).2]=[SV.sl paS (winL paS 0 (splV x.1 x.2.1).1.length (splV x.1 x.2.1).1),SV.i (splV x.1 x.2.1).2]
 rw[winA (e:=paS)]
theorem cxMr:CxOK Tryd.prog tt G0 CMr:=((((((((((cx0.k qp5 (fn:=Tryd.f16)).k qrw (fn:=Tryd.f15)).k q0x (fn:=Tryd.f14)).k qyc (fn:=Tryd.f13)).k qt0 (fn:=Tryd.f12)).k qwl (fn:=Tryd.f11)).k qtz (fn:=Tryd.f10)).k qwf (fn:=Tryd.f9)).k q1u (fn:=Tryd.f8)).k q1t (fn:=Tryd.f7)).k qwg (fn:=Tryd.f6)
theorem qy6 (s:List SyT) (m:Int):(cpV s m).1.2.2.2.length<=4096:=by
 unfold cpV;split
 ·exact Nat.zero_le _
 ·unfold poV;split
  ·exact Nat.zero_le _
  next h=>
   show (chL s).length<=4096
   omega
theorem qy7:∀ (rs:List (PaT × Int)) (o:List PaT),(colF rs o).1.length<=o.length+rs.length/\∀ p∈(colF rs o).1,p∈o\/∃ x∈rs,p=x.1
 | [],o=>⟨Nat.le_refl _,λ p hp=>.inl hp⟩
 | x::rs,o=>by
  rw[colF]
  cases decide (x.2≠0) with
  | true=>exact ⟨Nat.zero_le _,λ p hp=>by cases hp⟩
  | false=>
   obtain ⟨h1,h2⟩:=qy7 rs (o++[x.1]);refine ⟨?_,λ p hp=>?_⟩
   ·rw[List.length_append] at h1
    show (colF rs (o++[x.1])).1.length<=o.length+(rs.length+1)
    have:[x.1].length=1:=rfl;omega
   ·rcases h2 p hp with h | ⟨y,hy,h⟩
    ·rcases List.mem_append.1 h with h | h
     ·exact .inl h
     ·rw[List.mem_singleton] at h;exact .inr ⟨x,List.mem_cons_self ..,h⟩
    ·exact .inr ⟨y,List.mem_cons_of_mem _ hy,h⟩
theorem qwh {k:List (List SyT)} {m:Int} (h:k.length<=65536):qgp (colF (k.map (cpV · m)) []).1:=by
 obtain ⟨h1,h2⟩:=qy7 (k.map (cpV · m)) [];rw[List.length_map] at h1;have:([]:List PaT).length=0:=rfl;refine ⟨by omega,λ p hp=>?_⟩;rcases h2 p hp with h | ⟨y,hy,h⟩
 ·cases h
 ·obtain ⟨s,_,rfl⟩:=List.mem_map.1 hy;have:=qy6 s m;rw[h]
  show (cpV s m).1.2.2.2.length<_
  omega
theorem qm8:qgp []:=⟨by decide,λ p hp=>by cases hp⟩
theorem q6j (p:PaT) (l:List SecT):qgp (splV p l).1:=by
 unfold splV
 cases decide ((psV p).2≠0) with
 | true=>exact qm8
 | false=>
  cases hv:Im.validB l p.2.2.1 with
  | false=>exact qm8
  | true=>
   refine qwh ?_;rw[secF,List.length_map];have:l.length<=8:=(qmx hv).1;omega
theorem qta (s:List SyT) (n:Nat):∀ f i,(qh7 s n f i).length<=f
 | 0,_=>Nat.le_refl _
 | f+1,i=>by
  rw[qh7];split
  ·exact Nat.succ_le_succ (qta s n f _)
  ·exact Nat.zero_le _
theorem q6q (p:PaT) (n:Int):qgp (secV p n).1:=by
 unfold secV
 cases hd:decide ((psV p).2≠0) with
 | true=>exact qm8
 | false=>
  cases decide (1<=n/\n<=4096) with
  | false=>exact qm8
  | true=>
   refine qwh ?_;have h0:(psV p).2=0:=by have:=of_decide_eq_false hd;simpa using this
   exact Nat.le_trans (qta _ _ _ _) (qqe h0).2.1
theorem zb5 (l:List PaT):(jnV l).1.2.2.2.length<1099511627776:=by
 unfold jnV
 cases decide (cjV l≠0) with
 | true=>exact Nat.zero_lt_succ _
 | false=>
  cases decide ((cpV (ayaF l) (gtP l 0).2.1).2≠0) with
  | true=>exact Nat.zero_lt_succ _
  | false=>
   have:=qy6 (ayaF l) (gtP l 0).2.1
   show (cpV (ayaF l) (gtP l 0).2.1).1.2.2.2.length<_
   omega
theorem qrx:∀ l:List PaT,smlR l l=true
 | []=>rfl
 | p::l=>by rw[smlR,qry];exact qrx l
theorem q0h (l:List PaT):smlB l l=true:=by
 unfold smlB;rw[decide_eq_false (by simp)];exact qrx l
theorem qsm {x:List RaT} (hx:∀ j,qqf (qb9 x j).1 (qb9 x j).2):∀ i,(∀ p∈mnL x i,∃ t,qls t/\p=szV t ((qb9 x 0).1 % 13))
 | 0,p,hp=>by cases hp
 | i+1,p,hp=>by
  rw[mnL] at hp;rcases List.mem_append.1 hp with hp | hp
  ·exact qsm hx i p hp
  ·rw[List.mem_singleton] at hp;subst hp;refine ⟨(qb9 x i).2,(hx i).2.1,?_⟩;by_cases h:(i:Int)=0
   ·have h:i=0:=by omega
    subst h;rfl
   ·rw[decide_eq_false h,q70 (by omega)]
theorem zb0 {x:List RaT} (hx:qxb x 4):(chkV (gtP (mnV x 4) 0)).2=0/\0<(mnV x 4).length/\(mnV x 4).length<=4:=by
 have hk:mnK x 4<=4:=by unfold mnK;omega
 have hlen:=qno x (mnK x 4);unfold mnV
 cases hz:decide (((mnL x (mnK x 4)).length:Int)=0) with
 | true=>
  have e:(chkV (gtP [rwV 3] 0)).2=0:=by decide +kernel
  exact ⟨e,by simp,by simp⟩
 | false=>
  have hz:=of_decide_eq_false hz;refine ⟨?_,by show 0<(mnL x (mnK x 4)).length;omega,by show (mnL x (mnK x 4)).length<=4;omega⟩
  show (chkV (gtP (mnL x (mnK x 4)) 0)).2=0
  rw[qc3 (show 0<(mnL x (mnK x 4)).length by omega)];obtain ⟨t,ht,e⟩:=qsm hx.1 (mnK x 4) _ (List.getElem_mem (show 0<(mnL x (mnK x 4)).length by omega));rw[e];exact (sz_ok ht (by omega) (by omega)).1
def zbj (x:List RaT) (r:List Im.Raw):Prop:=(∀ j,qqf (qb9 x j).1 (qb9 x j).2)/\∀ y∈r,Im.rawOK y
def ctSmr:Ctr:=⟨[.sl raS,.sl Im.rwS,.arr 2 (.int .i8)],λ x=>zbj x.1 x.2.1,λ _=>[.bool true],λ _=>[]⟩
theorem q6n (x:List RaT) (r:List Im.Raw) (w:List Int) (hx:∀ j,qqf (qb9 x j).1 (qb9 x j).2) (hr:∀ y∈r,Im.rawOK y):GD 3 Tryd.f3 (λ rs _=>rs=[.bool true]) [.code (qad Tryd.f3)] (entry [.sl raS,.sl Im.rwS,.arr 2 (.int .i8)] (x,r,w,())):=by
 have hmn:qxb x 4:=⟨hx,by decide⟩;obtain ⟨hc,h0,h4⟩:=zb0 hmn;have ho:=(qe2 hc).2.2.1;refine qe6 cxMr (q9k x r w _ _) ?_;generalize mnV x 4=l at *;generalize gtP l 0=p at *;generalize IntKind.i64.wrap (gt (.int .i8) w 1)=a;generalize IntKind.i64.wrap (gt (.int .i8) w 0)=n;have ha : -3<a.tmod 3/\a.tmod 3<3:=by
  constructor
  ·rcases Int.lt_or_le a 0 with q | q
   ·obtain ⟨k,rfl⟩:=Int.exists_eq_neg_ofNat (Int.le_of_lt q);rw[Int.neg_tmod];have:=Int.tmod_lt_of_pos (k:Int) (by decide:(0:Int)<3);omega
   ·have:=Int.tmod_nonneg 3 q;omega
  ·exact Int.tmod_lt_of_pos a (by decide)
 have hmx:0<=max 0 (IntKind.i64.wrap (p.2.2.1+a.tmod 3))/\max 0 (IntKind.i64.wrap (p.2.2.1+a.tmod 3))<100000:=by
  rw[IntWalk.i64_in (p.2.2.1+a.tmod 3) (by omega)];omega
 generalize max 0 (IntKind.i64.wrap (p.2.2.1+a.tmod 3))=z at *;have hs:=Im.mk_ok r z;have h1:=q6j p (Im.mk r z);have h2:=q6q p n;have h3:=zb5 l;simp only[q0h,qry,decide_true,cond_true,bc_t];exact ⟨trivial,hmn,by omega,by omega,by omega,by omega,by omega,by omega,⟨hr,hmx⟩,hs,hs,by omega,by omega,by omega,trivial,by omega,by omega,by omega,trivial,(show l.length<1000000 by omega),(show l.length<1000000 by omega),h1,h2,h3,trivial⟩
theorem q0f:Held Tryd.prog G0 3 ctSmr:=Held.of cxMr (fn:=Tryd.f3) rfl rfl ⟨by decide,by decide⟩ λ ⟨x,r,w,_⟩ hp=>(q6n x r w hp.1 hp.2).post λ rs blk hq=>QC.flat (by rw[hq];rfl) rfl (by rw[hq];rfl)
def preX3 (x:List RaT3):Prop:=∀ j,qqf (gtR3 x j).1 (gtR3 x j).2
def u8L (b:List Int):Prop:=∀ j,0<=gtB b j/\gtB b j<256
theorem qv1 {n:Int} (h:wfD uB n):0<=n/\n<256:=by
 have h:(Lit.int IntKind.u8 n).wf=true:=h;simp[Lit.wf,IntKind.min,IntKind.max,IntKind.signed,IntKind.bits] at h;omega
theorem q54 {l:List Int} (h:∀ x∈l,wfD uB x):u8L l:=λ j=>by
 by_cases hj:j<l.length
 ·rw[zb6 hj];exact qv1 (h _ (List.getElem_mem hj))
 ·have:gtB l j=0:=by
   show gt uB _ _=_
   unfold gt;rw[List.getElem?_eq_none (by omega)];rfl
  rw[this];decide
theorem l4_of {l:List (List Int)} (h:∀ x∈l,wfD a4S x):qls l:=λ j=>by
 by_cases hj:j<l.length
 ·have e:gt a4S l j=l[j]:=gtE (e:=a4S) hj;rw[e];exact q54 (h _ (List.getElem_mem hj)).2
 ·have:gt a4S l j=List.replicate 4 (0:Int):=by
   unfold gt;rw[List.getElem?_eq_none (by omega)];rfl
  rw[this];exact q54 λ x hx=>by
   rw[List.eq_of_mem_replicate hx];rfl
theorem x_of {x:List (Int × List (List Int))} (h:∀ r∈x,wfD raS r):preX3 x:=λ j=>by
 by_cases hj:j<x.length
 ·have e:gtR3 x j=x[j]:=gtE (e:=raS) hj;rw[e];have k:=h _ (List.getElem_mem hj);exact ⟨qv1 k.1,l4_of k.2.2,k.2.1⟩
 ·have:gtR3 x j=((0:Int),([]:List (List Int))):=by
   unfold gtR3 gt;rw[List.getElem?_eq_none (by omega)];rfl
  rw[this];exact ⟨⟨Int.le_refl 0,by decide⟩,λ k i=>by rw[show gt a4S ([]:List (List Int)) k=List.replicate 4 (0:Int) from rfl];exact q54 (λ x hx=>by rw[List.eq_of_mem_replicate hx];rfl) i,by decide⟩
theorem qu3 {g:Nat} {x:ABlk} (h:rawG.get g=some x):g=0/\x=.cells qh6 138 2:=by
 unfold rawG T.get at h;split at h
 next e=>cases h;exact ⟨e,rfl⟩
 ·split at h <;> (simp[T.get] at h)
theorem hG:Glob G0.raw:=⟨λ g x h=>by rw[(qu3 h).1];decide,λ g x h=>by rw[(qu3 h).2];decide⟩
abbrev H0:AHeap:=⟨qlt,G0.raw⟩
def Z0:Nat->Option ABlk:=λ g=>rawG.get g
theorem gz0:GZ Z0 G0:=by
 refine ⟨λ g x e=>?_,λ g x e=>e⟩;simp only[G0,lk] at e;split at e
 next h=>subst h;cases e;refine ⟨by decide,λ ν=>⟨0,0,qh6,138,2,rfl,rfl,by decide,?_⟩⟩;exact q0l (.arr 5 coS) costsL ⟨rfl,λ x _=>⟨trivial,trivial⟩⟩
 ·cases e
theorem fro0:Px.Fro G0 H0:=⟨λ i x h=>by rw[(qu3 h).2];rfl,λ i x h=>by rw[(qu3 h).2];trivial,λ i x h=>by rw[(qu3 h).1];decide,gz0⟩
end Go.Proofs.YtdeacfammdjajaaDoor
