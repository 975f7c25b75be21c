/-
  A part of the proof: what pieces of the program give; conditions: those of each theorem.
-/
import Derived.Test.YticpkibnhakgbaaDoorQ4
import Derived.Test.YticpkibnhakgbaaDoorHD
import Derived.KernelRfl
import Derived.Test.YticpkibnhakgbaaDoorQ3
import Derived.Test.YticpkibnhakgbaaDoorQ2
set_option linter.unusedVariables false
set_option linter.unusedSimpArgs false
namespace Go.Proofs.YticpkibnhakgbaaDoor
open Go.Px Go.Ax
set_option maxRecDepth 100000
def CSc:CV:=[(14,.inl ctCo),(11,.inl ctAl),(17,.inl ctTh),(13,.inl ctSm),(31,.inl ctRw)]
theorem cxSc:CxOK Tryd.prog tt G0 CSc:=((((cx0.cons qv1 (fn:=Tryd.f31) rfl rfl rfl).cons qvx (fn:=Tryd.f13) rfl rfl rfl).cons qpv (fn:=Tryd.f17) rfl rfl rfl).cons qs6 (fn:=Tryd.f11) rfl rfl rfl).cons qq5 (fn:=Tryd.f14) rfl rfl rfl
set_option maxRecDepth 100000
theorem q3t  (Q:QT) (R:RT):sy tt G0 CSc Tryd.f9.ntmps Tryd.f9.results.toList Q R 1000 [.code (qae Tryd.f9)] (entry [] ()) =
  (0+2<=(((List.replicate (2:Nat) uB.dflt).set (0:Nat) (1:Int)).set (1:Nat) (2:Int)).length /\
 0+2<=(((List.replicate (2:Nat) uB.dflt).set (0:Nat) (1:Int)).set (1:Nat) (2:Int)).length /\
 0+2<=(((List.replicate (2:Nat) uB.dflt).set (0:Nat) (255:Int)).set (1:Nat) (254:Int)).length /\
 0+2<=(((List.replicate (2:Nat) uB.dflt).set (0:Nat) (255:Int)).set (1:Nat) (254:Int)).length /\
 0+1<=([((1:Int),(1:Int),(2:Int),(0:Int),[])]:List opS.D).length /\
 0+1<=([((1:Int),(1:Int),(2:Int),(0:Int),[])]:List opS.D).length /\
 0+1<=([((1:Int),(1:Int),(2:Int),(0:Int),[])]:List opS.D).length /\
 0+1<=([((1:Int),(1:Int),(2:Int),(0:Int),[])]:List opS.D).length /\
 0+2<=(((List.replicate (2:Nat) opS.dflt).set (0:Nat) ((1:Int),(1:Int),(1:Int),(0:Int),[])).set (1:Nat) ((3:Int),(0:Int),(1:Int),(9:Int),[])).length /\
 0+2<=(((List.replicate (2:Nat) opS.dflt).set (0:Nat) ((1:Int),(1:Int),(1:Int),(0:Int),[])).set (1:Nat) ((3:Int),(0:Int),(1:Int),(9:Int),[])).length /\
 0+2<=(((List.replicate (2:Nat) opS.dflt).set (0:Nat) ((1:Int),(1:Int),(1:Int),(0:Int),[])).set (1:Nat) ((3:Int),(0:Int),(1:Int),(9:Int),[])).length /\
 0+2<=(((List.replicate (2:Nat) opS.dflt).set (0:Nat) ((1:Int),(1:Int),(1:Int),(0:Int),[])).set (1:Nat) ((3:Int),(0:Int),(1:Int),(9:Int),[])).length /\
 ctCo.pre ((false,(3:Int),(2:Int),([((1:Int),(1:Int),(2:Int),(0:Int),[])]:List opS.D)),(false,(2:Int),(2:Int),winL opS 0 2 (((List.replicate (2:Nat) opS.dflt).set (0:Nat) ((1:Int),(1:Int),(1:Int),(0:Int),[])).set (1:Nat) ((3:Int),(0:Int),(1:Int),(9:Int),[]))),()) /\
 0+1<=([((2:Int),(0:Int),(2:Int),(0:Int),winL uB 0 2 (((List.replicate (2:Nat) uB.dflt).set (0:Nat) (1:Int)).set (1:Nat) (2:Int)))]:List opS.D).length /\
 0+1<=([((2:Int),(0:Int),(2:Int),(0:Int),winL uB 0 2 (((List.replicate (2:Nat) uB.dflt).set (0:Nat) (1:Int)).set (1:Nat) (2:Int)))]:List opS.D).length /\
 0+1<=([((2:Int),(0:Int),(2:Int),(0:Int),winL uB 0 2 (((List.replicate (2:Nat) uB.dflt).set (0:Nat) (1:Int)).set (1:Nat) (2:Int)))]:List opS.D).length /\
 0+1<=([((2:Int),(0:Int),(2:Int),(0:Int),winL uB 0 2 (((List.replicate (2:Nat) uB.dflt).set (0:Nat) (1:Int)).set (1:Nat) (2:Int)))]:List opS.D).length /\
 0+1<=([((2:Int),(0:Int),(2:Int),(0:Int),winL uB 0 2 (((List.replicate (2:Nat) uB.dflt).set (0:Nat) (255:Int)).set (1:Nat) (254:Int)))]:List opS.D).length /\
 0+1<=([((2:Int),(0:Int),(2:Int),(0:Int),winL uB 0 2 (((List.replicate (2:Nat) uB.dflt).set (0:Nat) (255:Int)).set (1:Nat) (254:Int)))]:List opS.D).length /\
 0+1<=([((2:Int),(0:Int),(2:Int),(0:Int),winL uB 0 2 (((List.replicate (2:Nat) uB.dflt).set (0:Nat) (255:Int)).set (1:Nat) (254:Int)))]:List opS.D).length /\
 0+1<=([((2:Int),(0:Int),(2:Int),(0:Int),winL uB 0 2 (((List.replicate (2:Nat) uB.dflt).set (0:Nat) (255:Int)).set (1:Nat) (254:Int)))]:List opS.D).length /\
 ctCo.pre ((false,(2:Int),(2:Int),([((2:Int),(0:Int),(2:Int),(0:Int),winL uB 0 2 (((List.replicate (2:Nat) uB.dflt).set (0:Nat) (1:Int)).set (1:Nat) (2:Int)))]:List opS.D)),(false,(2:Int),(2:Int),([((2:Int),(0:Int),(2:Int),(0:Int),winL uB 0 2 (((List.replicate (2:Nat) uB.dflt).set (0:Nat) (255:Int)).set (1:Nat) (254:Int)))]:List opS.D)),()) /\
 0+1<=([((3:Int),(0:Int),(4:Int),(5:Int),[])]:List opS.D).length /\
 0+1<=([((3:Int),(0:Int),(4:Int),(5:Int),[])]:List opS.D).length /\
 0+1<=([((3:Int),(0:Int),(4:Int),(5:Int),[])]:List opS.D).length /\
 0+1<=([((3:Int),(0:Int),(4:Int),(5:Int),[])]:List opS.D).length /\
 0+1<=([((1:Int),(0:Int),(2:Int),(0:Int),[])]:List opS.D).length /\
 0+1<=([((1:Int),(0:Int),(2:Int),(0:Int),[])]:List opS.D).length /\
 0+1<=([((1:Int),(0:Int),(2:Int),(0:Int),[])]:List opS.D).length /\
 0+1<=([((1:Int),(0:Int),(2:Int),(0:Int),[])]:List opS.D).length /\
 ctCo.pre ((false,(0:Int),(4:Int),([((3:Int),(0:Int),(4:Int),(5:Int),[])]:List opS.D)),(false,(4:Int),(2:Int),([((1:Int),(0:Int),(2:Int),(0:Int),[])]:List opS.D)),()) /\
 ctCo.pre ((false,(3:Int),(2:Int),([((1:Int),(1:Int),(2:Int),(0:Int),[])]:List opS.D)),(false,(4:Int),(2:Int),([((1:Int),(0:Int),(2:Int),(0:Int),[])]:List opS.D)),()) /\
 ctAl.pre ([],()) /\
 ctCo.pre ((false,(3:Int),(2:Int),([((1:Int),(1:Int),(2:Int),(0:Int),[])]:List opS.D)),(true,(2:Int),(2:Int),winL opS 0 2 (((List.replicate (2:Nat) opS.dflt).set (0:Nat) ((1:Int),(1:Int),(1:Int),(0:Int),[])).set (1:Nat) ((3:Int),(0:Int),(1:Int),(9:Int),[]))),()) /\
 0+1<=([(true,(0:Int),(0:Int))]:List syS.D).length /\
 ctTh.pre ([],([(true,(0:Int),(0:Int))]:List syS.D),()) /\
 0+1<=([(9:Int)]:List uB.D).length /\
 0+2<=(((List.replicate (2:Nat) opS.dflt).set (0:Nat) ((1:Int),(2:Int),(1:Int),(0:Int),[])).set (1:Nat) ((4:Int),(0:Int),(1:Int),(0:Int),([(9:Int)]:List uB.D))).length /\
 ctSm.pre (((coV (false,(3:Int),(2:Int),([((1:Int),(1:Int),(2:Int),(0:Int),[])]:List opS.D)) (false,(2:Int),(2:Int),winL opS 0 2 (((List.replicate (2:Nat) opS.dflt).set (0:Nat) ((1:Int),(1:Int),(1:Int),(0:Int),[])).set (1:Nat) ((3:Int),(0:Int),(1:Int),(9:Int),[])))).1),(false,(3:Int),(2:Int),winL opS 0 2 (((List.replicate (2:Nat) opS.dflt).set (0:Nat) ((1:Int),(2:Int),(1:Int),(0:Int),[])).set (1:Nat) ((4:Int),(0:Int),(1:Int),(0:Int),([(9:Int)]:List uB.D)))),()) /\
 ctRw.pre ((2:Int),()) /\
 ctSm.pre (((coV (false,(2:Int),(2:Int),([((2:Int),(0:Int),(2:Int),(0:Int),winL uB 0 2 (((List.replicate (2:Nat) uB.dflt).set (0:Nat) (1:Int)).set (1:Nat) (2:Int)))]:List opS.D)) (false,(2:Int),(2:Int),([((2:Int),(0:Int),(2:Int),(0:Int),winL uB 0 2 (((List.replicate (2:Nat) uB.dflt).set (0:Nat) (255:Int)).set (1:Nat) (254:Int)))]:List opS.D))).1),(rwV (2:Int)),()) /\
 0+1<=([((3:Int),(0:Int),(2:Int),(5:Int),[])]:List opS.D).length /\
 ctSm.pre (((coV (false,(0:Int),(4:Int),([((3:Int),(0:Int),(4:Int),(5:Int),[])]:List opS.D)) (false,(4:Int),(2:Int),([((1:Int),(0:Int),(2:Int),(0:Int),[])]:List opS.D))).1),(false,(0:Int),(2:Int),([((3:Int),(0:Int),(2:Int),(5:Int),[])]:List opS.D)),()) /\
 Q [.bool (decide ((thV [] (([(true,(0:Int),(0:Int))]:List syS.D))).2=(61:Int)))] [(1,.var [.bool false,.int .i64 3,.int .i64 2,.sl opS (([((1:Int),(1:Int),(2:Int),(0:Int),[])]:List opS.D))]),(2,.var [.bool false,.int .i64 2,.int .i64 2,.sl opS (winL opS 0 2 (((List.replicate (2:Nat) opS.dflt).set (0:Nat) ((1:Int),(1:Int),(1:Int),(0:Int),[])).set (1:Nat) ((3:Int),(0:Int),(1:Int),(9:Int),[])))]),(3,.var [.bool false,.int .i64 2,.int .i64 2,.sl opS (([((2:Int),(0:Int),(2:Int),(0:Int),winL uB 0 2 (((List.replicate (2:Nat) uB.dflt).set (0:Nat) (1:Int)).set (1:Nat) (2:Int)))]:List opS.D))]),(4,.var [.bool false,.int .i64 2,.int .i64 2,.sl opS (([((2:Int),(0:Int),(2:Int),(0:Int),winL uB 0 2 (((List.replicate (2:Nat) uB.dflt).set (0:Nat) (255:Int)).set (1:Nat) (254:Int)))]:List opS.D))]),(5,.var [.bool false,.int .i64 0,.int .i64 4,.sl opS (([((3:Int),(0:Int),(4:Int),(5:Int),[])]:List opS.D))]),(6,.var [.bool false,.int .i64 4,.int .i64 2,.sl opS (([((1:Int),(0:Int),(2:Int),(0:Int),[])]:List opS.D))]),(7,.var [.bool (coV (false,(3:Int),(2:Int),([((1:Int),(1:Int),(2:Int),(0:Int),[])]:List opS.D)) (false,(2:Int),(2:Int),winL opS 0 2 (((List.replicate (2:Nat) opS.dflt).set (0:Nat) ((1:Int),(1:Int),(1:Int),(0:Int),[])).set (1:Nat) ((3:Int),(0:Int),(1:Int),(9:Int),[])))).1.1,.int .i64 (coV (false,(3:Int),(2:Int),([((1:Int),(1:Int),(2:Int),(0:Int),[])]:List opS.D)) (false,(2:Int),(2:Int),winL opS 0 2 (((List.replicate (2:Nat) opS.dflt).set (0:Nat) ((1:Int),(1:Int),(1:Int),(0:Int),[])).set (1:Nat) ((3:Int),(0:Int),(1:Int),(9:Int),[])))).1.2.1,.int .i64 (coV (false,(3:Int),(2:Int),([((1:Int),(1:Int),(2:Int),(0:Int),[])]:List opS.D)) (false,(2:Int),(2:Int),winL opS 0 2 (((List.replicate (2:Nat) opS.dflt).set (0:Nat) ((1:Int),(1:Int),(1:Int),(0:Int),[])).set (1:Nat) ((3:Int),(0:Int),(1:Int),(9:Int),[])))).1.2.2.1,.sl opS (coV (false,(3:Int),(2:Int),([((1:Int),(1:Int),(2:Int),(0:Int),[])]:List opS.D)) (false,(2:Int),(2:Int),winL opS 0 2 (((List.replicate (2:Nat) opS.dflt).set (0:Nat) ((1:Int),(1:Int),(1:Int),(0:Int),[])).set (1:Nat) ((3:Int),(0:Int),(1:Int),(9:Int),[])))).1.2.2.2]),(9,.var [.bool (coV (false,(2:Int),(2:Int),([((2:Int),(0:Int),(2:Int),(0:Int),winL uB 0 2 (((List.replicate (2:Nat) uB.dflt).set (0:Nat) (1:Int)).set (1:Nat) (2:Int)))]:List opS.D)) (false,(2:Int),(2:Int),([((2:Int),(0:Int),(2:Int),(0:Int),winL uB 0 2 (((List.replicate (2:Nat) uB.dflt).set (0:Nat) (255:Int)).set (1:Nat) (254:Int)))]:List opS.D))).1.1,.int .i64 (coV (false,(2:Int),(2:Int),([((2:Int),(0:Int),(2:Int),(0:Int),winL uB 0 2 (((List.replicate (2:Nat) uB.dflt).set (0:Nat) (1:Int)).set (1:Nat) (2:Int)))]:List opS.D)) (false,(2:Int),(2:Int),([((2:Int),(0:Int),(2:Int),(0:Int),winL uB 0 2 (((List.replicate (2:Nat) uB.dflt).set (0:Nat) (255:Int)).set (1:Nat) (254:Int)))]:List opS.D))).1.2.1,.int .i64 (coV (false,(2:Int),(2:Int),([((2:Int),(0:Int),(2:Int),(0:Int),winL uB 0 2 (((List.replicate (2:Nat) uB.dflt).set (0:Nat) (1:Int)).set (1:Nat) (2:Int)))]:List opS.D)) (false,(2:Int),(2:Int),([((2:Int),(0:Int),(2:Int),(0:Int),winL uB 0 2 (((List.replicate (2:Nat) uB.dflt).set (0:Nat) (255:Int)).set (1:Nat) (254:Int)))]:List opS.D))).1.2.2.1,.sl opS (coV (false,(2:Int),(2:Int),([((2:Int),(0:Int),(2:Int),(0:Int),winL uB 0 2 (((List.replicate (2:Nat) uB.dflt).set (0:Nat) (1:Int)).set (1:Nat) (2:Int)))]:List opS.D)) (false,(2:Int),(2:Int),([((2:Int),(0:Int),(2:Int),(0:Int),winL uB 0 2 (((List.replicate (2:Nat) uB.dflt).set (0:Nat) (255:Int)).set (1:Nat) (254:Int)))]:List opS.D))).1.2.2.2]),(11,.var [.bool (coV (false,(0:Int),(4:Int),([((3:Int),(0:Int),(4:Int),(5:Int),[])]:List opS.D)) (false,(4:Int),(2:Int),([((1:Int),(0:Int),(2:Int),(0:Int),[])]:List opS.D))).1.1,.int .i64 (coV (false,(0:Int),(4:Int),([((3:Int),(0:Int),(4:Int),(5:Int),[])]:List opS.D)) (false,(4:Int),(2:Int),([((1:Int),(0:Int),(2:Int),(0:Int),[])]:List opS.D))).1.2.1,.int .i64 (coV (false,(0:Int),(4:Int),([((3:Int),(0:Int),(4:Int),(5:Int),[])]:List opS.D)) (false,(4:Int),(2:Int),([((1:Int),(0:Int),(2:Int),(0:Int),[])]:List opS.D))).1.2.2.1,.sl opS (coV (false,(0:Int),(4:Int),([((3:Int),(0:Int),(4:Int),(5:Int),[])]:List opS.D)) (false,(4:Int),(2:Int),([((1:Int),(0:Int),(2:Int),(0:Int),[])]:List opS.D))).1.2.2.2]),(13,.var [.bool (coV (false,(3:Int),(2:Int),([((1:Int),(1:Int),(2:Int),(0:Int),[])]:List opS.D)) (false,(4:Int),(2:Int),([((1:Int),(0:Int),(2:Int),(0:Int),[])]:List opS.D))).1.1,.int .i64 (coV (false,(3:Int),(2:Int),([((1:Int),(1:Int),(2:Int),(0:Int),[])]:List opS.D)) (false,(4:Int),(2:Int),([((1:Int),(0:Int),(2:Int),(0:Int),[])]:List opS.D))).1.2.1,.int .i64 (coV (false,(3:Int),(2:Int),([((1:Int),(1:Int),(2:Int),(0:Int),[])]:List opS.D)) (false,(4:Int),(2:Int),([((1:Int),(0:Int),(2:Int),(0:Int),[])]:List opS.D))).1.2.2.1,.sl opS (coV (false,(3:Int),(2:Int),([((1:Int),(1:Int),(2:Int),(0:Int),[])]:List opS.D)) (false,(4:Int),(2:Int),([((1:Int),(0:Int),(2:Int),(0:Int),[])]:List opS.D))).1.2.2.2]),(15,.var [.bool (allV []).1.1,.int .i64 (allV []).1.2.1,.int .i64 (allV []).1.2.2.1,.sl opS (allV []).1.2.2.2]),(17,.var [.bool true,.int .i64 2,.int .i64 2,.sl opS (winL opS 0 2 (((List.replicate (2:Nat) opS.dflt).set (0:Nat) ((1:Int),(1:Int),(1:Int),(0:Int),[])).set (1:Nat) ((3:Int),(0:Int),(1:Int),(9:Int),[])))]),(18,.var [.bool (coV (false,(3:Int),(2:Int),([((1:Int),(1:Int),(2:Int),(0:Int),[])]:List opS.D)) (true,(2:Int),(2:Int),winL opS 0 2 (((List.replicate (2:Nat) opS.dflt).set (0:Nat) ((1:Int),(1:Int),(1:Int),(0:Int),[])).set (1:Nat) ((3:Int),(0:Int),(1:Int),(9:Int),[])))).1.1,.int .i64 (coV (false,(3:Int),(2:Int),([((1:Int),(1:Int),(2:Int),(0:Int),[])]:List opS.D)) (true,(2:Int),(2:Int),winL opS 0 2 (((List.replicate (2:Nat) opS.dflt).set (0:Nat) ((1:Int),(1:Int),(1:Int),(0:Int),[])).set (1:Nat) ((3:Int),(0:Int),(1:Int),(9:Int),[])))).1.2.1,.int .i64 (coV (false,(3:Int),(2:Int),([((1:Int),(1:Int),(2:Int),(0:Int),[])]:List opS.D)) (true,(2:Int),(2:Int),winL opS 0 2 (((List.replicate (2:Nat) opS.dflt).set (0:Nat) ((1:Int),(1:Int),(1:Int),(0:Int),[])).set (1:Nat) ((3:Int),(0:Int),(1:Int),(9:Int),[])))).1.2.2.1,.sl opS (coV (false,(3:Int),(2:Int),([((1:Int),(1:Int),(2:Int),(0:Int),[])]:List opS.D)) (true,(2:Int),(2:Int),winL opS 0 2 (((List.replicate (2:Nat) opS.dflt).set (0:Nat) ((1:Int),(1:Int),(1:Int),(0:Int),[])).set (1:Nat) ((3:Int),(0:Int),(1:Int),(9:Int),[])))).1.2.2.2]),(82,.row 66 syS ([(true,(0:Int),(0:Int))]:List syS.D)),(114,.row 69 opS ([((3:Int),(0:Int),(2:Int),(5:Int),[])]:List opS.D)),(1339968,.row 66 syS (thV [] (([(true,(0:Int),(0:Int))]:List syS.D))).1)]):=by kernel_rfl
end Go.Proofs.YticpkibnhakgbaaDoor
namespace Go.Proofs.YticpkibnhakgbaaDoor
open Go.Px Go.Ax
set_option maxRecDepth 100000
attribute [local irreducible] Go.Px.sy Go.Px.syE
def ctSn9:Ctr:=⟨[],fun _=>True,fun _=>[.bool true],fun _=>[]⟩
theorem q0y (R:List Item->PS->Prop):sy tt G0 CSc Tryd.f9.ntmps Tryd.f9.results.toList (QC ctSn9 ()) R 1000 [.code (qae Tryd.f9)] (entry [] ()):=by
 refine (q3t _ _).mpr ?_
 repeat' first
  | exact trivial
  | (show List.length _<1000000;decide +kernel)
  | (show List.length _<16777216;decide +kernel)
  | (show List.length _<1099511627776;decide +kernel)
  | decide +kernel
  | refine And.intro ?_ ?_
  | (refine QC.flat ?_ rfl rfl)
  | (refine congrArg (fun b=>[SV.bool b]) ?_;decide +kernel)
theorem qx6:Held Tryd.prog G0 9 ctSn9:=Held.run cxSc (fn:=Tryd.f9) rfl rfl ⟨by decide,by decide⟩ fun x _=>q0y _
end Go.Proofs.YticpkibnhakgbaaDoor
namespace Go.Proofs.YticpkibnhakgbaaDoor
open Go.Px Go.Ax
set_option maxRecDepth 100000
abbrev w2S:Sh:=.arr 2 uB
set_option maxRecDepth 100000
end Go.Proofs.YticpkibnhakgbaaDoor
namespace Go.Proofs.YticpkibnhakgbaaDoor
open Go.Px Go.Ax
set_option maxRecDepth 100000
theorem qyb:∀ (l:List RaT) (o:Int),qll l->0<=o->o<=30->chn false o (chR o l)/\∀ q∈chR o l,byL (symF q.2.2.2)
 | [],o,_,_,_=>⟨trivial,fun q hq=>by cases hq⟩
 | x::l,o,hp,h0,h1=>by
  have hx:=hp x (by simp);obtain ⟨s1,s2,s3,s4⟩:=q2d (m:=o) hx.2.1 h0 (by omega);have so:=qmt (m:=o) hx.2.1 h0;obtain ⟨r1,r2⟩:=qyb l (szV x.2 o).2.2.1 (fun y hy=>hp y (by simp[hy])) so.1 so.2;refine ⟨⟨s1,rfl,rfl,by omega,r1⟩,fun q hq=>?_⟩;rcases List.mem_cons.1 hq with e | hq
  ·rw[e];exact s4
  ·exact r2 q hq
theorem rw3:(chkV (rwV 3)).2=0/\(rwV 3).1=false/\(rwV 3).2.2.1=3/\(rwV 3).2.1=3:=⟨by decide +kernel,rfl,rfl,rfl⟩
theorem q4e:symF (rwV 3).2.2.2=[(true,0,0),(true,1,0),(true,2,0)]:=by decide +kernel
theorem q73:byL (symF (rwV 3).2.2.2):=by
 rw[q4e];intro x hx;simp only[List.mem_cons,List.not_mem_nil,or_false] at hx;rcases hx with rfl | rfl | rfl <;> exact ⟨by decide,by decide⟩
structure Fit (p:PaT) (t:List PaT):Prop where
 ok:(chkV p).2=0
 li:p.1=false
 out:p.2.2.1<=4096
 ch:chn false p.2.2.1 t
 by0:byL (symF p.2.2.2)
 by1:∀ q∈t,byL (symF q.2.2.2)
 len:t.length<=3
 in_:0<=p.2.1/\p.2.1<=12
theorem q58 {l:List RaT} (hp:qll l):∃ p t,chV l=p::t/\Fit p t:=by
 unfold chV;split
 ·exact ⟨rwV 3,[],rfl,rw3.1,rfl,by decide,trivial,q73,(fun q hq=>by cases hq),by decide,by decide⟩
 ·rename_i hne
  cases l with
  | nil=>exact absurd rfl hne
  | cons x r=>
   have hx:=hp x (by simp);have hm:0<=x.1 % 13/\x.1 % 13<=12:=by omega
   obtain ⟨s1,s2,s3,s4⟩:=q2d (m:=x.1 % 13) hx.2.1 hm.1 (by omega);have so:=qmt (m:=x.1 % 13) hx.2.1 hm.1;obtain ⟨r1,r2⟩:=qyb (r.take 3) (szV x.2 (x.1 % 13)).2.2.1 (fun y hy=>hp y (by simp[List.mem_of_mem_take hy])) so.1 so.2;exact ⟨_,_,rfl,s1,rfl,by omega,r1,s4,r2,(show (chR (szV x.2 (x.1 % 13)).2.2.1 (r.take 3)).length<=3 by rw[qq7,List.length_take];omega),hm⟩
theorem qzf (x:OpT):soB x x=true:=by simp[soB]
theorem qrt:∀ l:List OpT,smL l l=true
 | []=>rfl
 | x::l=>by
  have:=qrt l;simp[smL,qzf,this]
theorem qru (p:PaT):smB p p=true:=by simp[smB,qrt]
theorem q88 {m:Int} {s:List SyT} (hr:∀ x∈s,sOK m x=true) (h0:0<=m) (h1:m<=65536) (hl:s.length<=4096):(chL s).length<=4096:=(qr9 hr h0 h1 hl).2.2.2.2.1
theorem Fit.all {p:PaT} {t:List PaT} (h:Fit p t):allV (p::t)=(nfP false p.2.1 (syC (symF p.2.2.2) t),0)/\(∀ x∈syC (symF p.2.2.2) t,sOK p.2.1 x=true)/\(syC (symF p.2.2.2) t).length<=4096/\(chL (syC (symF p.2.2.2) t)).length<=4096:=by
 have ha:=q9e h.ok h.out (by rw[h.li];exact h.ch);obtain ⟨r1,r2,r3⟩:=qjm h.ok;have ho:=h.out;obtain ⟨k1,k2⟩:=q2e (m:=p.2.1) (li:=false) (l:=t) r1 (by omega) (by rw[r3];exact h.ch);rw[h.li] at ha;exact ⟨ha,k1,k2,q88 k1 r2.1 r2.2 k2⟩
end Go.Proofs.YticpkibnhakgbaaDoor
namespace Go.Proofs.YticpkibnhakgbaaDoor
open Go.Px Go.Ax
def u8L (b:List Int):Prop:=∀ j,0<=gtB b j/\gtB b j<256
theorem q7o {n:Int} (h:wfD uB n):0<=n/\n<256:=by
 have h:(Lit.int IntKind.u8 n).wf=true:=h;simp[Lit.wf,IntKind.min,IntKind.max,IntKind.signed,IntKind.bits] at h;omega
theorem qvi {l:List Int} (h:∀ x∈l,wfD uB x):u8L l:=fun j=>by
 by_cases hj:j<l.length
 ·rw[qxp hj];exact q7o (h _ (List.getElem_mem hj))
 ·have:gtB l j=0:=by
   show gt uB _ _=_
   unfold gt;rw[List.getElem?_eq_none (by omega)];rfl
  rw[this];decide
theorem l4_of {l:List (List Int)} (h:∀ x∈l,wfD a4S x):qkk l:=fun j=>by
 by_cases hj:j<l.length
 ·have e:gt a4S l j=l[j]:=gtE (e:=a4S) hj;rw[e];exact qvi (h _ (List.getElem_mem hj)).2
 ·have:gt a4S l j=List.replicate 4 (0:Int):=by
   unfold gt;rw[List.getElem?_eq_none (by omega)];rfl
  rw[this];exact qvi fun x hx=>by
   rw[List.eq_of_mem_replicate hx];rfl
theorem m6_of {x:Int × List (List Int)} (h:wfD raS x):qwj x.1 x.2:=⟨q7o h.1,l4_of h.2.2,h.2.1⟩
theorem l2_of {l:List (List Int)} (h:∀ x∈l,wfD a2S x):qlm l:=fun j k=>by
 by_cases hj:j<l.length
 ·have e:gt a2S l j=l[j]:=gtE (e:=a2S) hj;rw[e];exact qvi (h _ (List.getElem_mem hj)).2 k
 ·have:gt a2S l j=List.replicate 2 (0:Int):=by
   unfold gt;rw[List.getElem?_eq_none (by omega)];rfl
  rw[this];exact qvi (fun x hx=>by rw[List.eq_of_mem_replicate hx];rfl) k
theorem quv {g:Nat} {x:ABlk} (h:rawG.get g=some x):g=0/\x=.cells qh5 118 2:=by
 unfold rawG T.get at h;split at h
 ·rename_i e;cases h;exact ⟨e,rfl⟩
 ·split at h <;> (simp[T.get] at h)
theorem hG:Glob G0.raw:=⟨fun g x h=>by rw[(quv h).1];decide,fun g x h=>by rw[(quv h).2];decide⟩
abbrev H0:AHeap:=⟨qil,G0.raw⟩
def Z0:Nat->Option ABlk:=fun g=>rawG.get g
theorem gz0:GZ Z0 G0:=by
 refine ⟨fun g x e=>?_,fun g x e=>e⟩;simp only[G0,lk] at e;split at e
 ·rename_i h;subst h;cases e;refine ⟨by decide,fun ν=>⟨0,0,qh5,118,2,rfl,rfl,by decide,?_⟩⟩;exact qzi (.arr 5 coS) costsL ⟨rfl,fun x _=>⟨trivial,trivial⟩⟩
 ·cases e
theorem fro0:Px.Fro G0 H0:=⟨fun i x h=>by rw[(quv h).2];rfl,fun i x h=>by rw[(quv h).2];trivial,fun i x h=>by rw[(quv h).1];decide,gz0⟩
end Go.Proofs.YticpkibnhakgbaaDoor
namespace Go.Proofs.YticpkibnhakgbaaDoor
open Go.Px Go.Ax
theorem ra_of {l:List RaT} (h:wfD (.sl raS) l):qll l:=fun x hx=>m6_of (h.2 x hx)
end Go.Proofs.YticpkibnhakgbaaDoor
namespace Go.Proofs.YticpkibnhakgbaaDoor
open Go.Px Go.Ax
set_option maxRecDepth 100000
attribute [local irreducible] Go.Px.sy Go.Px.syE
end Go.Proofs.YticpkibnhakgbaaDoor
namespace Go.Proofs.YticpkibnhakgbaaDoor
open Go.Px Go.Ax
set_option maxRecDepth 100000
def CKk3:CV:=[(9,.inl ctSn9),(10,.inl ctChn),(11,.inl ctAl),(12,.inl ctAl),(13,.inl ctSm),(14,.inl ctCo),(15,.inl ctCo),(16,.inl ctRaw),(17,.inl ctTh),(18,.inl ctTh),(19,.inl ctSS)]
theorem cxK3c:CxOK Tryd.prog tt G0 CKk3:=((((((((((cx0.cons q39 (fn:=Tryd.f19) rfl rfl rfl).cons qr2 (fn:=Tryd.f18) rfl rfl rfl).cons qpv (fn:=Tryd.f17) rfl rfl rfl).cons qzt (fn:=Tryd.f16) rfl rfl rfl).cons qr5 (fn:=Tryd.f15) rfl rfl rfl).cons qq5 (fn:=Tryd.f14) rfl rfl rfl).cons qvx (fn:=Tryd.f13) rfl rfl rfl).cons qzv (fn:=Tryd.f12) rfl rfl rfl).cons qs6 (fn:=Tryd.f11) rfl rfl rfl).cons q05 (fn:=Tryd.f10) rfl rfl rfl).cons qx6 (fn:=Tryd.f9) rfl rfl rfl
set_option maxRecDepth 100000
def qfe (l:List RaT) (s:List (List (List Int))) (w:List Int):List (Nat × LB):=[(4,.var [.arr (2:Nat) (Sh.arr (2:Nat) uB).sl s]),(5,.var [.arr (2:Nat) uB w]),(9,.var [.bool (allV (winL paS 0 (chV l).length (chV l))).1.1,.int .i64 (allV (winL paS 0 (chV l).length (chV l))).1.2.1,.int .i64 (allV (winL paS 0 (chV l).length (chV l))).1.2.2.1,.sl opS (allV (winL paS 0 (chV l).length (chV l))).1.2.2.2]),(11,.var [.bool (allV (winL paS 0 (chV l).length (chV l))).1.1,.int .i64 (allV (winL paS 0 (chV l).length (chV l))).1.2.1,.int .i64 (allV (winL paS 0 (chV l).length (chV l))).1.2.2.1,.sl opS (allV (winL paS 0 (chV l).length (chV l))).1.2.2.2]),(13,.var [.bool (gtP (winL paS 0 (chV l).length (chV l)) ((IntKind.i64.wrap (gtB w (0))).tmod (↑(winL paS 0 (chV l).length (chV l)).length:Int)).toNat).1,.int .i64 (gtP (winL paS 0 (chV l).length (chV l)) ((IntKind.i64.wrap (gtB w (0))).tmod (↑(winL paS 0 (chV l).length (chV l)).length:Int)).toNat).2.1,.int .i64 (gtP (winL paS 0 (chV l).length (chV l)) ((IntKind.i64.wrap (gtB w (0))).tmod (↑(winL paS 0 (chV l).length (chV l)).length:Int)).toNat).2.2.1,.sl opS (gtP (winL paS 0 (chV l).length (chV l)) ((IntKind.i64.wrap (gtB w (0))).tmod (↑(winL paS 0 (chV l).length (chV l)).length:Int)).toNat).2.2.2]),(14,.var [.bool (gtP (winL paS 0 (chV l).length (chV l)) ((IntKind.i64.wrap (gtB w (1))).tmod (↑(winL paS 0 (chV l).length (chV l)).length:Int)).toNat).1,.int .i64 (gtP (winL paS 0 (chV l).length (chV l)) ((IntKind.i64.wrap (gtB w (1))).tmod (↑(winL paS 0 (chV l).length (chV l)).length:Int)).toNat).2.1,.int .i64 (gtP (winL paS 0 (chV l).length (chV l)) ((IntKind.i64.wrap (gtB w (1))).tmod (↑(winL paS 0 (chV l).length (chV l)).length:Int)).toNat).2.2.1,.sl opS (gtP (winL paS 0 (chV l).length (chV l)) ((IntKind.i64.wrap (gtB w (1))).tmod (↑(winL paS 0 (chV l).length (chV l)).length:Int)).toNat).2.2.2]),(15,.var [.bool (coV (gtP (winL paS 0 (chV l).length (chV l)) ((IntKind.i64.wrap (gtB w (0))).tmod (↑(winL paS 0 (chV l).length (chV l)).length:Int)).toNat) (gtP (winL paS 0 (chV l).length (chV l)) ((IntKind.i64.wrap (gtB w (1))).tmod (↑(winL paS 0 (chV l).length (chV l)).length:Int)).toNat)).1.1,.int .i64 (coV (gtP (winL paS 0 (chV l).length (chV l)) ((IntKind.i64.wrap (gtB w (0))).tmod (↑(winL paS 0 (chV l).length (chV l)).length:Int)).toNat) (gtP (winL paS 0 (chV l).length (chV l)) ((IntKind.i64.wrap (gtB w (1))).tmod (↑(winL paS 0 (chV l).length (chV l)).length:Int)).toNat)).1.2.1,.int .i64 (coV (gtP (winL paS 0 (chV l).length (chV l)) ((IntKind.i64.wrap (gtB w (0))).tmod (↑(winL paS 0 (chV l).length (chV l)).length:Int)).toNat) (gtP (winL paS 0 (chV l).length (chV l)) ((IntKind.i64.wrap (gtB w (1))).tmod (↑(winL paS 0 (chV l).length (chV l)).length:Int)).toNat)).1.2.2.1,.sl opS (coV (gtP (winL paS 0 (chV l).length (chV l)) ((IntKind.i64.wrap (gtB w (0))).tmod (↑(winL paS 0 (chV l).length (chV l)).length:Int)).toNat) (gtP (winL paS 0 (chV l).length (chV l)) ((IntKind.i64.wrap (gtB w (1))).tmod (↑(winL paS 0 (chV l).length (chV l)).length:Int)).toNat)).1.2.2.2]),(17,.var [.bool (coV (gtP (winL paS 0 (chV l).length (chV l)) ((IntKind.i64.wrap (gtB w (0))).tmod (↑(winL paS 0 (chV l).length (chV l)).length:Int)).toNat) (gtP (winL paS 0 (chV l).length (chV l)) ((IntKind.i64.wrap (gtB w (1))).tmod (↑(winL paS 0 (chV l).length (chV l)).length:Int)).toNat)).1.1,.int .i64 (coV (gtP (winL paS 0 (chV l).length (chV l)) ((IntKind.i64.wrap (gtB w (0))).tmod (↑(winL paS 0 (chV l).length (chV l)).length:Int)).toNat) (gtP (winL paS 0 (chV l).length (chV l)) ((IntKind.i64.wrap (gtB w (1))).tmod (↑(winL paS 0 (chV l).length (chV l)).length:Int)).toNat)).1.2.1,.int .i64 (coV (gtP (winL paS 0 (chV l).length (chV l)) ((IntKind.i64.wrap (gtB w (0))).tmod (↑(winL paS 0 (chV l).length (chV l)).length:Int)).toNat) (gtP (winL paS 0 (chV l).length (chV l)) ((IntKind.i64.wrap (gtB w (1))).tmod (↑(winL paS 0 (chV l).length (chV l)).length:Int)).toNat)).1.2.2.1,.sl opS (coV (gtP (winL paS 0 (chV l).length (chV l)) ((IntKind.i64.wrap (gtB w (0))).tmod (↑(winL paS 0 (chV l).length (chV l)).length:Int)).toNat) (gtP (winL paS 0 (chV l).length (chV l)) ((IntKind.i64.wrap (gtB w (1))).tmod (↑(winL paS 0 (chV l).length (chV l)).length:Int)).toNat)).1.2.2.2]),(1323584,.row 66 syS (rawL (gt (Sh.arr (2:Nat) uB).sl s (0)) (9:Int) (rawK (gt (Sh.arr (2:Nat) uB).sl s (0))))),(1356352,.row 66 syS (rawL (gt (Sh.arr (2:Nat) uB).sl s (1)) (IntKind.i64.wrap ((1:Int)+(IntKind.i64.wrap (gtB w (0))).tmod (20:Int))) (rawK (gt (Sh.arr (2:Nat) uB).sl s (1))))),(1372736,.row 66 syS (thV (winL syS 0 (rawL (gt (Sh.arr (2:Nat) uB).sl s (0)) (9:Int) (rawK (gt (Sh.arr (2:Nat) uB).sl s (0)))).length (rawL (gt (Sh.arr (2:Nat) uB).sl s (0)) (9:Int) (rawK (gt (Sh.arr (2:Nat) uB).sl s (0))))) (winL syS 0 (rawL (gt (Sh.arr (2:Nat) uB).sl s (1)) (IntKind.i64.wrap ((1:Int)+(IntKind.i64.wrap (gtB w (0))).tmod (20:Int))) (rawK (gt (Sh.arr (2:Nat) uB).sl s (1)))).length (rawL (gt (Sh.arr (2:Nat) uB).sl s (1)) (IntKind.i64.wrap ((1:Int)+(IntKind.i64.wrap (gtB w (0))).tmod (20:Int))) (rawK (gt (Sh.arr (2:Nat) uB).sl s (1)))))).1),(1397312,.row 66 syS (thV (winL syS 0 (rawL (gt (Sh.arr (2:Nat) uB).sl s (0)) (9:Int) (rawK (gt (Sh.arr (2:Nat) uB).sl s (0)))).length (rawL (gt (Sh.arr (2:Nat) uB).sl s (0)) (9:Int) (rawK (gt (Sh.arr (2:Nat) uB).sl s (0))))) (winL syS 0 (rawL (gt (Sh.arr (2:Nat) uB).sl s (1)) (IntKind.i64.wrap ((1:Int)+(IntKind.i64.wrap (gtB w (0))).tmod (20:Int))) (rawK (gt (Sh.arr (2:Nat) uB).sl s (1)))).length (rawL (gt (Sh.arr (2:Nat) uB).sl s (1)) (IntKind.i64.wrap ((1:Int)+(IntKind.i64.wrap (gtB w (0))).tmod (20:Int))) (rawK (gt (Sh.arr (2:Nat) uB).sl s (1)))))).1)]
def qoq (l:List RaT) (s:List (List (List Int))) (w:List Int):List (Nat × LB):=[(4,.var [.arr (2:Nat) (Sh.arr (2:Nat) uB).sl s]),(5,.var [.arr (2:Nat) uB w]),(9,.var [.bool (allV (winL paS 0 (chV l).length (chV l))).1.1,.int .i64 (allV (winL paS 0 (chV l).length (chV l))).1.2.1,.int .i64 (allV (winL paS 0 (chV l).length (chV l))).1.2.2.1,.sl opS (allV (winL paS 0 (chV l).length (chV l))).1.2.2.2]),(11,.var [.bool (allV (winL paS 0 (chV l).length (chV l))).1.1,.int .i64 (allV (winL paS 0 (chV l).length (chV l))).1.2.1,.int .i64 (allV (winL paS 0 (chV l).length (chV l))).1.2.2.1,.sl opS (allV (winL paS 0 (chV l).length (chV l))).1.2.2.2])]
theorem vc_l3 (l:List RaT) (s:List (List (List Int))) (w:List Int) (Q:QT) (R:RT):sy tt G0 CKk3 Tryd.f3.ntmps Tryd.f3.results.toList Q R 1000 [.code (qae Tryd.f3)] (entry [.sl raS,.arr 2 (.sl a2S),w2S] (l,s,w,())) =
  (ctSn9.pre () /\
 ctChn.pre (l,(4:Int),()) /\
 0+(chV l).length<=(chV l).length /\
 0+(chV l).length<=(chV l).length /\
 0+(chV l).length<=(chV l).length /\
 ctAl.pre (winL paS 0 (chV l).length (chV l),()) /\
 ctAl.pre (winL paS 0 (chV l).length (chV l),()) /\
 ctSm.pre (((allV (winL paS 0 (chV l).length (chV l))).1),((allV (winL paS 0 (chV l).length (chV l))).1),()) /\
 bc (!smB ((allV (winL paS 0 (chV l).length (chV l))).1) ((allV (winL paS 0 (chV l).length (chV l))).1)) (true=true /\
 Q [.bool false] (qoq l s w)) (bc (bif false then true else decide ((allV (winL paS 0 (chV l).length (chV l))).2≠(allV (winL paS 0 (chV l).length (chV l))).2)) (Q [.bool false] (qoq l s w)) ((0:Int)<=0 /\
 (0:Int)<(↑(2:Nat):Int) /\
 0<2 /\
 (↑(winL paS 0 (chV l).length (chV l)).length:Int)≠0 /\
 (0:Int)<=(IntKind.i64.wrap (gtB w (0))).tmod (↑(winL paS 0 (chV l).length (chV l)).length:Int) /\
 (IntKind.i64.wrap (gtB w (0))).tmod (↑(winL paS 0 (chV l).length (chV l)).length:Int)<(↑(winL paS 0 (chV l).length (chV l)).length:Int) /\
 (0:Int)<=1 /\
 (1:Int)<(↑(2:Nat):Int) /\
 1<2 /\
 (↑(winL paS 0 (chV l).length (chV l)).length:Int)≠0 /\
 (0:Int)<=(IntKind.i64.wrap (gtB w (1))).tmod (↑(winL paS 0 (chV l).length (chV l)).length:Int) /\
 (IntKind.i64.wrap (gtB w (1))).tmod (↑(winL paS 0 (chV l).length (chV l)).length:Int)<(↑(winL paS 0 (chV l).length (chV l)).length:Int) /\
 ctCo.pre ((gtP (winL paS 0 (chV l).length (chV l)) ((IntKind.i64.wrap (gtB w (0))).tmod (↑(winL paS 0 (chV l).length (chV l)).length:Int)).toNat),(gtP (winL paS 0 (chV l).length (chV l)) ((IntKind.i64.wrap (gtB w (1))).tmod (↑(winL paS 0 (chV l).length (chV l)).length:Int)).toNat),()) /\
 ctCo.pre ((gtP (winL paS 0 (chV l).length (chV l)) ((IntKind.i64.wrap (gtB w (0))).tmod (↑(winL paS 0 (chV l).length (chV l)).length:Int)).toNat),(gtP (winL paS 0 (chV l).length (chV l)) ((IntKind.i64.wrap (gtB w (1))).tmod (↑(winL paS 0 (chV l).length (chV l)).length:Int)).toNat),()) /\
 (0:Int)<=0 /\
 (0:Int)<(↑(2:Nat):Int) /\
 0<2 /\
 ctRaw.pre (gt (Sh.arr (2:Nat) uB).sl s (0),(9:Int),()) /\
 (0:Int)<=1 /\
 (1:Int)<(↑(2:Nat):Int) /\
 1<2 /\
 (0:Int)<=0 /\
 (0:Int)<(↑(2:Nat):Int) /\
 0<2 /\
 (20:Int)≠0 /\
 ctRaw.pre (gt (Sh.arr (2:Nat) uB).sl s (1),IntKind.i64.wrap ((1:Int)+(IntKind.i64.wrap (gtB w (0))).tmod (20:Int)),()) /\
 0+(rawL (gt (Sh.arr (2:Nat) uB).sl s (0)) (9:Int) (rawK (gt (Sh.arr (2:Nat) uB).sl s (0)))).length<=(rawL (gt (Sh.arr (2:Nat) uB).sl s (0)) (9:Int) (rawK (gt (Sh.arr (2:Nat) uB).sl s (0)))).length /\
 0+(rawL (gt (Sh.arr (2:Nat) uB).sl s (1)) (IntKind.i64.wrap ((1:Int)+(IntKind.i64.wrap (gtB w (0))).tmod (20:Int))) (rawK (gt (Sh.arr (2:Nat) uB).sl s (1)))).length<=(rawL (gt (Sh.arr (2:Nat) uB).sl s (1)) (IntKind.i64.wrap ((1:Int)+(IntKind.i64.wrap (gtB w (0))).tmod (20:Int))) (rawK (gt (Sh.arr (2:Nat) uB).sl s (1)))).length /\
 ctTh.pre (winL syS 0 (rawL (gt (Sh.arr (2:Nat) uB).sl s (0)) (9:Int) (rawK (gt (Sh.arr (2:Nat) uB).sl s (0)))).length (rawL (gt (Sh.arr (2:Nat) uB).sl s (0)) (9:Int) (rawK (gt (Sh.arr (2:Nat) uB).sl s (0)))),winL syS 0 (rawL (gt (Sh.arr (2:Nat) uB).sl s (1)) (IntKind.i64.wrap ((1:Int)+(IntKind.i64.wrap (gtB w (0))).tmod (20:Int))) (rawK (gt (Sh.arr (2:Nat) uB).sl s (1)))).length (rawL (gt (Sh.arr (2:Nat) uB).sl s (1)) (IntKind.i64.wrap ((1:Int)+(IntKind.i64.wrap (gtB w (0))).tmod (20:Int))) (rawK (gt (Sh.arr (2:Nat) uB).sl s (1)))),()) /\
 0+(rawL (gt (Sh.arr (2:Nat) uB).sl s (0)) (9:Int) (rawK (gt (Sh.arr (2:Nat) uB).sl s (0)))).length<=(rawL (gt (Sh.arr (2:Nat) uB).sl s (0)) (9:Int) (rawK (gt (Sh.arr (2:Nat) uB).sl s (0)))).length /\
 0+(rawL (gt (Sh.arr (2:Nat) uB).sl s (1)) (IntKind.i64.wrap ((1:Int)+(IntKind.i64.wrap (gtB w (0))).tmod (20:Int))) (rawK (gt (Sh.arr (2:Nat) uB).sl s (1)))).length<=(rawL (gt (Sh.arr (2:Nat) uB).sl s (1)) (IntKind.i64.wrap ((1:Int)+(IntKind.i64.wrap (gtB w (0))).tmod (20:Int))) (rawK (gt (Sh.arr (2:Nat) uB).sl s (1)))).length /\
 ctTh.pre (winL syS 0 (rawL (gt (Sh.arr (2:Nat) uB).sl s (0)) (9:Int) (rawK (gt (Sh.arr (2:Nat) uB).sl s (0)))).length (rawL (gt (Sh.arr (2:Nat) uB).sl s (0)) (9:Int) (rawK (gt (Sh.arr (2:Nat) uB).sl s (0)))),winL syS 0 (rawL (gt (Sh.arr (2:Nat) uB).sl s (1)) (IntKind.i64.wrap ((1:Int)+(IntKind.i64.wrap (gtB w (0))).tmod (20:Int))) (rawK (gt (Sh.arr (2:Nat) uB).sl s (1)))).length (rawL (gt (Sh.arr (2:Nat) uB).sl s (1)) (IntKind.i64.wrap ((1:Int)+(IntKind.i64.wrap (gtB w (0))).tmod (20:Int))) (rawK (gt (Sh.arr (2:Nat) uB).sl s (1)))),()) /\
 ctSm.pre (((coV (gtP (winL paS 0 (chV l).length (chV l)) ((IntKind.i64.wrap (gtB w (0))).tmod (↑(winL paS 0 (chV l).length (chV l)).length:Int)).toNat) (gtP (winL paS 0 (chV l).length (chV l)) ((IntKind.i64.wrap (gtB w (1))).tmod (↑(winL paS 0 (chV l).length (chV l)).length:Int)).toNat)).1),((coV (gtP (winL paS 0 (chV l).length (chV l)) ((IntKind.i64.wrap (gtB w (0))).tmod (↑(winL paS 0 (chV l).length (chV l)).length:Int)).toNat) (gtP (winL paS 0 (chV l).length (chV l)) ((IntKind.i64.wrap (gtB w (1))).tmod (↑(winL paS 0 (chV l).length (chV l)).length:Int)).toNat)).1),()) /\
 bc (smB ((coV (gtP (winL paS 0 (chV l).length (chV l)) ((IntKind.i64.wrap (gtB w (0))).tmod (↑(winL paS 0 (chV l).length (chV l)).length:Int)).toNat) (gtP (winL paS 0 (chV l).length (chV l)) ((IntKind.i64.wrap (gtB w (1))).tmod (↑(winL paS 0 (chV l).length (chV l)).length:Int)).toNat)).1) ((coV (gtP (winL paS 0 (chV l).length (chV l)) ((IntKind.i64.wrap (gtB w (0))).tmod (↑(winL paS 0 (chV l).length (chV l)).length:Int)).toNat) (gtP (winL paS 0 (chV l).length (chV l)) ((IntKind.i64.wrap (gtB w (1))).tmod (↑(winL paS 0 (chV l).length (chV l)).length:Int)).toNat)).1)) (bc (decide ((coV (gtP (winL paS 0 (chV l).length (chV l)) ((IntKind.i64.wrap (gtB w (0))).tmod (↑(winL paS 0 (chV l).length (chV l)).length:Int)).toNat) (gtP (winL paS 0 (chV l).length (chV l)) ((IntKind.i64.wrap (gtB w (1))).tmod (↑(winL paS 0 (chV l).length (chV l)).length:Int)).toNat)).2=(coV (gtP (winL paS 0 (chV l).length (chV l)) ((IntKind.i64.wrap (gtB w (0))).tmod (↑(winL paS 0 (chV l).length (chV l)).length:Int)).toNat) (gtP (winL paS 0 (chV l).length (chV l)) ((IntKind.i64.wrap (gtB w (1))).tmod (↑(winL paS 0 (chV l).length (chV l)).length:Int)).toNat)).2)) (0+(thV (winL syS 0 (rawL (gt (Sh.arr (2:Nat) uB).sl s (0)) (9:Int) (rawK (gt (Sh.arr (2:Nat) uB).sl s (0)))).length (rawL (gt (Sh.arr (2:Nat) uB).sl s (0)) (9:Int) (rawK (gt (Sh.arr (2:Nat) uB).sl s (0))))) (winL syS 0 (rawL (gt (Sh.arr (2:Nat) uB).sl s (1)) (IntKind.i64.wrap ((1:Int)+(IntKind.i64.wrap (gtB w (0))).tmod (20:Int))) (rawK (gt (Sh.arr (2:Nat) uB).sl s (1)))).length (rawL (gt (Sh.arr (2:Nat) uB).sl s (1)) (IntKind.i64.wrap ((1:Int)+(IntKind.i64.wrap (gtB w (0))).tmod (20:Int))) (rawK (gt (Sh.arr (2:Nat) uB).sl s (1)))))).1.length<=(thV (winL syS 0 (rawL (gt (Sh.arr (2:Nat) uB).sl s (0)) (9:Int) (rawK (gt (Sh.arr (2:Nat) uB).sl s (0)))).length (rawL (gt (Sh.arr (2:Nat) uB).sl s (0)) (9:Int) (rawK (gt (Sh.arr (2:Nat) uB).sl s (0))))) (winL syS 0 (rawL (gt (Sh.arr (2:Nat) uB).sl s (1)) (IntKind.i64.wrap ((1:Int)+(IntKind.i64.wrap (gtB w (0))).tmod (20:Int))) (rawK (gt (Sh.arr (2:Nat) uB).sl s (1)))).length (rawL (gt (Sh.arr (2:Nat) uB).sl s (1)) (IntKind.i64.wrap ((1:Int)+(IntKind.i64.wrap (gtB w (0))).tmod (20:Int))) (rawK (gt (Sh.arr (2:Nat) uB).sl s (1)))))).1.length /\
 0+(thV (winL syS 0 (rawL (gt (Sh.arr (2:Nat) uB).sl s (0)) (9:Int) (rawK (gt (Sh.arr (2:Nat) uB).sl s (0)))).length (rawL (gt (Sh.arr (2:Nat) uB).sl s (0)) (9:Int) (rawK (gt (Sh.arr (2:Nat) uB).sl s (0))))) (winL syS 0 (rawL (gt (Sh.arr (2:Nat) uB).sl s (1)) (IntKind.i64.wrap ((1:Int)+(IntKind.i64.wrap (gtB w (0))).tmod (20:Int))) (rawK (gt (Sh.arr (2:Nat) uB).sl s (1)))).length (rawL (gt (Sh.arr (2:Nat) uB).sl s (1)) (IntKind.i64.wrap ((1:Int)+(IntKind.i64.wrap (gtB w (0))).tmod (20:Int))) (rawK (gt (Sh.arr (2:Nat) uB).sl s (1)))))).1.length<=(thV (winL syS 0 (rawL (gt (Sh.arr (2:Nat) uB).sl s (0)) (9:Int) (rawK (gt (Sh.arr (2:Nat) uB).sl s (0)))).length (rawL (gt (Sh.arr (2:Nat) uB).sl s (0)) (9:Int) (rawK (gt (Sh.arr (2:Nat) uB).sl s (0))))) (winL syS 0 (rawL (gt (Sh.arr (2:Nat) uB).sl s (1)) (IntKind.i64.wrap ((1:Int)+(IntKind.i64.wrap (gtB w (0))).tmod (20:Int))) (rawK (gt (Sh.arr (2:Nat) uB).sl s (1)))).length (rawL (gt (Sh.arr (2:Nat) uB).sl s (1)) (IntKind.i64.wrap ((1:Int)+(IntKind.i64.wrap (gtB w (0))).tmod (20:Int))) (rawK (gt (Sh.arr (2:Nat) uB).sl s (1)))))).1.length /\
 ctSS.pre (winL syS 0 (thV (winL syS 0 (rawL (gt (Sh.arr (2:Nat) uB).sl s (0)) (9:Int) (rawK (gt (Sh.arr (2:Nat) uB).sl s (0)))).length (rawL (gt (Sh.arr (2:Nat) uB).sl s (0)) (9:Int) (rawK (gt (Sh.arr (2:Nat) uB).sl s (0))))) (winL syS 0 (rawL (gt (Sh.arr (2:Nat) uB).sl s (1)) (IntKind.i64.wrap ((1:Int)+(IntKind.i64.wrap (gtB w (0))).tmod (20:Int))) (rawK (gt (Sh.arr (2:Nat) uB).sl s (1)))).length (rawL (gt (Sh.arr (2:Nat) uB).sl s (1)) (IntKind.i64.wrap ((1:Int)+(IntKind.i64.wrap (gtB w (0))).tmod (20:Int))) (rawK (gt (Sh.arr (2:Nat) uB).sl s (1)))))).1.length (thV (winL syS 0 (rawL (gt (Sh.arr (2:Nat) uB).sl s (0)) (9:Int) (rawK (gt (Sh.arr (2:Nat) uB).sl s (0)))).length (rawL (gt (Sh.arr (2:Nat) uB).sl s (0)) (9:Int) (rawK (gt (Sh.arr (2:Nat) uB).sl s (0))))) (winL syS 0 (rawL (gt (Sh.arr (2:Nat) uB).sl s (1)) (IntKind.i64.wrap ((1:Int)+(IntKind.i64.wrap (gtB w (0))).tmod (20:Int))) (rawK (gt (Sh.arr (2:Nat) uB).sl s (1)))).length (rawL (gt (Sh.arr (2:Nat) uB).sl s (1)) (IntKind.i64.wrap ((1:Int)+(IntKind.i64.wrap (gtB w (0))).tmod (20:Int))) (rawK (gt (Sh.arr (2:Nat) uB).sl s (1)))))).1,winL syS 0 (thV (winL syS 0 (rawL (gt (Sh.arr (2:Nat) uB).sl s (0)) (9:Int) (rawK (gt (Sh.arr (2:Nat) uB).sl s (0)))).length (rawL (gt (Sh.arr (2:Nat) uB).sl s (0)) (9:Int) (rawK (gt (Sh.arr (2:Nat) uB).sl s (0))))) (winL syS 0 (rawL (gt (Sh.arr (2:Nat) uB).sl s (1)) (IntKind.i64.wrap ((1:Int)+(IntKind.i64.wrap (gtB w (0))).tmod (20:Int))) (rawK (gt (Sh.arr (2:Nat) uB).sl s (1)))).length (rawL (gt (Sh.arr (2:Nat) uB).sl s (1)) (IntKind.i64.wrap ((1:Int)+(IntKind.i64.wrap (gtB w (0))).tmod (20:Int))) (rawK (gt (Sh.arr (2:Nat) uB).sl s (1)))))).1.length (thV (winL syS 0 (rawL (gt (Sh.arr (2:Nat) uB).sl s (0)) (9:Int) (rawK (gt (Sh.arr (2:Nat) uB).sl s (0)))).length (rawL (gt (Sh.arr (2:Nat) uB).sl s (0)) (9:Int) (rawK (gt (Sh.arr (2:Nat) uB).sl s (0))))) (winL syS 0 (rawL (gt (Sh.arr (2:Nat) uB).sl s (1)) (IntKind.i64.wrap ((1:Int)+(IntKind.i64.wrap (gtB w (0))).tmod (20:Int))) (rawK (gt (Sh.arr (2:Nat) uB).sl s (1)))).length (rawL (gt (Sh.arr (2:Nat) uB).sl s (1)) (IntKind.i64.wrap ((1:Int)+(IntKind.i64.wrap (gtB w (0))).tmod (20:Int))) (rawK (gt (Sh.arr (2:Nat) uB).sl s (1)))))).1,()) /\
 bc (decide ((have this:=winL syS 0 (thV (winL syS 0 (rawL (gt (Sh.arr (2:Nat) uB).sl s (0)) (9:Int) (rawK (gt (Sh.arr (2:Nat) uB).sl s (0)))).length (rawL (gt (Sh.arr (2:Nat) uB).sl s (0)) (9:Int) (rawK (gt (Sh.arr (2:Nat) uB).sl s (0))))) (winL syS 0 (rawL (gt (Sh.arr (2:Nat) uB).sl s (1)) (IntKind.i64.wrap ((1:Int)+(IntKind.i64.wrap (gtB w (0))).tmod (20:Int))) (rawK (gt (Sh.arr (2:Nat) uB).sl s (1)))).length (rawL (gt (Sh.arr (2:Nat) uB).sl s (1)) (IntKind.i64.wrap ((1:Int)+(IntKind.i64.wrap (gtB w (0))).tmod (20:Int))) (rawK (gt (Sh.arr (2:Nat) uB).sl s (1)))))).1.length (thV (winL syS 0 (rawL (gt (Sh.arr (2:Nat) uB).sl s (0)) (9:Int) (rawK (gt (Sh.arr (2:Nat) uB).sl s (0)))).length (rawL (gt (Sh.arr (2:Nat) uB).sl s (0)) (9:Int) (rawK (gt (Sh.arr (2:Nat) uB).sl s (0))))) (winL syS 0 (rawL (gt (Sh.arr (2:Nat) uB).sl s (1)) (IntKind.i64.wrap ((1:Int)+(IntKind.i64.wrap (gtB w (0))).tmod (20:Int))) (rawK (gt (Sh.arr (2:Nat) uB).sl s (1)))).length (rawL (gt (Sh.arr (2:Nat) uB).sl s (1)) (IntKind.i64.wrap ((1:Int)+(IntKind.i64.wrap (gtB w (0))).tmod (20:Int))) (rawK (gt (Sh.arr (2:Nat) uB).sl s (1)))))).1;this)=winL syS 0 (thV (winL syS 0 (rawL (gt (Sh.arr (2:Nat) uB).sl s (0)) (9:Int) (rawK (gt (Sh.arr (2:Nat) uB).sl s (0)))).length (rawL (gt (Sh.arr (2:Nat) uB).sl s (0)) (9:Int) (rawK (gt (Sh.arr (2:Nat) uB).sl s (0))))) (winL syS 0 (rawL (gt (Sh.arr (2:Nat) uB).sl s (1)) (IntKind.i64.wrap ((1:Int)+(IntKind.i64.wrap (gtB w (0))).tmod (20:Int))) (rawK (gt (Sh.arr (2:Nat) uB).sl s (1)))).length (rawL (gt (Sh.arr (2:Nat) uB).sl s (1)) (IntKind.i64.wrap ((1:Int)+(IntKind.i64.wrap (gtB w (0))).tmod (20:Int))) (rawK (gt (Sh.arr (2:Nat) uB).sl s (1)))))).1.length (thV (winL syS 0 (rawL (gt (Sh.arr (2:Nat) uB).sl s (0)) (9:Int) (rawK (gt (Sh.arr (2:Nat) uB).sl s (0)))).length (rawL (gt (Sh.arr (2:Nat) uB).sl s (0)) (9:Int) (rawK (gt (Sh.arr (2:Nat) uB).sl s (0))))) (winL syS 0 (rawL (gt (Sh.arr (2:Nat) uB).sl s (1)) (IntKind.i64.wrap ((1:Int)+(IntKind.i64.wrap (gtB w (0))).tmod (20:Int))) (rawK (gt (Sh.arr (2:Nat) uB).sl s (1)))).length (rawL (gt (Sh.arr (2:Nat) uB).sl s (1)) (IntKind.i64.wrap ((1:Int)+(IntKind.i64.wrap (gtB w (0))).tmod (20:Int))) (rawK (gt (Sh.arr (2:Nat) uB).sl s (1)))))).1)) (bc (decide ((thV (winL syS 0 (rawL (gt (Sh.arr (2:Nat) uB).sl s (0)) (9:Int) (rawK (gt (Sh.arr (2:Nat) uB).sl s (0)))).length (rawL (gt (Sh.arr (2:Nat) uB).sl s (0)) (9:Int) (rawK (gt (Sh.arr (2:Nat) uB).sl s (0))))) (winL syS 0 (rawL (gt (Sh.arr (2:Nat) uB).sl s (1)) (IntKind.i64.wrap ((1:Int)+(IntKind.i64.wrap (gtB w (0))).tmod (20:Int))) (rawK (gt (Sh.arr (2:Nat) uB).sl s (1)))).length (rawL (gt (Sh.arr (2:Nat) uB).sl s (1)) (IntKind.i64.wrap ((1:Int)+(IntKind.i64.wrap (gtB w (0))).tmod (20:Int))) (rawK (gt (Sh.arr (2:Nat) uB).sl s (1)))))).2=(thV (winL syS 0 (rawL (gt (Sh.arr (2:Nat) uB).sl s (0)) (9:Int) (rawK (gt (Sh.arr (2:Nat) uB).sl s (0)))).length (rawL (gt (Sh.arr (2:Nat) uB).sl s (0)) (9:Int) (rawK (gt (Sh.arr (2:Nat) uB).sl s (0))))) (winL syS 0 (rawL (gt (Sh.arr (2:Nat) uB).sl s (1)) (IntKind.i64.wrap ((1:Int)+(IntKind.i64.wrap (gtB w (0))).tmod (20:Int))) (rawK (gt (Sh.arr (2:Nat) uB).sl s (1)))).length (rawL (gt (Sh.arr (2:Nat) uB).sl s (1)) (IntKind.i64.wrap ((1:Int)+(IntKind.i64.wrap (gtB w (0))).tmod (20:Int))) (rawK (gt (Sh.arr (2:Nat) uB).sl s (1)))))).2)) (Q [.bool true] (qfe l s w)) (false=false /\
 Q [.bool false] (qfe l s w))) (false=false /\
 false=false /\
 Q [.bool false] (qfe l s w))) (false=false /\
 false=false /\
 false=false /\
 Q [.bool false] (qfe l s w))) (false=false /\
 false=false /\
 false=false /\
 false=false /\
 Q [.bool false] (qfe l s w))))):=by kernel_rfl
end Go.Proofs.YticpkibnhakgbaaDoor
namespace Go.Proofs.YticpkibnhakgbaaDoor
open Go.Px Go.Ax
set_option maxRecDepth 100000
def q77 (m:Nat) (l:List SyT):Prop:=l.length<m/\l.length<=65536/\∃ a:Int,a<16777216/\∀ s∈l,sOK a s=true
def ctLe (m:Nat):Ctr:=⟨[.sl syS],fun x=>q77 m x.1,fun x=>[.int .i64 (cst x.1)],fun _=>[]⟩
def CLe (m:Nat):CV:=[(44,.inl ctFt),(45,.inl ctPr),(27,.inl (ctLe m))]
set_option maxRecDepth 100000
end Go.Proofs.YticpkibnhakgbaaDoor
namespace Go.Proofs.YticpkibnhakgbaaDoor
open Go.Px Go.Ax
set_option maxRecDepth 100000
attribute [local irreducible] Go.Px.sy Go.Px.syE
section
variable (m:Nat) (cx:CxOK Tryd.prog tt G0 (CLe m)) (l:List SyT) (hp:q77 (m+1) l) (h0:l≠[])
include cx hp h0
end
end Go.Proofs.YticpkibnhakgbaaDoor
namespace Go.Proofs.YticpkibnhakgbaaDoor
open Go.Px Go.Ax
set_option maxRecDepth 100000
set_option maxRecDepth 100000
end Go.Proofs.YticpkibnhakgbaaDoor
namespace Go.Proofs.YticpkibnhakgbaaDoor
open Go.Px Go.Ax
set_option maxRecDepth 100000
attribute [local irreducible] Go.Px.sy Go.Px.syE
abbrev gtA (s:List (List (List Int))) (i:Nat):List (List Int):=gt (Sh.arr 2 uB).sl s i
theorem q8p {s:List (List (List Int))} (h:wfD (.arr 2 (.sl a2S)) s) {i:Nat} (hi:i<2):qlm (gtA s i):=by
 have h1:s.length=2:=h.1;have e:gtA s i=s[i]'(by omega):=by
  show gt (Sh.arr 2 uB).sl s i=_
  unfold gt;rw[List.getElem?_eq_getElem (by omega)];rfl
 rw[e];have:=h.2 _ (List.getElem_mem (show i<s.length by omega));exact l2_of this.2
end Go.Proofs.YticpkibnhakgbaaDoor
namespace Go.Proofs.YticpkibnhakgbaaDoor
open Go.Px Go.Ax
set_option maxRecDepth 100000
attribute [local irreducible] Go.Px.sy Go.Px.syE
theorem qzx (l:List SyT) (m:Int):(poV l m).1.2.2.2.length<=4096:=by
 unfold poV;split
 ·exact Nat.zero_le _
 ·rename_i h
  show (chL l).length<=4096
  omega
theorem q0z (l:List SyT) (m:Int):(cpV l m).1.2.2.2.length<=4096:=by
 unfold cpV;split
 ·exact Nat.zero_le _
 ·exact qzx l m
theorem q51 (p q:PaT):(coV p q).1.2.2.2.length<=4096:=by
 unfold coV;split
 ·exact Nat.zero_le _
 ·split
  ·exact Nat.zero_le _
  ·split
   ·exact Nat.zero_le _
   ·split
    ·exact Nat.zero_le _
    ·split
     ·exact Nat.zero_le _
     ·exact q0z _ _
def q5x:Ctr:=⟨[.sl raS,.arr 2 (.sl a2S),w2S],fun x=>qll x.1/\(qlm (gtA x.2.1 0)/\qlm (gtA x.2.1 1))/\u8L x.2.2.1,fun _=>[.bool true],fun _=>[]⟩
theorem q02 {l:List RaT} {s:List (List (List Int))} {w:List Int} {bl:List (Nat × LB)}:QC q5x (l,s,w,()) [.bool true] bl:=QC.flat rfl rfl rfl
theorem q53 (l:List RaT) (s:List (List (List Int))) (w:List Int) (hl:qll l) (h0:qlm (gtA s 0)) (h1:qlm (gtA s 1)) (hw:u8L w) (R:List Item->PS->Prop):sy tt G0 CKk3 Tryd.f3.ntmps Tryd.f3.results.toList (QC q5x (l,s,w,())) R 1000 [.code (qae Tryd.f3)] (entry [.sl raS,.arr 2 (.sl a2S),w2S] (l,s,w,())):=by
 obtain ⟨p,t,hv,hf⟩:=q58 hl;obtain ⟨ha,k1,k2,k3⟩:=hf.all;have hw0:=hw 0;have hw1:=hw 1;have htl:=hf.len;have e0:IntKind.i64.wrap (gtB w 0)=gtB w 0:=IntWalk.i64_in _ (by omega);have e1:IntKind.i64.wrap (gtB w 1)=gtB w 1:=IntWalk.i64_in _ (by omega);refine (vc_l3 l s w _ _).mpr ?_;rw[winA,e0,e1,hv];have hl1:(p::t).length<1099511627776:=by simp only[List.length_cons];omega
 have hl2:((p::t).length:Int)≠0:=by simp only[List.length_cons];omega
 have hl3:0<((p::t).length:Int):=by omega
 have m0:(gtB w 0).tmod ((p::t).length:Int)=gtB w 0 % ((p::t).length:Int):=Int.tmod_eq_emod_of_nonneg hw0.1;have m1:(gtB w 1).tmod ((p::t).length:Int)=gtB w 1 % ((p::t).length:Int):=Int.tmod_eq_emod_of_nonneg hw1.1;have n0:=Int.emod_nonneg (gtB w 0) hl2;have n1:=Int.emod_lt_of_pos (gtB w 0) hl3;have n2:=Int.emod_nonneg (gtB w 1) hl2;have n3:=Int.emod_lt_of_pos (gtB w 1) hl3;have m2:(gtB w 0).tmod 20=gtB w 0 % 20:=Int.tmod_eq_emod_of_nonneg hw0.1;have m3:IntKind.i64.wrap (1+gtB w 0 % 20)=1+gtB w 0 % 20:=IntWalk.i64_in _ (by omega);rw[m0,m1,m2,m3];have lk:∀ l:List (List Int),rawK l<=20:=fun l=>Nat.min_le_right _ _
 have lb:=qjp (gtA s 1) (1+gtB w 0 % 20) (rawK (gtA s 1));have kb:=lk (gtA s 1);have hps:ctSm.pre ((allV (p::t)).1,(allV (p::t)).1,()):=by
  rw[ha];show (chL (syC (symF p.2.2.2) t)).length<1099511627776;omega
 refine ⟨trivial,⟨hl,rfl⟩,by omega,by omega,by omega,hl1,hl1,hps,qaf (fun h=>?_) (fun _=>qaf (fun h=>?_) (fun _=>?_))⟩
 ·rw[qru] at h;cases h
 ·exact absurd rfl (of_decide_eq_true h)
 refine ⟨by decide,by decide,by decide,hl2,n0,n1,by decide,by decide,by decide,hl2,n2,n3,trivial,trivial,by decide,by decide,by decide,⟨h0,(show preN 9 from ⟨by decide,by decide⟩)⟩,by decide,by decide,by decide,by decide,by decide,by decide,by decide,⟨h1,(show preN (1+gtB w 0 % 20) from ⟨by omega,by omega⟩)⟩,?_⟩;generalize rawL (gt (Sh.arr 2 uB).sl s 1) (1+gtB w 0 % 20) (rawK (gt (Sh.arr 2 uB).sl s 1))=Y at *;generalize rawL (gt (Sh.arr 2 uB).sl s 0) 9 (rawK (gt (Sh.arr 2 uB).sl s 0))=X at *;rw[winA,winA];have ly:Y.length<16777216:=by omega
 have lt:(thV X Y).1.length<=Y.length:=by
  unfold thV;split
  ·exact Nat.le_of_eq (qcj X Y)
  ·exact Nat.zero_le _
 generalize thV X Y=T at *;rw[winA];refine ⟨by omega,by omega,ly,by omega,by omega,ly,(show List.length _<1099511627776 from Nat.lt_of_le_of_lt (q51 _ _) (by decide)),qaf (fun _=>qaf (fun _=>?_) (fun h=>absurd rfl (of_decide_eq_false h))) (fun h=>?_)⟩
 ·exact ⟨by omega,by omega,(show T.1.length<1099511627776 by omega),qaf (fun _=>qaf (fun _=>q02) (fun h=>absurd rfl (of_decide_eq_false h))) (fun h=>absurd rfl (of_decide_eq_false h))⟩
 ·rw[qru] at h;cases h
theorem q03:Held Tryd.prog G0 3 q5x:=Held.run cxK3c (fn:=Tryd.f3) rfl rfl ⟨by decide,by decide⟩ fun ⟨l,s,w,_⟩ hp=>q53 l s w hp.1 hp.2.1.1 hp.2.1.2 hp.2.2 _
end Go.Proofs.YticpkibnhakgbaaDoor
