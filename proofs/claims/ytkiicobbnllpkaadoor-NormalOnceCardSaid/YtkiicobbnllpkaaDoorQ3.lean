/-
  A part of the proof: what pieces of the program give; conditions: those of each theorem.
-/
import Derived.Test.YtkiicobbnllpkaaDoorQ2
import Derived.Test.YtkiicobbnllpkaaDoorHD
import Derived.KernelRfl
set_option linter.unusedVariables false
set_option linter.unusedSimpArgs false
namespace Go.Proofs.YtkiicobbnllpkaaDoor
open Go.Px Go.Ax
set_option maxRecDepth 100000
def CSn:CV:=[(25,.inl ctOld),(29,.inl ctLit),(28,.inl ctFm),(15,.inl ctCp),(13,.inl ctFo),(17,.inl ctSm),(18,.inl ctSa)]
theorem cxSn:CxOK Tryd.prog tt G0 CSn:=((((((cx0.cons sa_held (fn:=Tryd.f18) rfl rfl rfl).cons sm_held (fn:=Tryd.f17) rfl rfl rfl).cons fo_held (fn:=Tryd.f13) rfl rfl rfl).cons cp_held (fn:=Tryd.f15) rfl rfl rfl).cons fm_held (fn:=Tryd.f28) rfl rfl rfl).cons lit_held (fn:=Tryd.f29) rfl rfl rfl).cons old_held (fn:=Tryd.f25) rfl rfl rfl
set_option maxRecDepth 100000
theorem vc_san  (Q:QT) (R:RT):sy tt G0 CSn Tryd.f10.ntmps Tryd.f10.results.toList Q R 1000 [.code (bodyOf Tryd.f10)] (entry [] ()) =
  (ctOld.pre ((0:Int),(0:Int),()) ∧
 ctOld.pre ((1:Int),(0:Int),()) ∧
 ctOld.pre ((2:Int),(0:Int),()) ∧
 0+(3:Nat)≤((((List.replicate (3:Nat) syS.dflt).set (0:Nat) (true,(0:Int),(0:Int))).set (1:Nat) (true,(1:Int),(0:Int))).set (2:Nat) (true,(2:Int),(0:Int))).length ∧
 0+(1:Nat)≤([((1:Int),(0:Int),(3:Int),(0:Int),[])]:List opS.D).length ∧
 ctFm.pre (winL syS (0:Nat) (3:Nat) ((((List.replicate (3:Nat) syS.dflt).set (0:Nat) (true,(0:Int),(0:Int))).set (1:Nat) (true,(1:Int),(0:Int))).set (2:Nat) (true,(2:Int),(0:Int))),([((1:Int),(0:Int),(3:Int),(0:Int),[])]:List opS.D),()) ∧
 ctOld.pre ((0:Int),(0:Int),()) ∧
 ctOld.pre ((1:Int),(1:Int),()) ∧
 ctOld.pre ((2:Int),(0:Int),()) ∧
 0+(3:Nat)≤((((List.replicate (3:Nat) uB.dflt).set (0:Nat) (0:Int)).set (1:Nat) (1:Int)).set (2:Nat) (0:Int)).length ∧
 0+(3:Nat)≤((((List.replicate (3:Nat) uB.dflt).set (0:Nat) (0:Int)).set (1:Nat) (1:Int)).set (2:Nat) (0:Int)).length ∧
 0+(3:Nat)≤((((List.replicate (3:Nat) syS.dflt).set (0:Nat) (true,(0:Int),(0:Int))).set (1:Nat) (true,(1:Int),(1:Int))).set (2:Nat) (true,(2:Int),(0:Int))).length ∧
 0+(1:Nat)≤([((2:Int),(0:Int),(3:Int),(0:Int),winL uB (0:Nat) (3:Nat) ((((List.replicate (3:Nat) uB.dflt).set (0:Nat) (0:Int)).set (1:Nat) (1:Int)).set (2:Nat) (0:Int)))]:List opS.D).length ∧
 ctFm.pre (winL syS (0:Nat) (3:Nat) ((((List.replicate (3:Nat) syS.dflt).set (0:Nat) (true,(0:Int),(0:Int))).set (1:Nat) (true,(1:Int),(1:Int))).set (2:Nat) (true,(2:Int),(0:Int))),([((2:Int),(0:Int),(3:Int),(0:Int),winL uB (0:Nat) (3:Nat) ((((List.replicate (3:Nat) uB.dflt).set (0:Nat) (0:Int)).set (1:Nat) (1:Int)).set (2:Nat) (0:Int)))]:List opS.D),()) ∧
 0+(1:Nat)≤([(5:Int)]:List uB.D).length ∧
 ctLit.pre (([(5:Int)]:List uB.D),()) ∧
 0+(1:Nat)≤([(5:Int)]:List uB.D).length ∧
 0+(1:Nat)≤([(5:Int)]:List uB.D).length ∧
 0+(litL (([(5:Int)]:List uB.D))).length≤(litL (([(5:Int)]:List uB.D))).length ∧
 0+(1:Nat)≤([((4:Int),(0:Int),(1:Int),(0:Int),([(5:Int)]:List uB.D))]:List opS.D).length ∧
 ctFm.pre (winL syS 0 (litL (([(5:Int)]:List uB.D))).length (litL (([(5:Int)]:List uB.D))),([((4:Int),(0:Int),(1:Int),(0:Int),winL uB (0:Nat) (1:Nat) ([(5:Int)]:List uB.D))]:List opS.D),()) ∧
 0+(2:Nat)≤(((List.replicate (2:Nat) uB.dflt).set (0:Nat) (5:Int)).set (1:Nat) (5:Int)).length ∧
 ctLit.pre (winL uB (0:Nat) (2:Nat) (((List.replicate (2:Nat) uB.dflt).set (0:Nat) (5:Int)).set (1:Nat) (5:Int)),()) ∧
 0+(litL (winL uB (0:Nat) (2:Nat) (((List.replicate (2:Nat) uB.dflt).set (0:Nat) (5:Int)).set (1:Nat) (5:Int)))).length≤(litL (winL uB (0:Nat) (2:Nat) (((List.replicate (2:Nat) uB.dflt).set (0:Nat) (5:Int)).set (1:Nat) (5:Int)))).length ∧
 0+(1:Nat)≤([((3:Int),(0:Int),(2:Int),(5:Int),[])]:List opS.D).length ∧
 ctFm.pre (winL syS 0 (litL (winL uB (0:Nat) (2:Nat) (((List.replicate (2:Nat) uB.dflt).set (0:Nat) (5:Int)).set (1:Nat) (5:Int)))).length (litL (winL uB (0:Nat) (2:Nat) (((List.replicate (2:Nat) uB.dflt).set (0:Nat) (5:Int)).set (1:Nat) (5:Int)))),([((3:Int),(0:Int),(2:Int),(5:Int),[])]:List opS.D),()) ∧
 0+(6:Nat)≤(((((((List.replicate (6:Nat) uB.dflt).set (0:Nat) (1:Int)).set (1:Nat) (7:Int)).set (2:Nat) (7:Int)).set (3:Nat) (7:Int)).set (4:Nat) (7:Int)).set (5:Nat) (2:Int)).length ∧
 ctLit.pre (winL uB (0:Nat) (6:Nat) (((((((List.replicate (6:Nat) uB.dflt).set (0:Nat) (1:Int)).set (1:Nat) (7:Int)).set (2:Nat) (7:Int)).set (3:Nat) (7:Int)).set (4:Nat) (7:Int)).set (5:Nat) (2:Int)),()) ∧
 0+(6:Nat)≤(((((((List.replicate (6:Nat) uB.dflt).set (0:Nat) (1:Int)).set (1:Nat) (7:Int)).set (2:Nat) (7:Int)).set (3:Nat) (7:Int)).set (4:Nat) (7:Int)).set (5:Nat) (2:Int)).length ∧
 0+(6:Nat)≤(((((((List.replicate (6:Nat) uB.dflt).set (0:Nat) (1:Int)).set (1:Nat) (7:Int)).set (2:Nat) (7:Int)).set (3:Nat) (7:Int)).set (4:Nat) (7:Int)).set (5:Nat) (2:Int)).length ∧
 0+(litL (winL uB (0:Nat) (6:Nat) (((((((List.replicate (6:Nat) uB.dflt).set (0:Nat) (1:Int)).set (1:Nat) (7:Int)).set (2:Nat) (7:Int)).set (3:Nat) (7:Int)).set (4:Nat) (7:Int)).set (5:Nat) (2:Int)))).length≤(litL (winL uB (0:Nat) (6:Nat) (((((((List.replicate (6:Nat) uB.dflt).set (0:Nat) (1:Int)).set (1:Nat) (7:Int)).set (2:Nat) (7:Int)).set (3:Nat) (7:Int)).set (4:Nat) (7:Int)).set (5:Nat) (2:Int)))).length ∧
 0+(1:Nat)≤([((4:Int),(0:Int),(6:Int),(0:Int),winL uB (0:Nat) (6:Nat) (((((((List.replicate (6:Nat) uB.dflt).set (0:Nat) (1:Int)).set (1:Nat) (7:Int)).set (2:Nat) (7:Int)).set (3:Nat) (7:Int)).set (4:Nat) (7:Int)).set (5:Nat) (2:Int)))]:List opS.D).length ∧
 ctFm.pre (winL syS 0 (litL (winL uB (0:Nat) (6:Nat) (((((((List.replicate (6:Nat) uB.dflt).set (0:Nat) (1:Int)).set (1:Nat) (7:Int)).set (2:Nat) (7:Int)).set (3:Nat) (7:Int)).set (4:Nat) (7:Int)).set (5:Nat) (2:Int)))).length (litL (winL uB (0:Nat) (6:Nat) (((((((List.replicate (6:Nat) uB.dflt).set (0:Nat) (1:Int)).set (1:Nat) (7:Int)).set (2:Nat) (7:Int)).set (3:Nat) (7:Int)).set (4:Nat) (7:Int)).set (5:Nat) (2:Int)))),([((4:Int),(0:Int),(6:Int),(0:Int),winL uB (0:Nat) (6:Nat) (((((((List.replicate (6:Nat) uB.dflt).set (0:Nat) (1:Int)).set (1:Nat) (7:Int)).set (2:Nat) (7:Int)).set (3:Nat) (7:Int)).set (4:Nat) (7:Int)).set (5:Nat) (2:Int)))]:List opS.D),()) ∧
 0+(12:Nat)≤(((((((((((((List.replicate (12:Nat) uB.dflt).set (0:Nat) (1:Int)).set (1:Nat) (7:Int)).set (2:Nat) (7:Int)).set (3:Nat) (7:Int)).set (4:Nat) (7:Int)).set (5:Nat) (7:Int)).set (6:Nat) (7:Int)).set (7:Nat) (7:Int)).set (8:Nat) (7:Int)).set (9:Nat) (7:Int)).set (10:Nat) (7:Int)).set (11:Nat) (7:Int)).length ∧
 ctLit.pre (winL uB (0:Nat) (12:Nat) (((((((((((((List.replicate (12:Nat) uB.dflt).set (0:Nat) (1:Int)).set (1:Nat) (7:Int)).set (2:Nat) (7:Int)).set (3:Nat) (7:Int)).set (4:Nat) (7:Int)).set (5:Nat) (7:Int)).set (6:Nat) (7:Int)).set (7:Nat) (7:Int)).set (8:Nat) (7:Int)).set (9:Nat) (7:Int)).set (10:Nat) (7:Int)).set (11:Nat) (7:Int)),()) ∧
 0+(1:Nat)≤([(1:Int)]:List uB.D).length ∧
 0+(1:Nat)≤([(1:Int)]:List uB.D).length ∧
 0+(litL (winL uB (0:Nat) (12:Nat) (((((((((((((List.replicate (12:Nat) uB.dflt).set (0:Nat) (1:Int)).set (1:Nat) (7:Int)).set (2:Nat) (7:Int)).set (3:Nat) (7:Int)).set (4:Nat) (7:Int)).set (5:Nat) (7:Int)).set (6:Nat) (7:Int)).set (7:Nat) (7:Int)).set (8:Nat) (7:Int)).set (9:Nat) (7:Int)).set (10:Nat) (7:Int)).set (11:Nat) (7:Int)))).length≤(litL (winL uB (0:Nat) (12:Nat) (((((((((((((List.replicate (12:Nat) uB.dflt).set (0:Nat) (1:Int)).set (1:Nat) (7:Int)).set (2:Nat) (7:Int)).set (3:Nat) (7:Int)).set (4:Nat) (7:Int)).set (5:Nat) (7:Int)).set (6:Nat) (7:Int)).set (7:Nat) (7:Int)).set (8:Nat) (7:Int)).set (9:Nat) (7:Int)).set (10:Nat) (7:Int)).set (11:Nat) (7:Int)))).length ∧
 0+(2:Nat)≤(((List.replicate (2:Nat) opS.dflt).set (0:Nat) ((4:Int),(0:Int),(1:Int),(0:Int),([(1:Int)]:List uB.D))).set (1:Nat) ((3:Int),(0:Int),(11:Int),(7:Int),[])).length ∧
 ctFm.pre (winL syS 0 (litL (winL uB (0:Nat) (12:Nat) (((((((((((((List.replicate (12:Nat) uB.dflt).set (0:Nat) (1:Int)).set (1:Nat) (7:Int)).set (2:Nat) (7:Int)).set (3:Nat) (7:Int)).set (4:Nat) (7:Int)).set (5:Nat) (7:Int)).set (6:Nat) (7:Int)).set (7:Nat) (7:Int)).set (8:Nat) (7:Int)).set (9:Nat) (7:Int)).set (10:Nat) (7:Int)).set (11:Nat) (7:Int)))).length (litL (winL uB (0:Nat) (12:Nat) (((((((((((((List.replicate (12:Nat) uB.dflt).set (0:Nat) (1:Int)).set (1:Nat) (7:Int)).set (2:Nat) (7:Int)).set (3:Nat) (7:Int)).set (4:Nat) (7:Int)).set (5:Nat) (7:Int)).set (6:Nat) (7:Int)).set (7:Nat) (7:Int)).set (8:Nat) (7:Int)).set (9:Nat) (7:Int)).set (10:Nat) (7:Int)).set (11:Nat) (7:Int)))),winL opS (0:Nat) (2:Nat) (((List.replicate (2:Nat) opS.dflt).set (0:Nat) ((4:Int),(0:Int),(1:Int),(0:Int),([(1:Int)]:List uB.D))).set (1:Nat) ((3:Int),(0:Int),(11:Int),(7:Int),[])),()) ∧
 ctOld.pre ((4:Int),(0:Int),()) ∧
 0+(1:Nat)≤([(true,(4:Int),(0:Int))]:List syS.D).length ∧
 ctCp.pre (([(true,(4:Int),(0:Int))]:List syS.D),(4:Int),()) ∧
 ctCp.pre ([],(-1:Int),()) ∧
 ctFo.pre ((false,(0:Int),(1:Int),[]),()) ∧
 ctFo.pre ((true,(2:Int),(0:Int),[]),()) ∧
 ctSm.pre (((foV (true,(2:Int),(0:Int),[])).1.1,(foV (true,(2:Int),(0:Int),[])).1.2.1,(foV (true,(2:Int),(0:Int),[])).1.2.2.1,(foV (true,(2:Int),(0:Int),[])).1.2.2.2),(true,(2:Int),(0:Int),[]),()) ∧
 ctSa.pre (((foV (true,(2:Int),(0:Int),[])).1.1,(foV (true,(2:Int),(0:Int),[])).1.2.1,(foV (true,(2:Int),(0:Int),[])).1.2.2.1,(foV (true,(2:Int),(0:Int),[])).1.2.2.2),((foV (true,(2:Int),(0:Int),[])).1.1,(foV (true,(2:Int),(0:Int),[])).1.2.1,(foV (true,(2:Int),(0:Int),[])).1.2.2.1,(foV (true,(2:Int),(0:Int),[])).1.2.2.2),()) ∧
 ctSa.pre (((foV (true,(2:Int),(0:Int),[])).1.1,(foV (true,(2:Int),(0:Int),[])).1.2.1,(foV (true,(2:Int),(0:Int),[])).1.2.2.1,(foV (true,(2:Int),(0:Int),[])).1.2.2.2),(false,(2:Int),(0:Int),[]),()) ∧
 ctSa.pre ((false,(0:Int),(1:Int),[]),(false,(0:Int),(1:Int),[]),()) ∧
 Q [.bool (bif true then !saV (false,(0:Int),(1:Int),[]) (false,(0:Int),(1:Int),[]) else false)] [(4,.var [.bool (cpV (([(true,(4:Int),(0:Int))]:List syS.D)) (4:Int)).1.1,.int .i64 (cpV (([(true,(4:Int),(0:Int))]:List syS.D)) (4:Int)).1.2.1,.int .i64 (cpV (([(true,(4:Int),(0:Int))]:List syS.D)) (4:Int)).1.2.2.1,.sl opS (cpV (([(true,(4:Int),(0:Int))]:List syS.D)) (4:Int)).1.2.2.2]),(6,.var [.bool (cpV [] (-1:Int)).1.1,.int .i64 (cpV [] (-1:Int)).1.2.1,.int .i64 (cpV [] (-1:Int)).1.2.2.1,.sl opS (cpV [] (-1:Int)).1.2.2.2]),(8,.var [.bool (foV (false,(0:Int),(1:Int),[])).1.1,.int .i64 (foV (false,(0:Int),(1:Int),[])).1.2.1,.int .i64 (foV (false,(0:Int),(1:Int),[])).1.2.2.1,.sl opS (foV (false,(0:Int),(1:Int),[])).1.2.2.2]),(10,.var [.bool (foV (true,(2:Int),(0:Int),[])).1.1,.int .i64 (foV (true,(2:Int),(0:Int),[])).1.2.1,.int .i64 (foV (true,(2:Int),(0:Int),[])).1.2.2.1,.sl opS (foV (true,(2:Int),(0:Int),[])).1.2.2.2]),(16,.row 52 syS ((((List.replicate (3:Nat) syS.dflt).set (0:Nat) (true,(0:Int),(0:Int))).set (1:Nat) (true,(1:Int),(0:Int))).set (2:Nat) (true,(2:Int),(0:Int)))),(18,.row 55 opS ([((1:Int),(0:Int),(3:Int),(0:Int),[])]:List opS.D)),(24,.row 52 syS ((((List.replicate (3:Nat) syS.dflt).set (0:Nat) (true,(0:Int),(0:Int))).set (1:Nat) (true,(1:Int),(1:Int))).set (2:Nat) (true,(2:Int),(0:Int)))),(27,.row 55 opS ([((2:Int),(0:Int),(3:Int),(0:Int),winL uB (0:Nat) (3:Nat) ((((List.replicate (3:Nat) uB.dflt).set (0:Nat) (0:Int)).set (1:Nat) (1:Int)).set (2:Nat) (0:Int)))]:List opS.D)),(30,.row 5 uB ([(5:Int)]:List uB.D)),(34,.row 55 opS ([((4:Int),(0:Int),(1:Int),(0:Int),([(5:Int)]:List uB.D))]:List opS.D)),(37,.row 5 uB (((List.replicate (2:Nat) uB.dflt).set (0:Nat) (5:Int)).set (1:Nat) (5:Int))),(40,.row 55 opS ([((3:Int),(0:Int),(2:Int),(5:Int),[])]:List opS.D)),(43,.row 5 uB (((((((List.replicate (6:Nat) uB.dflt).set (0:Nat) (1:Int)).set (1:Nat) (7:Int)).set (2:Nat) (7:Int)).set (3:Nat) (7:Int)).set (4:Nat) (7:Int)).set (5:Nat) (2:Int))),(47,.row 55 opS ([((4:Int),(0:Int),(6:Int),(0:Int),winL uB (0:Nat) (6:Nat) (((((((List.replicate (6:Nat) uB.dflt).set (0:Nat) (1:Int)).set (1:Nat) (7:Int)).set (2:Nat) (7:Int)).set (3:Nat) (7:Int)).set (4:Nat) (7:Int)).set (5:Nat) (2:Int)))]:List opS.D)),(50,.row 5 uB (((((((((((((List.replicate (12:Nat) uB.dflt).set (0:Nat) (1:Int)).set (1:Nat) (7:Int)).set (2:Nat) (7:Int)).set (3:Nat) (7:Int)).set (4:Nat) (7:Int)).set (5:Nat) (7:Int)).set (6:Nat) (7:Int)).set (7:Nat) (7:Int)).set (8:Nat) (7:Int)).set (9:Nat) (7:Int)).set (10:Nat) (7:Int)).set (11:Nat) (7:Int))),(55,.row 55 opS (((List.replicate (2:Nat) opS.dflt).set (0:Nat) ((4:Int),(0:Int),(1:Int),(0:Int),([(1:Int)]:List uB.D))).set (1:Nat) ((3:Int),(0:Int),(11:Int),(7:Int),[]))),(1126976,.row 52 syS (litL (([(5:Int)]:List uB.D)))),(1155648,.row 52 syS (litL (winL uB (0:Nat) (2:Nat) (((List.replicate (2:Nat) uB.dflt).set (0:Nat) (5:Int)).set (1:Nat) (5:Int))))),(1180224,.row 52 syS (litL (winL uB (0:Nat) (6:Nat) (((((((List.replicate (6:Nat) uB.dflt).set (0:Nat) (1:Int)).set (1:Nat) (7:Int)).set (2:Nat) (7:Int)).set (3:Nat) (7:Int)).set (4:Nat) (7:Int)).set (5:Nat) (2:Int))))),(1208896,.row 52 syS (litL (winL uB (0:Nat) (12:Nat) (((((((((((((List.replicate (12:Nat) uB.dflt).set (0:Nat) (1:Int)).set (1:Nat) (7:Int)).set (2:Nat) (7:Int)).set (3:Nat) (7:Int)).set (4:Nat) (7:Int)).set (5:Nat) (7:Int)).set (6:Nat) (7:Int)).set (7:Nat) (7:Int)).set (8:Nat) (7:Int)).set (9:Nat) (7:Int)).set (10:Nat) (7:Int)).set (11:Nat) (7:Int)))))]):=by kernel_rfl
end Go.Proofs.YtkiicobbnllpkaaDoor
namespace Go.Proofs.YtkiicobbnllpkaaDoor
open Go.Px Go.Ax
set_option maxRecDepth 100000
attribute [local irreducible] Go.Px.sy Go.Px.syE
def ctSan:Ctr:=⟨[],fun _=>True,fun _=>[.bool true],fun _=>[]⟩
theorem san_run (R:List Item→PS→Prop):sy tt G0 CSn Tryd.f10.ntmps Tryd.f10.results.toList (QC ctSan ()) R 1000 [.code (bodyOf Tryd.f10)] (entry [] ()):=by
 refine (vc_san _ _).mpr ?_
 repeat' first
  | exact trivial
  | (show List.length _<1000000;decide +kernel)
  | (show List.length _<16777216;decide +kernel)
  | (show List.length _<1099511627776;decide +kernel)
  | decide +kernel
  | refine And.intro ?_ ?_
  | (refine QC.flat ?_ rfl rfl)
  | (refine congrArg (fun b=>[SV.bool b]) ?_;decide +kernel)
theorem san_held:Held Tryd.prog G0 10 ctSan:=Held.run cxSn (fn:=Tryd.f10) rfl rfl ⟨by decide,by decide⟩ fun x _=>san_run _
end Go.Proofs.YtkiicobbnllpkaaDoor
namespace Go.Proofs.YtkiicobbnllpkaaDoor
open Go.Px Go.Ax
set_option maxRecDepth 100000
set_option maxRecDepth 100000
end Go.Proofs.YtkiicobbnllpkaaDoor
namespace Go.Proofs.YtkiicobbnllpkaaDoor
open Go.Px Go.Ax
set_option maxRecDepth 100000
attribute [local irreducible] Go.Px.sy Go.Px.syE
theorem frzG {f:Nat} {fn:Func} {Q:List SV→List (Nat × LB)→Prop} {it:List Item} {S:PS} {i:Nat} {e:Sh} {et:TypeId} {xs:List e.D} (hl:lk S.blk i=some (.row et e xs)) (hc:cdP i xs.length S=[0+xs.length≤xs.length]) (h:GD f fn Q it (S.frzR i e xs)):GD f fn Q it S:=
 Good.frz hl (fun c hcc=>by rw[hc] at hcc;rw[List.mem_singleton] at hcc;subst hcc;omega) h
abbrev gI3 (w:List Int) (i:Nat):Int:=gt (Sh.int .i32) w i
def preW (w:List Int):Prop:=∀ j,-2147483648≤gI3 w j∧gI3 w j<2147483648
theorem chk60 {m N:Int}:∀ {l:List OpT} {left i:Int},(chkF m N l left i).2=0∨(chkF m N l left i).2=60
 | [],left,i=>by
  simp only[chkF]
  split
  ·exact .inr rfl
  ·exact .inl rfl
 | x::l,left,i=>by
  simp only[chkF]
  split
  ·exact .inr rfl
  ·split
   ·exact .inr rfl
   ·exact chk60
theorem chkV60 (p:PaT):(chkV p).2=0∨(chkV p).2=60:=by
 unfold chkV
 split
 ·exact chk60
 ·exact .inr rfl
section
variable (z:Int) (l4:List (List Int)) (w:List Int) (h6:preM6 z l4) (hw:preW w)
include h6 hw
end
end Go.Proofs.YtkiicobbnllpkaaDoor
namespace Go.Proofs.YtkiicobbnllpkaaDoor
open Go.Px Go.Ax
set_option maxRecDepth 100000
set_option maxRecDepth 100000
end Go.Proofs.YtkiicobbnllpkaaDoor
namespace Go.Proofs.YtkiicobbnllpkaaDoor
open Go.Px Go.Ax
set_option maxRecDepth 100000
attribute [local irreducible] Go.Px.sy Go.Px.syE
theorem poV_ok {s:List SyT} {m:Int} (hr:∀ x∈s,sOK m x=true) (h0:0≤m) (h1:m≤65536) (hl:s.length≤4096):poV s m=((false,m,(s.length:Int),chL s),0)∧symF (chL s)=s∧(∀ x∈chL s,isRB x m=true)∧costS (chL s)=cst s∧(chL s).length≤4096 ∧
  (chkV (false,m,(s.length:Int),chL s)).2=0:=by
 obtain ⟨c1,c2,c3,c4⟩:=ch_ok (m:=m) (by omega) s.length s (Nat.le_refl _) (by omega) hr
 have hb:=bst_bo s (by omega)
 unfold boL at hb
 have hlen:(chL s).length≤4096:=by
  show (chF s.length s).length≤4096
  have:oct s=(bst s).2.2.2:=rfl
  omega
 have hs:=symF_len c2
 rw[c1] at hs
 refine ⟨?_,c1,c2,c3,hlen,?_⟩
 ·unfold poV
  rw[if_neg (by omega)]
 ·have:=chkV_of (li:=false) (o:=(s.length:Int)) h0 h1 (by omega) hlen c2 hs.symm
  rw[this]
theorem cost_eq {s:List SyT} {m:Int} (hr:∀ x∈s,sOK m x=true) (h0:0≤m) (h1:m≤65536) (hl:s.length≤4096):costF 0 (chL s)=cst s:=by
 obtain ⟨_,_,c2,c3,c4,_⟩:=poV_ok hr h0 h1 hl
 rw[costF_of c2 (Int.le_refl 0) (by omega),Int.zero_add,c3]
end Go.Proofs.YtkiicobbnllpkaaDoor
namespace Go.Proofs.YtkiicobbnllpkaaDoor
open Go.Px Go.Ax
end Go.Proofs.YtkiicobbnllpkaaDoor
namespace Go.Proofs.YtkiicobbnllpkaaDoor
open Go.Px Go.Ax
set_option maxRecDepth 100000
set_option maxRecDepth 100000
end Go.Proofs.YtkiicobbnllpkaaDoor
namespace Go.Proofs.YtkiicobbnllpkaaDoor
open Go.Px Go.Ax
set_option maxRecDepth 100000
attribute [local irreducible] Go.Px.sy Go.Px.syE
end Go.Proofs.YtkiicobbnllpkaaDoor
namespace Go.Proofs.YtkiicobbnllpkaaDoor
open Go.Px Go.Ax
set_option maxRecDepth 100000
def opK (k:Int) (l:List SyT):OpT:=(k,if k=1∨k=2 then (gtY l 0).2.1 else 0,(l.length:Int),if k=3 then (gtY l 0).2.2 else 0,if k=2∨k=4 then l.map fun s=>s.2.2 else [])
def ctO8:Ctr:=⟨[iI,.sl syS],fun x=>preMk x.1 x.2.1,fun x=>mdV (opK x.1 x.2.1),fun _=>[]⟩
set_option maxRecDepth 100000
theorem vc_oE1 (l:List SyT) (Q:QT) (R:RT):sy tt G0 [] Tryd.f46.ntmps Tryd.f46.results.toList Q (fun it S=>R it (keepS [0,1,4,5,6] [4,5,51] S)) 1000 [.code (bodyOf Tryd.f46)] (entry [iI,.sl syS] ((1:Int),l,())) =
  (true=true ∧
 (0:Int)≤(0:Int) ∧
 (0:Int)<(l.length:Int) ∧
 R (hd Tryd.f46 0) { env:=[(0,.int .i64 1),(1,.sl syS l),(4,.ptr 4 0),(5,.ptr 5 0),(6,.int .i64 0)],blk:=[(4,.var [.int .i64 0,.int .i64 0,.int .i64 0,.int .u8 0,.nils]),(5,.var [.int .i64 1,.int .i64 (gtY l (0)).2.1,.int .i64 (l.length:Int),.int .u8 0,.nils])] }):=by kernel_rfl
theorem vc_oE2 (l:List SyT) (Q:QT) (R:RT):sy tt G0 [] Tryd.f46.ntmps Tryd.f46.results.toList Q (fun it S=>R it (keepS [0,1,4,5,6] [4,5,51] S)) 1000 [.code (bodyOf Tryd.f46)] (entry [iI,.sl syS] ((2:Int),l,())) =
  ((0:Int)≤(0:Int) ∧
 (0:Int)<(l.length:Int) ∧
 R (hd Tryd.f46 0) { env:=[(0,.int .i64 2),(1,.sl syS l),(4,.ptr 4 0),(5,.ptr 5 0),(6,.int .i64 0)],blk:=[(4,.var [.int .i64 0,.int .i64 0,.int .i64 0,.int .u8 0,.nils]),(5,.var [.int .i64 2,.int .i64 (gtY l (0)).2.1,.int .i64 (l.length:Int),.int .u8 0,.nils])] }):=by kernel_rfl
theorem vc_oE3 (l:List SyT) (Q:QT) (R:RT):sy tt G0 [] Tryd.f46.ntmps Tryd.f46.results.toList Q (fun it S=>R it (keepS [0,1,4,5,6] [4,5,51] S)) 1000 [.code (bodyOf Tryd.f46)] (entry [iI,.sl syS] ((3:Int),l,())) =
  ((0:Int)≤(0:Int) ∧
 (0:Int)<(l.length:Int) ∧
 R (hd Tryd.f46 0) { env:=[(0,.int .i64 3),(1,.sl syS l),(4,.ptr 4 0),(5,.ptr 5 0),(6,.int .i64 0)],blk:=[(4,.var [.int .i64 0,.int .i64 0,.int .i64 0,.int .u8 0,.nils]),(5,.var [.int .i64 3,.int .i64 0,.int .i64 (l.length:Int),.int .u8 (gtY l (0)).2.2,.nils])] }):=by kernel_rfl
theorem vc_oE4 (l:List SyT) (Q:QT) (R:RT):sy tt G0 [] Tryd.f46.ntmps Tryd.f46.results.toList Q (fun it S=>R it (keepS [0,1,4,5,6] [4,5,51] S)) 1000 [.code (bodyOf Tryd.f46)] (entry [iI,.sl syS] ((4:Int),l,())) =
  (R (hd Tryd.f46 0) { env:=[(0,.int .i64 4),(1,.sl syS l),(4,.ptr 4 0),(5,.ptr 5 0),(6,.int .i64 0)],blk:=[(4,.var [.int .i64 0,.int .i64 0,.int .i64 0,.int .u8 0,.nils]),(5,.var [.int .i64 4,.int .i64 0,.int .i64 (l.length:Int),.int .u8 0,.nils])] }):=by kernel_rfl
def mem_oA1_m0 (a b:Int) (l:List SyT):List (Nat × LB):=[(4,.var [.int .i64 1,.int .i64 a,.int .i64 (l.length:Int),.int .u8 b,.nils]),(5,.var [.int .i64 1,.int .i64 a,.int .i64 (l.length:Int),.int .u8 b,.nils])]
theorem vc_oA1 (a b:Int) (l:List SyT) (i:Nat) (Q:QT) (R:RT):sy tt G0 [] Tryd.f46.ntmps Tryd.f46.results.toList Q (fun it S=>R it (keepS [0,1,4,5,6] [4,5,51] S)) 1000 (hd Tryd.f46 0) ⟨[(0,.int .i64 1),(1,.sl syS l),(4,.ptr 4 0),(5,.ptr 5 0),(6,.int .i64 (i:Nat))],[(4,.var [.int .i64 0,.int .i64 0,.int .i64 0,.int .u8 0,.nils]),(5,.var [.int .i64 1,.int .i64 a,.int .i64 l.length,.int .u8 b,.nils])]⟩ =
  (bc (decide ((i:Int)<(l.length:Int))) (Q [.agg [.int .i64 1,.int .i64 a,.int .i64 (l.length:Int),.int .u8 b,.nils]] (mem_oA1_m0 a b l)) (false=false ∧
 Q [.agg [.int .i64 1,.int .i64 a,.int .i64 (l.length:Int),.int .u8 b,.nils]] (mem_oA1_m0 a b l))):=by kernel_rfl
theorem vc_oA2 (a b:Int) (l:List SyT) (i:Nat) (Q:QT) (R:RT):sy tt G0 [] Tryd.f46.ntmps Tryd.f46.results.toList Q (fun it S=>R it (keepS [0,1,4,5,6] [4,5,51] S)) 1000 (hd Tryd.f46 0) ⟨[(0,.int .i64 2),(1,.sl syS l),(4,.ptr 4 0),(5,.ptr 5 0),(6,.int .i64 (i:Nat))],[(4,.var [.int .i64 0,.int .i64 0,.int .i64 0,.int .u8 0,.nils]),(5,.var [.int .i64 2,.int .i64 a,.int .i64 l.length,.int .u8 b,.nils])]⟩ =
  (bc (decide ((i:Int)<(l.length:Int))) (true=true ∧
 (0:Int)≤(i:Int) ∧
 (i:Int)<(l.length:Int) ∧
 0+(1:Nat)≤((List.replicate (1:Nat) uB.dflt).set (0:Nat) (gtY l (i:Int).toNat).2.2).length ∧
 (winL uB (0:Nat) (1:Nat) ((List.replicate (1:Nat) uB.dflt).set (0:Nat) (gtY l (i:Int).toNat).2.2)).length<(2:Nat) ^ (30:Nat) ∧
 (1:Nat)≤(2:Nat) ^ (10:Nat) ∧
 R (hd Tryd.f46 0) { env:=[(0,.int .i64 2),(1,.sl syS l),(4,.ptr 4 0),(5,.ptr 5 0),(6,.int .i64 (IntKind.i64.wrap ((i:Int)+(1:Int))))],blk:=[(4,.var [.int .i64 0,.int .i64 0,.int .i64 0,.int .u8 0,.nils]),(5,.var [.int .i64 2,.int .i64 a,.int .i64 (l.length:Int),.int .u8 b,.win true uB 51 0 (1:Nat)]),(51,.row 5 uB (winL uB (0:Nat) (1:Nat) ((List.replicate (1:Nat) uB.dflt).set (0:Nat) (gtY l (i:Int).toNat).2.2)))] }) (false=false ∧
 Q [.agg [.int .i64 2,.int .i64 a,.int .i64 (l.length:Int),.int .u8 b,.nils]] [(4,.var [.int .i64 2,.int .i64 a,.int .i64 (l.length:Int),.int .u8 b,.nils]),(5,.var [.int .i64 2,.int .i64 a,.int .i64 (l.length:Int),.int .u8 b,.nils])])):=by kernel_rfl
def mem_oA3_m0 (a b:Int) (l:List SyT):List (Nat × LB):=[(4,.var [.int .i64 3,.int .i64 a,.int .i64 (l.length:Int),.int .u8 b,.nils]),(5,.var [.int .i64 3,.int .i64 a,.int .i64 (l.length:Int),.int .u8 b,.nils])]
theorem vc_oA3 (a b:Int) (l:List SyT) (i:Nat) (Q:QT) (R:RT):sy tt G0 [] Tryd.f46.ntmps Tryd.f46.results.toList Q (fun it S=>R it (keepS [0,1,4,5,6] [4,5,51] S)) 1000 (hd Tryd.f46 0) ⟨[(0,.int .i64 3),(1,.sl syS l),(4,.ptr 4 0),(5,.ptr 5 0),(6,.int .i64 (i:Nat))],[(4,.var [.int .i64 0,.int .i64 0,.int .i64 0,.int .u8 0,.nils]),(5,.var [.int .i64 3,.int .i64 a,.int .i64 l.length,.int .u8 b,.nils])]⟩ =
  (bc (decide ((i:Int)<(l.length:Int))) (Q [.agg [.int .i64 3,.int .i64 a,.int .i64 (l.length:Int),.int .u8 b,.nils]] (mem_oA3_m0 a b l)) (false=false ∧
 Q [.agg [.int .i64 3,.int .i64 a,.int .i64 (l.length:Int),.int .u8 b,.nils]] (mem_oA3_m0 a b l))):=by kernel_rfl
theorem vc_oA4 (a b:Int) (l:List SyT) (i:Nat) (Q:QT) (R:RT):sy tt G0 [] Tryd.f46.ntmps Tryd.f46.results.toList Q (fun it S=>R it (keepS [0,1,4,5,6] [4,5,51] S)) 1000 (hd Tryd.f46 0) ⟨[(0,.int .i64 4),(1,.sl syS l),(4,.ptr 4 0),(5,.ptr 5 0),(6,.int .i64 (i:Nat))],[(4,.var [.int .i64 0,.int .i64 0,.int .i64 0,.int .u8 0,.nils]),(5,.var [.int .i64 4,.int .i64 a,.int .i64 l.length,.int .u8 b,.nils])]⟩ =
  (bc (decide ((i:Int)<(l.length:Int))) ((0:Int)≤(i:Int) ∧
 (i:Int)<(l.length:Int) ∧
 0+(1:Nat)≤((List.replicate (1:Nat) uB.dflt).set (0:Nat) (gtY l (i:Int).toNat).2.2).length ∧
 (winL uB (0:Nat) (1:Nat) ((List.replicate (1:Nat) uB.dflt).set (0:Nat) (gtY l (i:Int).toNat).2.2)).length<(2:Nat) ^ (30:Nat) ∧
 (1:Nat)≤(2:Nat) ^ (10:Nat) ∧
 R (hd Tryd.f46 0) { env:=[(0,.int .i64 4),(1,.sl syS l),(4,.ptr 4 0),(5,.ptr 5 0),(6,.int .i64 (IntKind.i64.wrap ((i:Int)+(1:Int))))],blk:=[(4,.var [.int .i64 0,.int .i64 0,.int .i64 0,.int .u8 0,.nils]),(5,.var [.int .i64 4,.int .i64 a,.int .i64 (l.length:Int),.int .u8 b,.win true uB 51 0 (1:Nat)]),(51,.row 5 uB (winL uB (0:Nat) (1:Nat) ((List.replicate (1:Nat) uB.dflt).set (0:Nat) (gtY l (i:Int).toNat).2.2)))] }) (false=false ∧
 Q [.agg [.int .i64 4,.int .i64 a,.int .i64 (l.length:Int),.int .u8 b,.nils]] [(4,.var [.int .i64 4,.int .i64 a,.int .i64 (l.length:Int),.int .u8 b,.nils]),(5,.var [.int .i64 4,.int .i64 a,.int .i64 (l.length:Int),.int .u8 b,.nils])])):=by kernel_rfl
theorem vc_oB2 (a b:Int) (d:List Int) (l:List SyT) (i:Nat) (Q:QT) (R:RT):sy tt G0 [] Tryd.f46.ntmps Tryd.f46.results.toList Q (fun it S=>R it (keepS [0,1,4,5,6] [4,5,51] S)) 1000 (hd Tryd.f46 0) ⟨[(0,.int .i64 2),(1,.sl syS l),(4,.ptr 4 0),(5,.ptr 5 0),(6,.int .i64 (i:Nat))],[(4,.var [.int .i64 0,.int .i64 0,.int .i64 0,.int .u8 0,.nils]),(5,.var [.int .i64 2,.int .i64 a,.int .i64 l.length,.int .u8 b,.win true uB 51 0 d.length]),(51,.row 5 uB d)]⟩ =
  (bc (decide ((i:Int)<(l.length:Int))) (true=true ∧
 (0:Int)≤(i:Int) ∧
 (i:Int)<(l.length:Int) ∧
 0+(1:Nat)≤((List.replicate (1:Nat) uB.dflt).set (0:Nat) (gtY l (i:Int).toNat).2.2).length ∧
 d.length=d.length ∧
 (0:Nat)=(0:Nat) ∧
 d.length+(winL uB (0:Nat) (1:Nat) ((List.replicate (1:Nat) uB.dflt).set (0:Nat) (gtY l (i:Int).toNat).2.2)).length<(2:Nat) ^ (30:Nat) ∧
 (1:Nat)≤(2:Nat) ^ (10:Nat) ∧
 R (hd Tryd.f46 0) { env:=[(0,.int .i64 2),(1,.sl syS l),(4,.ptr 4 0),(5,.ptr 5 0),(6,.int .i64 (IntKind.i64.wrap ((i:Int)+(1:Int))))],blk:=[(4,.var [.int .i64 0,.int .i64 0,.int .i64 0,.int .u8 0,.nils]),(5,.var [.int .i64 2,.int .i64 a,.int .i64 (l.length:Int),.int .u8 b,.win true uB 51 0 (d.length+(winL uB (0:Nat) (1:Nat) ((List.replicate (1:Nat) uB.dflt).set (0:Nat) (gtY l (i:Int).toNat).2.2)).length)]),(51,.row 5 uB (d++winL uB (0:Nat) (1:Nat) ((List.replicate (1:Nat) uB.dflt).set (0:Nat) (gtY l (i:Int).toNat).2.2)))] }) (false=false ∧
 Q [.agg [.int .i64 2,.int .i64 a,.int .i64 (l.length:Int),.int .u8 b,.win true uB 51 0 d.length]] [(4,.var [.int .i64 2,.int .i64 a,.int .i64 (l.length:Int),.int .u8 b,.win true uB 51 0 d.length]),(5,.var [.int .i64 2,.int .i64 a,.int .i64 (l.length:Int),.int .u8 b,.win true uB 51 0 d.length]),(51,.row 5 uB d)])):=by kernel_rfl
theorem vc_oF2 (a b:Int) (d:List Int) (l:List SyT) (i:Nat) (Q:QT) (R:RT):sy tt G0 [] Tryd.f46.ntmps Tryd.f46.results.toList Q (fun it S=>R it (keepS [0,1,4,5,6] [4,5,51] S)) 1000 (hd Tryd.f46 0) ⟨[(0,.int .i64 2),(1,.sl syS l),(4,.ptr 4 0),(5,.ptr 5 0),(6,.int .i64 (i:Nat))],[(4,.var [.int .i64 0,.int .i64 0,.int .i64 0,.int .u8 0,.nils]),(5,.var [.int .i64 2,.int .i64 a,.int .i64 l.length,.int .u8 b,.sl uB d])]⟩ =
  (bc (decide ((i:Int)<(l.length:Int))) (true=true ∧
 (0:Int)≤(i:Int) ∧
 (i:Int)<(l.length:Int) ∧
 False) (false=false ∧
 Q [.agg [.int .i64 2,.int .i64 a,.int .i64 (l.length:Int),.int .u8 b,.sl uB d]] [(4,.var [.int .i64 2,.int .i64 a,.int .i64 (l.length:Int),.int .u8 b,.sl uB d]),(5,.var [.int .i64 2,.int .i64 a,.int .i64 (l.length:Int),.int .u8 b,.sl uB d])])):=by kernel_rfl
theorem vc_oB4 (a b:Int) (d:List Int) (l:List SyT) (i:Nat) (Q:QT) (R:RT):sy tt G0 [] Tryd.f46.ntmps Tryd.f46.results.toList Q (fun it S=>R it (keepS [0,1,4,5,6] [4,5,51] S)) 1000 (hd Tryd.f46 0) ⟨[(0,.int .i64 4),(1,.sl syS l),(4,.ptr 4 0),(5,.ptr 5 0),(6,.int .i64 (i:Nat))],[(4,.var [.int .i64 0,.int .i64 0,.int .i64 0,.int .u8 0,.nils]),(5,.var [.int .i64 4,.int .i64 a,.int .i64 l.length,.int .u8 b,.win true uB 51 0 d.length]),(51,.row 5 uB d)]⟩ =
  (bc (decide ((i:Int)<(l.length:Int))) ((0:Int)≤(i:Int) ∧
 (i:Int)<(l.length:Int) ∧
 0+(1:Nat)≤((List.replicate (1:Nat) uB.dflt).set (0:Nat) (gtY l (i:Int).toNat).2.2).length ∧
 d.length=d.length ∧
 (0:Nat)=(0:Nat) ∧
 d.length+(winL uB (0:Nat) (1:Nat) ((List.replicate (1:Nat) uB.dflt).set (0:Nat) (gtY l (i:Int).toNat).2.2)).length<(2:Nat) ^ (30:Nat) ∧
 (1:Nat)≤(2:Nat) ^ (10:Nat) ∧
 R (hd Tryd.f46 0) { env:=[(0,.int .i64 4),(1,.sl syS l),(4,.ptr 4 0),(5,.ptr 5 0),(6,.int .i64 (IntKind.i64.wrap ((i:Int)+(1:Int))))],blk:=[(4,.var [.int .i64 0,.int .i64 0,.int .i64 0,.int .u8 0,.nils]),(5,.var [.int .i64 4,.int .i64 a,.int .i64 (l.length:Int),.int .u8 b,.win true uB 51 0 (d.length+(winL uB (0:Nat) (1:Nat) ((List.replicate (1:Nat) uB.dflt).set (0:Nat) (gtY l (i:Int).toNat).2.2)).length)]),(51,.row 5 uB (d++winL uB (0:Nat) (1:Nat) ((List.replicate (1:Nat) uB.dflt).set (0:Nat) (gtY l (i:Int).toNat).2.2)))] }) (false=false ∧
 Q [.agg [.int .i64 4,.int .i64 a,.int .i64 (l.length:Int),.int .u8 b,.win true uB 51 0 d.length]] [(4,.var [.int .i64 4,.int .i64 a,.int .i64 (l.length:Int),.int .u8 b,.win true uB 51 0 d.length]),(5,.var [.int .i64 4,.int .i64 a,.int .i64 (l.length:Int),.int .u8 b,.win true uB 51 0 d.length]),(51,.row 5 uB d)])):=by kernel_rfl
theorem vc_oF4 (a b:Int) (d:List Int) (l:List SyT) (i:Nat) (Q:QT) (R:RT):sy tt G0 [] Tryd.f46.ntmps Tryd.f46.results.toList Q (fun it S=>R it (keepS [0,1,4,5,6] [4,5,51] S)) 1000 (hd Tryd.f46 0) ⟨[(0,.int .i64 4),(1,.sl syS l),(4,.ptr 4 0),(5,.ptr 5 0),(6,.int .i64 (i:Nat))],[(4,.var [.int .i64 0,.int .i64 0,.int .i64 0,.int .u8 0,.nils]),(5,.var [.int .i64 4,.int .i64 a,.int .i64 l.length,.int .u8 b,.sl uB d])]⟩ =
  (bc (decide ((i:Int)<(l.length:Int))) ((0:Int)≤(i:Int) ∧
 (i:Int)<(l.length:Int) ∧
 False) (false=false ∧
 Q [.agg [.int .i64 4,.int .i64 a,.int .i64 (l.length:Int),.int .u8 b,.sl uB d]] [(4,.var [.int .i64 4,.int .i64 a,.int .i64 (l.length:Int),.int .u8 b,.sl uB d]),(5,.var [.int .i64 4,.int .i64 a,.int .i64 (l.length:Int),.int .u8 b,.sl uB d])])):=by kernel_rfl
end Go.Proofs.YtkiicobbnllpkaaDoor
namespace Go.Proofs.YtkiicobbnllpkaaDoor
open Go.Px Go.Ax
set_option maxRecDepth 100000
attribute [local irreducible] Go.Px.sy Go.Px.syE
abbrev bL (l:List SyT):List Int:=l.map fun s=>s.2.2
theorem bL_len (l:List SyT):(bL l).length=l.length:=by simp
theorem bL_at {l:List SyT} {i:Nat} (h:i<l.length):(bL l).take (i+1)=(bL l).take i++[(gtY l i).2.2]:=by
 rw[List.take_succ_eq_append_getElem (show i<(bL l).length by rw[bL_len];omega),gtY_at h]
 simp
abbrev O8Q (k a b:Int) (l:List SyT) (d:List Int):List SV→List (Nat × LB)→Prop:=fun rs _=>rs=[.agg [.int .i64 k,.int .i64 a,.int .i64 l.length,.int .u8 b,.sl uB d]]
section
variable (a b:Int) (l:List SyT) (hl:l.length<16777216)
include hl
theorem o8B2:∀ (c i:Nat),l.length-i=c→1≤i→i≤l.length →
  GD 46 Tryd.f46 (O8Q 2 a b l (bL l)) (hd Tryd.f46 0) ⟨[(0,.int .i64 2),(1,.sl syS l),(4,.ptr 4 0),(5,.ptr 5 0),(6,.int .i64 (i:Nat))],[(4,.var [.int .i64 0,.int .i64 0,.int .i64 0,.int .u8 0,.nils]),(5,.var [.int .i64 2,.int .i64 a,.int .i64 l.length,.int .u8 b,.win true uB 51 0 ((bL l).take i).length]),(51,.row 5 uB ((bL l).take i))]⟩:=by
 intro c
 induction c with
 | zero=>
  intro i hc h1 hi
  have hi:i=l.length:=by omega
  subst hi
  have e:(bL l).take l.length=bL l:=List.take_of_length_le (by rw[bL_len];omega)
  rw[e]
  refine Good.frz (i:=51) (e:=uB) (et:=5) (xs:=bL l) rfl (fun c hc=>?_) ?_
  ·have hc:c∈[0+(bL l).length≤(bL l).length]:=hc
   rw[List.mem_singleton] at hc;subst hc;omega
  ·have e:GD 46 Tryd.f46 (O8Q 2 a b l (bL l)) (hd Tryd.f46 0) ⟨[(0,.int .i64 2),(1,.sl syS l),(4,.ptr 4 0),(5,.ptr 5 0),(6,.int .i64 (l.length:Nat))],[(4,.var [.int .i64 0,.int .i64 0,.int .i64 0,.int .u8 0,.nils]),(5,.var [.int .i64 2,.int .i64 a,.int .i64 l.length,.int .u8 b,.sl uB (winL uB 0 (bL l).length (bL l))])]⟩:=by
    refine sy_goK cx0 (vc_oF2 a b (winL uB 0 (bL l).length (bL l)) l l.length _ _) ?_
    rw[decide_eq_false (by omega),bc_f]
    refine ⟨rfl,?_⟩
    rw[winA]
   exact e.only ⟨rfl,rfl,rfl,rfl,rfl,trivial⟩ ⟨rfl,rfl,trivial⟩
 | succ c ih=>
  intro i hc h1 hi
  have hil:i<l.length:=by omega
  have nx:=ih (i+1) (by omega) (by omega) (by omega)
  have tl:((bL l).take i).length=i:=by rw[List.length_take,bL_len];omega
  rw[bL_at hil] at nx
  have one:winL uB 0 1 ((List.replicate 1 uB.dflt).set 0 (gtY l i).2.2)=[(gtY l i).2.2]:=rfl
  refine sy_goK cx0 (vc_oB2 a b ((bL l).take i) l i _ _) ?_
  rw[decide_eq_true (show (i:Int)<(l.length:Int) by omega),bc_t,Int.toNat_natCast,IntWalk.i64_in ((i:Int)+1) (by omega),one]
  refine ⟨rfl,by omega,by omega,Nat.le_refl 1,rfl,rfl,?_,by decide,?_⟩
  ·show ((bL l).take i).length+1<2 ^ 30
   rw[tl]
   show i+1<1073741824
   omega
  ·exact nx.only ⟨rfl,rfl,rfl,rfl,rfl,trivial⟩ ⟨rfl,by rw[List.length_append];rfl,rfl,trivial⟩
theorem o8A2 (h0:1≤l.length):GD 46 Tryd.f46 (O8Q 2 a b l (bL l)) (hd Tryd.f46 0) ⟨[(0,.int .i64 2),(1,.sl syS l),(4,.ptr 4 0),(5,.ptr 5 0),(6,.int .i64 ((0:Nat):Int))],[(4,.var [.int .i64 0,.int .i64 0,.int .i64 0,.int .u8 0,.nils]),(5,.var [.int .i64 2,.int .i64 a,.int .i64 l.length,.int .u8 b,.nils])]⟩:=by
 have nx:=o8B2 a b l hl _ 1 rfl (Nat.le_refl 1) h0
 rw[bL_at (show 0<l.length by omega)] at nx
 have one:winL uB 0 1 ((List.replicate 1 uB.dflt).set 0 (gtY l 0).2.2)=[(gtY l 0).2.2]:=rfl
 refine sy_goK cx0 (vc_oA2 a b l 0 _ _) ?_
 rw[decide_eq_true (show ((0:Nat):Int)<(l.length:Int) by omega),bc_t,Int.toNat_natCast,IntWalk.i64_in (((0:Nat):Int)+1) (by omega),one]
 exact ⟨rfl,by omega,by omega,Nat.le_refl 1,(show 1<2 ^ 30 by decide),by decide,nx.only ⟨rfl,rfl,rfl,rfl,rfl,trivial⟩ ⟨rfl,rfl,rfl,trivial⟩⟩
theorem o8B4:∀ (c i:Nat),l.length-i=c→1≤i→i≤l.length →
  GD 46 Tryd.f46 (O8Q 4 a b l (bL l)) (hd Tryd.f46 0) ⟨[(0,.int .i64 4),(1,.sl syS l),(4,.ptr 4 0),(5,.ptr 5 0),(6,.int .i64 (i:Nat))],[(4,.var [.int .i64 0,.int .i64 0,.int .i64 0,.int .u8 0,.nils]),(5,.var [.int .i64 4,.int .i64 a,.int .i64 l.length,.int .u8 b,.win true uB 51 0 ((bL l).take i).length]),(51,.row 5 uB ((bL l).take i))]⟩:=by
 intro c
 induction c with
 | zero=>
  intro i hc h1 hi
  have hi:i=l.length:=by omega
  subst hi
  have e:(bL l).take l.length=bL l:=List.take_of_length_le (by rw[bL_len];omega)
  rw[e]
  refine Good.frz (i:=51) (e:=uB) (et:=5) (xs:=bL l) rfl (fun c hc=>?_) ?_
  ·have hc:c∈[0+(bL l).length≤(bL l).length]:=hc
   rw[List.mem_singleton] at hc;subst hc;omega
  ·have e:GD 46 Tryd.f46 (O8Q 4 a b l (bL l)) (hd Tryd.f46 0) ⟨[(0,.int .i64 4),(1,.sl syS l),(4,.ptr 4 0),(5,.ptr 5 0),(6,.int .i64 (l.length:Nat))],[(4,.var [.int .i64 0,.int .i64 0,.int .i64 0,.int .u8 0,.nils]),(5,.var [.int .i64 4,.int .i64 a,.int .i64 l.length,.int .u8 b,.sl uB (winL uB 0 (bL l).length (bL l))])]⟩:=by
    refine sy_goK cx0 (vc_oF4 a b (winL uB 0 (bL l).length (bL l)) l l.length _ _) ?_
    rw[decide_eq_false (by omega),bc_f]
    refine ⟨rfl,?_⟩
    rw[winA]
   exact e.only ⟨rfl,rfl,rfl,rfl,rfl,trivial⟩ ⟨rfl,rfl,trivial⟩
 | succ c ih=>
  intro i hc h1 hi
  have hil:i<l.length:=by omega
  have nx:=ih (i+1) (by omega) (by omega) (by omega)
  have tl:((bL l).take i).length=i:=by rw[List.length_take,bL_len];omega
  rw[bL_at hil] at nx
  have one:winL uB 0 1 ((List.replicate 1 uB.dflt).set 0 (gtY l i).2.2)=[(gtY l i).2.2]:=rfl
  refine sy_goK cx0 (vc_oB4 a b ((bL l).take i) l i _ _) ?_
  rw[decide_eq_true (show (i:Int)<(l.length:Int) by omega),bc_t,Int.toNat_natCast,IntWalk.i64_in ((i:Int)+1) (by omega),one]
  refine ⟨by omega,by omega,Nat.le_refl 1,rfl,rfl,?_,by decide,?_⟩
  ·show ((bL l).take i).length+1<2 ^ 30
   rw[tl]
   show i+1<1073741824
   omega
  ·exact nx.only ⟨rfl,rfl,rfl,rfl,rfl,trivial⟩ ⟨rfl,by rw[List.length_append];rfl,rfl,trivial⟩
theorem o8A4 (h0:1≤l.length):GD 46 Tryd.f46 (O8Q 4 a b l (bL l)) (hd Tryd.f46 0) ⟨[(0,.int .i64 4),(1,.sl syS l),(4,.ptr 4 0),(5,.ptr 5 0),(6,.int .i64 ((0:Nat):Int))],[(4,.var [.int .i64 0,.int .i64 0,.int .i64 0,.int .u8 0,.nils]),(5,.var [.int .i64 4,.int .i64 a,.int .i64 l.length,.int .u8 b,.nils])]⟩:=by
 have nx:=o8B4 a b l hl _ 1 rfl (Nat.le_refl 1) h0
 rw[bL_at (show 0<l.length by omega)] at nx
 have one:winL uB 0 1 ((List.replicate 1 uB.dflt).set 0 (gtY l 0).2.2)=[(gtY l 0).2.2]:=rfl
 refine sy_goK cx0 (vc_oA4 a b l 0 _ _) ?_
 rw[decide_eq_true (show ((0:Nat):Int)<(l.length:Int) by omega),bc_t,Int.toNat_natCast,IntWalk.i64_in (((0:Nat):Int)+1) (by omega),one]
 exact ⟨by omega,by omega,Nat.le_refl 1,(show 1<2 ^ 30 by decide),by decide,nx.only ⟨rfl,rfl,rfl,rfl,rfl,trivial⟩ ⟨rfl,rfl,rfl,trivial⟩⟩
end
theorem o8_mt (x:OpT) (h:x.2.2.2.2=[]):MtL (fun _=>none) (mdV x) [.agg [.int .i64 x.1,.int .i64 x.2.1,.int .i64 x.2.2.1,.int .u8 x.2.2.2.1,.nils]]:=
 ⟨_,_,rfl,⟨_,rfl,_,_,rfl,rfl,_,_,rfl,rfl,_,_,rfl,rfl,_,_,rfl,rfl,_,_,rfl,.inr ⟨rfl,h⟩,rfl⟩,rfl⟩
theorem o8_run (k:Int) (l:List SyT) (hp:preMk k l):GD 46 Tryd.f46 (QC ctO8 (k,l,())) [.code (bodyOf Tryd.f46)] (entry [iI,.sl syS] (k,l,())):=by
 obtain ⟨hk,h0,h1⟩:=hp
 rcases (show k=1∨k=2∨k=3∨k=4 by unfold kOK at hk;omega) with e | e | e | e
 ·subst e
  refine sy_goK cx0 (vc_oE1 l _ _) ⟨rfl,by omega,by omega,?_⟩
  have e:GD 46 Tryd.f46 (QC ctO8 (1,l,())) (hd Tryd.f46 0) ⟨[(0,.int .i64 1),(1,.sl syS l),(4,.ptr 4 0),(5,.ptr 5 0),(6,.int .i64 ((0:Nat):Int))],[(4,.var [.int .i64 0,.int .i64 0,.int .i64 0,.int .u8 0,.nils]),(5,.var [.int .i64 1,.int .i64 (gtY l 0).2.1,.int .i64 l.length,.int .u8 0,.nils])]⟩:=by
   have fin:∀ bl,QC ctO8 (1,l,()) [SV.agg [SV.int IntKind.i64 1,SV.int IntKind.i64 (gtY l 0).2.1,SV.int IntKind.i64 (l.length:Int),SV.int IntKind.u8 0,SV.nils]] bl:=fun bl=>QC.mt (o8_mt (opK 1 l) rfl) rfl
   refine sy_goK cx0 (vc_oA1 (gtY l 0).2.1 0 l 0 _ _) (bc_of (fun _=>fin _) (fun _=>⟨rfl,fin _⟩))
  exact e.only ⟨rfl,rfl,rfl,rfl,rfl,trivial⟩ ⟨rfl,rfl,trivial⟩
 ·subst e
  refine sy_goK cx0 (vc_oE2 l _ _) ⟨by omega,by omega,?_⟩
  exact ((o8A2 (gtY l 0).2.1 0 l h1 h0).post fun rs blk hq=>QC.flat (by rw[hq];rfl) rfl (by rw[hq];rfl)).only ⟨rfl,rfl,rfl,rfl,rfl,trivial⟩ ⟨rfl,rfl,trivial⟩
 ·subst e
  refine sy_goK cx0 (vc_oE3 l _ _) ⟨by omega,by omega,?_⟩
  have e:GD 46 Tryd.f46 (QC ctO8 (3,l,())) (hd Tryd.f46 0) ⟨[(0,.int .i64 3),(1,.sl syS l),(4,.ptr 4 0),(5,.ptr 5 0),(6,.int .i64 ((0:Nat):Int))],[(4,.var [.int .i64 0,.int .i64 0,.int .i64 0,.int .u8 0,.nils]),(5,.var [.int .i64 3,.int .i64 0,.int .i64 l.length,.int .u8 (gtY l 0).2.2,.nils])]⟩:=by
   have fin:∀ bl,QC ctO8 (3,l,()) [SV.agg [SV.int IntKind.i64 3,SV.int IntKind.i64 0,SV.int IntKind.i64 (l.length:Int),SV.int IntKind.u8 (gtY l 0).2.2,SV.nils]] bl:=fun bl=>QC.mt (o8_mt (opK 3 l) rfl) rfl
   refine sy_goK cx0 (vc_oA3 0 (gtY l 0).2.2 l 0 _ _) ?_
   repeat' first
    | exact fin _
    | refine ⟨rfl,?_⟩
    | refine bc_of (fun h=>?_) (fun h=>?_)
  exact e.only ⟨rfl,rfl,rfl,rfl,rfl,trivial⟩ ⟨rfl,rfl,trivial⟩
 ·subst e
  refine sy_goK cx0 (vc_oE4 l _ _) ?_
  exact ((o8A4 0 0 l h1 h0).post fun rs blk hq=>QC.flat (by rw[hq];rfl) rfl (by rw[hq];rfl)).only ⟨rfl,rfl,rfl,rfl,rfl,trivial⟩ ⟨rfl,rfl,trivial⟩
theorem o8_held:Held Tryd.prog G0 46 ctO8:=Held.of cx0 (fn:=Tryd.f46) rfl rfl ⟨by decide,by decide⟩ fun ⟨k,l,_⟩ hp=>o8_run k l hp
theorem opK_eq {k m:Int} {l:List SyT} (hr:∀ s∈l,sOK m s=true) (h0:1≤l.length) (hi:isK k l l.length):opK k l=mdK k l:=by
 unfold opK mdK
 split
 ·rfl
 ·rename_i h
  have h1:=(hi 0 (by omega)).1
  unfold canB at h1
  rw[if_neg (by omega),if_neg (by omega)] at h1
  have o:(gtY l 0).1=false:=by simpa using h1
  rw[sOK_f (show sOK m (gtY l 0)=true by rw[gtY_at (show 0<l.length by omega)];exact hr _ (List.getElem_mem _)) o]
end Go.Proofs.YtkiicobbnllpkaaDoor
namespace Go.Proofs.YtkiicobbnllpkaaDoor
open Go.Px Go.Ax
set_option maxRecDepth 100000
set_option maxRecDepth 100000
end Go.Proofs.YtkiicobbnllpkaaDoor
namespace Go.Proofs.YtkiicobbnllpkaaDoor
open Go.Px Go.Ax
set_option maxRecDepth 100000
attribute [local irreducible] Go.Px.sy Go.Px.syE
def preLi (l:List SyT):Prop:=l.length≤65536∧∃ m:Int,m<16777216∧∀ s∈l,sOK m s=true
section
variable (l:List SyT) (hp:preLi l)
include hp
end
end Go.Proofs.YtkiicobbnllpkaaDoor
namespace Go.Proofs.YtkiicobbnllpkaaDoor
open Go.Px Go.Ax
set_option maxRecDepth 100000
def preSb (x:OpT) (i:Int):Prop:=k14 x∧0≤i∧(x.1=2∨x.1=4→i<(x.2.2.2.2.length:Int))
def syV (s:SyT):SV:=.agg [.bool s.1,.int .i64 s.2.1,.int .u8 s.2.2]
def ctSb:Ctr:=⟨[opS,iI],fun x=>preSb x.1 x.2.1,fun x=>[syV (elO x.1.1.toNat x.1 (Int.toNat x.2.1))],fun _=>[]⟩
def CSm:CV:=[(21,.inl ctRi),(51,.inl ctSb)]
set_option maxRecDepth 100000
theorem vc_sb (x:OpT) (i:Int) (Q:QT) (R:RT):sy tt G0 [] Tryd.f51.ntmps Tryd.f51.results.toList Q R 1000 [.code (bodyOf Tryd.f51)] (entry [opS,iI] (x,i,())) =
  (bc (decide (x.1=(1:Int))) (Q [.agg [.bool true,.int .i64 (IntKind.i64.wrap (x.2.1+i)),.int .u8 0]] [(2,.var [.int .i64 x.1,.int .i64 x.2.1,.int .i64 x.2.2.1,.int .u8 x.2.2.2.1,.sl uB x.2.2.2.2]),(4,.var [.bool true,.int .i64 (IntKind.i64.wrap (x.2.1+i)),.int .u8 0])]) (bc (decide (x.1=(2:Int))) ((0:Int)≤i ∧
 i<(↑(List.length x.2.2.2.2):Int) ∧
 Q [.agg [.bool true,.int .i64 (IntKind.i64.wrap (x.2.1+i)),.int .u8 (gtB x.2.2.2.2 i.toNat)]] [(2,.var [.int .i64 x.1,.int .i64 x.2.1,.int .i64 x.2.2.1,.int .u8 x.2.2.2.1,.sl uB x.2.2.2.2]),(4,.var [.bool true,.int .i64 (IntKind.i64.wrap (x.2.1+i)),.int .u8 (gtB x.2.2.2.2 i.toNat)])]) (bc (decide (x.1=(3:Int))) (Q [.agg [.bool false,.int .i64 0,.int .u8 x.2.2.2.1]] [(2,.var [.int .i64 x.1,.int .i64 x.2.1,.int .i64 x.2.2.1,.int .u8 x.2.2.2.1,.sl uB x.2.2.2.2]),(4,.var [.bool false,.int .i64 0,.int .u8 x.2.2.2.1])]) ((0:Int)≤i ∧
 i<(↑(List.length x.2.2.2.2):Int) ∧
 Q [.agg [.bool false,.int .i64 0,.int .u8 (gtB x.2.2.2.2 i.toNat)]] [(2,.var [.int .i64 x.1,.int .i64 x.2.1,.int .i64 x.2.2.1,.int .u8 x.2.2.2.1,.sl uB x.2.2.2.2]),(4,.var [.bool false,.int .i64 0,.int .u8 (gtB x.2.2.2.2 i.toNat)])])))):=by kernel_rfl
theorem vc_rs (li:Bool) (m o:Int) (l:List OpT) (Q:QT) (R:RT):sy tt G0 CSm Tryd.f33.ntmps Tryd.f33.results.toList Q (fun it S=>R it (keepS [1,4,5,6] [1,10,37] S)) 1000 [.code (bodyOf Tryd.f33)] (entry [paS] ((li,m,o,l),())) =
  (ctRi.pre ((li,m,o,l),()) ∧
 bc (!decide ((chkV (li,m,o,l)).2=(0:Int))) (Q [.nils,.int .i64 60] [(1,.var [.bool li,.int .i64 m,.int .i64 o,.sl opS l])]) (R (hd Tryd.f33 0) { env:=[(1,.ptr 1 0),(4,.win true syS 10 0 (0:Nat)),(5,.int .i64 0)],blk:=[(1,.var [.bool li,.int .i64 m,.int .i64 o,.sl opS l]),(10,.row 52 syS (List.replicate (0:Nat) syS.dflt))] })):=by kernel_rfl
theorem vc_rsO (li:Bool) (m o:Int) (l:List OpT) (s:List SyT) (i:Nat) (Q:QT) (R:RT):sy tt G0 CSm Tryd.f33.ntmps Tryd.f33.results.toList Q (fun it S=>R it (keepS [1,4,5,6] [1,10,37] S)) 1000 (hd Tryd.f33 0) ⟨[(1,.ptr 1 0),(4,.win true syS 10 0 s.length),(5,.int .i64 (i:Nat))],[(1,.var [.bool li,.int .i64 m,.int .i64 o,.sl opS l]),(10,.row 52 syS s)]⟩ =
  (bc (decide ((i:Int)<(l.length:Int))) (R (hd Tryd.f33 1) { env:=[(1,.ptr 1 0),(4,.win true syS 10 0 s.length),(5,.int .i64 (i:Int)),(6,.int .i64 0)],blk:=[(1,.var [.bool li,.int .i64 m,.int .i64 o,.sl opS l]),(10,.row 52 syS s)] }) (Q [.win true syS 10 0 s.length,.int .i64 0] [(1,.var [.bool li,.int .i64 m,.int .i64 o,.sl opS l]),(10,.row 52 syS s)])):=by kernel_rfl
theorem vc_rsI (li:Bool) (m o:Int) (l:List OpT) (s:List SyT) (i k:Nat) (Q:QT) (R:RT):sy tt G0 CSm Tryd.f33.ntmps Tryd.f33.results.toList Q (fun it S=>R it (keepS [1,4,5,6] [1,10,37] S)) 1000 (hd Tryd.f33 1) ⟨[(1,.ptr 1 0),(4,.win true syS 10 0 s.length),(5,.int .i64 (i:Nat)),(6,.int .i64 (k:Nat))],[(1,.var [.bool li,.int .i64 m,.int .i64 o,.sl opS l]),(10,.row 52 syS s)]⟩ =
  ((0:Int)≤(i:Int) ∧
 (i:Int)<(l.length:Int) ∧
 bc (decide ((k:Int)<(gtO l (i:Int).toNat).2.2.1)) ((0:Int)≤(i:Int) ∧
 (i:Int)<(l.length:Int) ∧
 ctSb.pre ((gtO l (i:Int).toNat),(k:Int),()) ∧
 0+(1:Nat)≤([(elO (Int.toNat (gtO l (i:Int).toNat).1) (gtO l (i:Int).toNat) (k:Int).toNat)]:List syS.D).length ∧
 s.length=s.length ∧
 (0:Nat)=(0:Nat) ∧
 s.length+(([(elO (Int.toNat (gtO l (i:Int).toNat).1) (gtO l (i:Int).toNat) (k:Int).toNat)]:List syS.D)).length<(2:Nat) ^ (30:Nat) ∧
 (24:Nat)≤(2:Nat) ^ (10:Nat) ∧
 R (hd Tryd.f33 1) { env:=[(1,.ptr 1 0),(4,.win true syS 37 0 (s.length+(([(elO (Int.toNat (gtO l (i:Int).toNat).1) (gtO l (i:Int).toNat) (k:Int).toNat)]:List syS.D)).length)),(5,.int .i64 (i:Int)),(6,.int .i64 (IntKind.i64.wrap ((k:Int)+(1:Int))))],blk:=[(1,.var [.bool li,.int .i64 m,.int .i64 o,.sl opS l]),(37,.row 52 syS (s++([(elO (Int.toNat (gtO l (i:Int).toNat).1) (gtO l (i:Int).toNat) (k:Int).toNat)]:List syS.D)))] }) (R (hd Tryd.f33 0) { env:=[(1,.ptr 1 0),(4,.win true syS 10 0 s.length),(5,.int .i64 (IntKind.i64.wrap ((i:Int)+(1:Int)))),(6,.int .i64 (k:Int))],blk:=[(1,.var [.bool li,.int .i64 m,.int .i64 o,.sl opS l]),(10,.row 52 syS s)] })):=by kernel_rfl
end Go.Proofs.YtkiicobbnllpkaaDoor
namespace Go.Proofs.YtkiicobbnllpkaaDoor
open Go.Px Go.Ax
set_option maxRecDepth 100000
attribute [local irreducible] Go.Px.sy Go.Px.syE
theorem sb_run (k f n b i:Int) (d:List Int) (hp:preSb (k,f,n,b,d) i) (R:List Item→PS→Prop):sy tt G0 [] Tryd.f51.ntmps Tryd.f51.results.toList (QC ctSb ((k,f,n,b,d),i,())) R 1000 [.code (bodyOf Tryd.f51)] (entry [opS,iI] ((k,f,n,b,d),i,())):=by
 obtain ⟨hk,h0,hd⟩:=hp
 have out:∀ s,elO k.toNat ((k,f,n,b,d):OpT) i.toNat=s→ctSb.out ((k,f,n,b,d),i,())=[syV s]:=fun s e=>congrArg (fun s=>[syV s]) e
 have hi:((i.toNat:Nat):Int)=i:=by omega
 refine (vc_sb (k,f,n,b,d) i _ _).mpr ?_
 rcases hk with e | e | e | e
 ·have e:k=1:=e
  subst e
  refine QC.flat (out (true,IntKind.i64.wrap (f+i),0) ?_) rfl rfl
  show ((true,IntKind.i64.wrap (f+(i.toNat:Int)),0):SyT)=_
  rw[hi]
 ·have e:k=2:=e
  subst e
  have hd2:i<(d.length:Int):=hd (.inl rfl)
  refine ⟨h0,hd2,QC.flat (out (true,IntKind.i64.wrap (f+i),gtB d i.toNat) ?_) rfl rfl⟩
  show ((true,IntKind.i64.wrap (f+(i.toNat:Int)),gtB d i.toNat):SyT)=_
  rw[hi]
 ·have e:k=3:=e
  subst e
  exact QC.flat (out _ rfl) rfl rfl
 ·have e:k=4:=e
  subst e
  have hd2:i<(d.length:Int):=hd (.inr rfl)
  exact ⟨h0,hd2,QC.flat (out _ rfl) rfl rfl⟩
theorem sb_held:Held Tryd.prog G0 51 ctSb:=Held.run cx0 (fn:=Tryd.f51) rfl rfl ⟨by decide,by decide⟩ fun ⟨⟨k,f,n,b,d⟩,i,_⟩ hp=>sb_run k f n b i d hp _
theorem cxSm2:CxOK Tryd.prog tt G0 CSm:=(cx0.cons sb_held (fn:=Tryd.f51) rfl rfl rfl).cons right_held (fn:=Tryd.f21) rfl rfl rfl
section
variable (li:Bool) (m o:Int) (l:List OpT) (hc:(chkV (li,m,o,l)).2=0)
abbrev RsQ:List SV→List (Nat × LB)→Prop:=QC ctSym ((li,m,o,l),())
include hc
theorem rs_inner (i:Nat) (hi:i<l.length) (nx:GD 33 Tryd.f33 (RsQ li m o l) (hd Tryd.f33 0) ⟨[(1,.ptr 1 0),(4,.win true syS 10 0 (symF (l.take (i+1))).length),(5,.int .i64 ((i+1:Nat):Int))],[(1,.var [.bool li,.int .i64 m,.int .i64 o,.sl opS l]),(10,.row 52 syS (symF (l.take (i+1))))]⟩) :
  ∀ (c k:Nat),l[i].2.2.1.toNat-k=c→k≤l[i].2.2.1.toNat →
  GD 33 Tryd.f33 (RsQ li m o l) (hd Tryd.f33 1) ⟨[(1,.ptr 1 0),(4,.win true syS 10 0 (symF (l.take i)++(symsO l[i].1.toNat l[i]).take k).length),(5,.int .i64 (i:Nat)),(6,.int .i64 (k:Nat))],[(1,.var [.bool li,.int .i64 m,.int .i64 o,.sl opS l]),(10,.row 52 syS (symF (l.take i)++(symsO l[i].1.toNat l[i]).take k))]⟩:=by
 obtain ⟨hr,hs,ho,hl⟩:=chkV_ok hc
 have hl:l.length≤4096:=hl
 have hx:=hr _ (List.getElem_mem hi)
 have hlx:=isRB_len hx
 obtain ⟨k4,hcn⟩:=isRB_kind hx
 have sl:(symsO l[i].1.toNat l[i]).length=cntO l[i].1.toNat l[i]:=gen_len ..
 have hsf:(symF (l.take i)).length≤65536:=by
  have h1:=symF_len (m:=m) (l:=l.take i) fun y hy=>hr y (List.mem_of_mem_take hy)
  have h2:lenS l=lenS (l.take i)+lenS (l.drop i):=by rw[← lenS_app,List.take_append_drop]
  have h3:=lenS_pos (m:=m) (l:=l.drop i) fun y hy=>hr y (List.mem_of_mem_drop hy)
  have ho2:o≤65536:=ho.2
  have hs2:lenS l=o:=hs
  omega
 have ht:symF (l.take (i+1))=symF (l.take i)++symsO l[i].1.toNat l[i]:=by
  rw[List.take_succ_eq_append_getElem hi,symF_app]
  simp[symF]
 intro c
 induction c with
 | zero=>
  intro k hk hk2
  have hk:k=l[i].2.2.1.toNat:=by omega
  have e:(symsO l[i].1.toNat l[i]).take k=symsO l[i].1.toNat l[i]:=List.take_of_length_le (by omega)
  rw[e,← ht]
  refine sy_goK cxSm2 (vc_rsI li m o l (symF (l.take (i+1))) i k _ _) ?_
  rw[Int.toNat_natCast,gtO_at hi,decide_eq_false (by omega),bc_f,IntWalk.i64_in ((i:Int)+1) (by omega)]
  exact ⟨by omega,by omega,nx.only ⟨rfl,rfl,rfl,trivial⟩ ⟨rfl,rfl,trivial⟩⟩
 | succ c ih=>
  intro k hk hk2
  have hk3:k<cntO l[i].1.toNat l[i]:=by omega
  have nk:=ih (k+1) (by omega) (by omega)
  have e:(symsO l[i].1.toNat l[i]).take (k+1)=(symsO l[i].1.toNat l[i]).take k++[elO l[i].1.toNat l[i] k]:=by
   rw[List.take_succ_eq_append_getElem (by omega)]
   congr 2
   have:=gen_get (elO l[i].1.toNat l[i]) (cntO l[i].1.toNat l[i]) 0 k hk3
   rw[Nat.zero_add] at this
   have h2:(symsO l[i].1.toNat l[i])[k]?=some (elO l[i].1.toNat l[i] k):=this
   rw[List.getElem?_eq_getElem (by omega)] at h2
   exact Option.some.inj h2
  rw[e,← List.append_assoc] at nk
  have tl:((symsO l[i].1.toNat l[i]).take k).length≤65536:=by rw[List.length_take];omega
  have pre:preSb l[i] (k:Int):=⟨k4,by omega,fun h=>by
   have:cntO l[i].1.toNat l[i]=l[i].2.2.2.2.length:=by rcases h with h | h <;> (rw[h];rfl)
   omega⟩
  generalize hss:symF (l.take i)++(symsO l[i].1.toNat l[i]).take k=ss at *
  have hsl:ss.length≤131072:=by rw[← hss,List.length_append];omega
  refine sy_goK cxSm2 (vc_rsI li m o l ss i k _ _) ?_
  rw[Int.toNat_natCast,gtO_at hi,decide_eq_true (show (k:Int)<l[i].2.2.1 by omega),bc_t,IntWalk.i64_in ((k:Int)+1) (by omega),Int.toNat_natCast]
  refine ⟨by omega,by omega,by omega,by omega,pre,Nat.le_refl 1,rfl,rfl,?_,by decide,?_⟩
  ·show ss.length+1<2 ^ 30
   show ss.length+1<1073741824
   omega
  ·exact nk.onlyR [(10,37)] rfl ⟨rfl,by rw[List.length_append];rfl,rfl,rfl,trivial⟩ ⟨rfl,rfl,trivial⟩
theorem rs_outer:∀ (c i:Nat),l.length-i=c→i≤l.length →
  GD 33 Tryd.f33 (RsQ li m o l) (hd Tryd.f33 0) ⟨[(1,.ptr 1 0),(4,.win true syS 10 0 (symF (l.take i)).length),(5,.int .i64 (i:Nat))],[(1,.var [.bool li,.int .i64 m,.int .i64 o,.sl opS l]),(10,.row 52 syS (symF (l.take i)))]⟩:=by
 have hv:symV (li,m,o,l)=(symF l,0):=by unfold symV;rw[if_pos hc]
 intro c
 induction c with
 | zero=>
  intro i hc2 hi
  refine sy_goK cxSm2 (vc_rsO li m o l (symF (l.take i)) i _ _) ?_
  rw[decide_eq_false (by omega),bc_f,List.take_of_length_le (by omega)]
  refine qc_rowI (e:=syS) (et:=52) (a:=10) (z:=0) (xs:=symF l) ?_ ?_ rfl rfl rfl
  ·show [SV.win true syS 0 0 (symV (li,m,o,l)).1.length,.int .i64 (symV (li,m,o,l)).2]=_
   rw[hv]
  ·show [LB.row 52 syS (symV (li,m,o,l)).1]=_
   rw[hv]
 | succ c ih=>
  intro i hc2 hi
  have hil:i<l.length:=by omega
  refine sy_goK cxSm2 (vc_rsO li m o l (symF (l.take i)) i _ _) ?_
  rw[decide_eq_true (show (i:Int)<(l.length:Int) by omega),bc_t]
  have h:=rs_inner li m o l hc i hil (ih (i+1) (by omega) (by omega)) _ 0 rfl (Nat.zero_le _)
  rw[List.take_zero,List.append_nil] at h
  exact h.only ⟨rfl,rfl,rfl,rfl,trivial⟩ ⟨rfl,rfl,trivial⟩
end
theorem rs_held:Held Tryd.prog G0 33 ctSym:=Held.of cxSm2 (fn:=Tryd.f33) rfl rfl ⟨by decide,by decide⟩ fun ⟨⟨li,m,o,l⟩,_⟩ _=>by
 refine sy_goK cxSm2 (vc_rs li m o l _ _) ⟨trivial,bc_of (fun h=>?_) (fun h=>?_)⟩
 ·have h:¬ (chkV (li,m,o,l)).2=0:=by
   have h:(!decide ((chkV (li,m,o,l)).2=0))=true:=h
   simpa using h
  have h6:(chkV (li,m,o,l)).2=60:=by rcases chkV60 (li,m,o,l) with q | q;exact absurd q h;exact q
  have hv:symV (li,m,o,l)=([],60):=by unfold symV;rw[if_neg h,h6]
  refine qc_nilI (e:=syS) (et:=52) (z:=60) ?_ ?_ rfl (by decide)
  ·show [SV.win true syS 0 0 (symV (li,m,o,l)).1.length,.int .i64 (symV (li,m,o,l)).2]=_
   rw[hv];rfl
  ·show [LB.row 52 syS (symV (li,m,o,l)).1]=_
   rw[hv]
 ·have h:(chkV (li,m,o,l)).2=0:=by
   have h:(!decide ((chkV (li,m,o,l)).2=0))=false:=h
   simpa using h
  exact (rs_outer li m o l h _ 0 rfl (Nat.zero_le _)).only ⟨rfl,rfl,rfl,trivial⟩ ⟨rfl,rfl,trivial⟩
end Go.Proofs.YtkiicobbnllpkaaDoor
namespace Go.Proofs.YtkiicobbnllpkaaDoor
open Go.Px Go.Ax
set_option maxRecDepth 100000
set_option maxRecDepth 100000
end Go.Proofs.YtkiicobbnllpkaaDoor
namespace Go.Proofs.YtkiicobbnllpkaaDoor
open Go.Px Go.Ax
set_option maxRecDepth 100000
attribute [local irreducible] Go.Px.sy Go.Px.syE
theorem elO_sOK {x:OpT} {m:Int} (h:isRB x m=true) (h0:0≤m) (hm:m<16777216) {k:Nat} (hk:(k:Int)<x.2.2.1):sOK m (elO x.1.toNat x k)=true:=by
 have pp:=isRB_part h ⟨h0,hm⟩
 rcases (isRB_kind h).1 with e | e | e | e
 ·rw[e]
  have pp:=pp (.inl e)
  show sOK m (true,IntKind.i64.wrap (x.2.1+(k:Int)),0)=true
  rw[IntWalk.i64_in _ (by omega)]
  simp[sOK];omega
 ·rw[e]
  have pp:=pp (.inr e)
  show sOK m (true,IntKind.i64.wrap (x.2.1+(k:Int)),gtB x.2.2.2.2 k)=true
  rw[IntWalk.i64_in _ (by omega)]
  simp[sOK];omega
 ·rw[e];rfl
 ·rw[e];rfl
theorem sym_sOK {m:Int} (h0:0≤m) (hm:m<16777216) {l:List OpT} (hr:∀ x∈l,isRB x m=true):∀ s∈symF l,sOK m s=true:=fun s hs=>by
 obtain ⟨x,hx,k,hk,e⟩:=sym_mem hr s hs
 rw[e]
 exact elO_sOK (hr x hx) h0 hm hk
theorem chkV_in {p:PaT} (h:(chkV p).2=0):0≤p.2.1∧p.2.1≤65536:=by
 unfold chkV at h
 split at h
 ·rename_i q;exact szB_le q.1
 ·cases h
end Go.Proofs.YtkiicobbnllpkaaDoor
namespace Go.Proofs.YtkiicobbnllpkaaDoor
open Go.Px Go.Ax
set_option maxRecDepth 100000
def CCt:CV:=[(33,.inl ctSym),(46,.inl ctO8)]
def xO (l:List OpT) (i:Nat):OpT:=gtO l i
def cutN (l:List OpT) (wl:List Int) (i:Nat):Int:=(IntKind.i64.wrap (Int.tmod (gtB wl i) 64)).tmod (xO l i).2.2.1
theorem cxCt:CxOK Tryd.prog tt G0 CCt:=(cx0.cons o8_held (fn:=Tryd.f46) rfl rfl rfl).cons rs_held (fn:=Tryd.f33) rfl rfl rfl
set_option maxRecDepth 100000
theorem vc_ct (li:Bool) (m o:Int) (l:List OpT) (wl:List Int) (Q:QT) (R:RT):sy tt G0 CCt Tryd.f24.ntmps Tryd.f24.results.toList Q (fun it S=>R it (keepS [1,2,4,5,7,8,9] [2,4,7,1061440] S)) 1000 [.code (bodyOf Tryd.f24)] (entry [paS,.sl uB] ((li,m,o,l),wl,())) =
  (ctSym.pre ((li,m,o,l),()) ∧
 R (hd Tryd.f24 0) { env:=[(1,.sl uB wl),(2,.ptr 2 0),(4,.ptr 4 0),(5,.win true syS 1061440 0 (symV (li,m,o,l)).1.length),(7,.ptr 7 0),(8,.int .i64 0),(9,.int .i64 0)],blk:=[(2,.var [.bool li,.int .i64 m,.int .i64 o,.sl opS l]),(4,.var [.bool false,.int .i64 0,.int .i64 0,.nils]),(7,.var [.bool li,.int .i64 m,.int .i64 o,.nils]),(1061440,.row 52 syS (symV (li,m,o,l)).1)] }):=by kernel_rfl
theorem vc_ctA (li:Bool) (m o:Int) (l:List OpT) (wl:List Int) (s:List SyT) (a:Int) (i:Nat) (Q:QT) (R:RT):sy tt G0 CCt Tryd.f24.ntmps Tryd.f24.results.toList Q (fun it S=>R it (keepS [1,2,4,5,7,8,9] [2,4,7,83,100] S)) 1000 (hd Tryd.f24 0) ⟨[(1,.sl uB wl),(2,.ptr 2 0),(4,.ptr 4 0),(5,.sl syS s),(7,.ptr 7 0),(8,.int .i64 a),(9,.int .i64 (i:Nat))],[(2,.var [.bool li,.int .i64 m,.int .i64 o,.sl opS l]),(4,.var [.bool false,.int .i64 0,.int .i64 0,.nils]),(7,.var [.bool li,.int .i64 m,.int .i64 o,.nils])]⟩ =
  (bc (decide ((i:Int)<(l.length:Int))) ((0:Int)≤(i:Int) ∧
 (i:Int)<(l.length:Int) ∧
 bc (decide ((i:Int)<(wl.length:Int))) ((0:Int)≤(i:Int) ∧
 (i:Int)<(wl.length:Int) ∧
 (64:Int)≠(0:Int) ∧
 (xO l i).2.2.1≠(0:Int) ∧
 (0:Int)≤(i:Int) ∧
 (i:Int)<(wl.length:Int) ∧
 bc (decide ((128:Int)≤gtB wl i)) (bc (decide ((xO l i).1=(1:Int))) ((0:Int)≤(i:Int) ∧
 (i:Int)<(wl.length:Int) ∧
 bc (decide ((128:Int)≤gtB wl i)) (bc (decide ((0:Int)<(cutN l wl i))) ((0:Int)≤a ∧
 a≤IntKind.i64.wrap (a+(cutN l wl i)) ∧
 IntKind.i64.wrap (a+(cutN l wl i))≤(s.length:Int) ∧
 ctO8.pre ((2:Int),Px.part s (some a) (some (IntKind.i64.wrap (a+(cutN l wl i)))),()) ∧
 0+(1:Nat)≤([(opK (2:Int) (Px.part s (some a) (some (IntKind.i64.wrap (a+(cutN l wl i))))))]:List opS.D).length ∧
 (([(opK (2:Int) (Px.part s (some a) (some (IntKind.i64.wrap (a+(cutN l wl i))))))]:List opS.D)).length<(2:Nat) ^ (30:Nat) ∧
 (56:Nat)≤(2:Nat) ^ (10:Nat) ∧
 (0:Int)≤IntKind.i64.wrap (a+(cutN l wl i)) ∧
 IntKind.i64.wrap (a+(cutN l wl i))≤IntKind.i64.wrap (a+(xO l i).2.2.1) ∧
 IntKind.i64.wrap (a+(xO l i).2.2.1)≤(s.length:Int) ∧
 ctO8.pre ((xO l i).1,Px.part s (some (IntKind.i64.wrap (a+(cutN l wl i)))) (some (IntKind.i64.wrap (a+(xO l i).2.2.1))),()) ∧
 0+(1:Nat)≤([(opK (xO l i).1 (Px.part s (some (IntKind.i64.wrap (a+(cutN l wl i)))) (some (IntKind.i64.wrap (a+(xO l i).2.2.1)))))]:List opS.D).length ∧
 (([(opK (2:Int) (Px.part s (some a) (some (IntKind.i64.wrap (a+(cutN l wl i))))))]:List opS.D)).length=(([(opK (2:Int) (Px.part s (some a) (some (IntKind.i64.wrap (a+(cutN l wl i))))))]:List opS.D)).length ∧
 (0:Nat)=(0:Nat) ∧
 (([(opK (2:Int) (Px.part s (some a) (some (IntKind.i64.wrap (a+(cutN l wl i))))))]:List opS.D)).length+(([(opK (xO l i).1 (Px.part s (some (IntKind.i64.wrap (a+(cutN l wl i)))) (some (IntKind.i64.wrap (a+(xO l i).2.2.1)))))]:List opS.D)).length<(2:Nat) ^ (30:Nat) ∧
 (56:Nat)≤(2:Nat) ^ (10:Nat) ∧
 R (hd Tryd.f24 0) { env:=[(1,.sl uB wl),(2,.ptr 2 0),(4,.ptr 4 0),(5,.sl syS s),(7,.ptr 7 0),(8,.int .i64 (IntKind.i64.wrap (a+(xO l i).2.2.1))),(9,.int .i64 (IntKind.i64.wrap ((i:Int)+(1:Int))))],blk:=[(2,.var [.bool li,.int .i64 m,.int .i64 o,.sl opS l]),(4,.var [.bool false,.int .i64 0,.int .i64 0,.nils]),(7,.var [.bool li,.int .i64 m,.int .i64 o,.win true opS 100 0 (2:Nat)]),(100,.row 55 opS (([(opK (2:Int) (Px.part s (some a) (some (IntKind.i64.wrap (a+(cutN l wl i))))))]:List opS.D)++([(opK (xO l i).1 (Px.part s (some (IntKind.i64.wrap (a+(cutN l wl i)))) (some (IntKind.i64.wrap (a+(xO l i).2.2.1)))))]:List opS.D)))] }) ((0:Int)≤IntKind.i64.wrap (a+(cutN l wl i)) ∧
 IntKind.i64.wrap (a+(cutN l wl i))≤IntKind.i64.wrap (a+(xO l i).2.2.1) ∧
 IntKind.i64.wrap (a+(xO l i).2.2.1)≤(s.length:Int) ∧
 ctO8.pre ((xO l i).1,Px.part s (some (IntKind.i64.wrap (a+(cutN l wl i)))) (some (IntKind.i64.wrap (a+(xO l i).2.2.1))),()) ∧
 0+(1:Nat)≤([(opK (xO l i).1 (Px.part s (some (IntKind.i64.wrap (a+(cutN l wl i)))) (some (IntKind.i64.wrap (a+(xO l i).2.2.1)))))]:List opS.D).length ∧
 (([(opK (xO l i).1 (Px.part s (some (IntKind.i64.wrap (a+(cutN l wl i)))) (some (IntKind.i64.wrap (a+(xO l i).2.2.1)))))]:List opS.D)).length<(2:Nat) ^ (30:Nat) ∧
 (56:Nat)≤(2:Nat) ^ (10:Nat) ∧
 R (hd Tryd.f24 0) { env:=[(1,.sl uB wl),(2,.ptr 2 0),(4,.ptr 4 0),(5,.sl syS s),(7,.ptr 7 0),(8,.int .i64 (IntKind.i64.wrap (a+(xO l i).2.2.1))),(9,.int .i64 (IntKind.i64.wrap ((i:Int)+(1:Int))))],blk:=[(2,.var [.bool li,.int .i64 m,.int .i64 o,.sl opS l]),(4,.var [.bool false,.int .i64 0,.int .i64 0,.nils]),(7,.var [.bool li,.int .i64 m,.int .i64 o,.win true opS 100 0 (1:Nat)]),(100,.row 55 opS (([(opK (xO l i).1 (Px.part s (some (IntKind.i64.wrap (a+(cutN l wl i)))) (some (IntKind.i64.wrap (a+(xO l i).2.2.1)))))]:List opS.D)))] })) (false=false ∧
 bc (decide ((0:Int)<(cutN l wl i))) ((0:Int)≤a ∧
 a≤IntKind.i64.wrap (a+(cutN l wl i)) ∧
 IntKind.i64.wrap (a+(cutN l wl i))≤(s.length:Int) ∧
 ctO8.pre ((2:Int),Px.part s (some a) (some (IntKind.i64.wrap (a+(cutN l wl i)))),()) ∧
 0+(1:Nat)≤([(opK (2:Int) (Px.part s (some a) (some (IntKind.i64.wrap (a+(cutN l wl i))))))]:List opS.D).length ∧
 (([(opK (2:Int) (Px.part s (some a) (some (IntKind.i64.wrap (a+(cutN l wl i))))))]:List opS.D)).length<(2:Nat) ^ (30:Nat) ∧
 (56:Nat)≤(2:Nat) ^ (10:Nat) ∧
 (0:Int)≤IntKind.i64.wrap (a+(cutN l wl i)) ∧
 IntKind.i64.wrap (a+(cutN l wl i))≤IntKind.i64.wrap (a+(xO l i).2.2.1) ∧
 IntKind.i64.wrap (a+(xO l i).2.2.1)≤(s.length:Int) ∧
 ctO8.pre ((xO l i).1,Px.part s (some (IntKind.i64.wrap (a+(cutN l wl i)))) (some (IntKind.i64.wrap (a+(xO l i).2.2.1))),()) ∧
 0+(1:Nat)≤([(opK (xO l i).1 (Px.part s (some (IntKind.i64.wrap (a+(cutN l wl i)))) (some (IntKind.i64.wrap (a+(xO l i).2.2.1)))))]:List opS.D).length ∧
 (([(opK (2:Int) (Px.part s (some a) (some (IntKind.i64.wrap (a+(cutN l wl i))))))]:List opS.D)).length=(([(opK (2:Int) (Px.part s (some a) (some (IntKind.i64.wrap (a+(cutN l wl i))))))]:List opS.D)).length ∧
 (0:Nat)=(0:Nat) ∧
 (([(opK (2:Int) (Px.part s (some a) (some (IntKind.i64.wrap (a+(cutN l wl i))))))]:List opS.D)).length+(([(opK (xO l i).1 (Px.part s (some (IntKind.i64.wrap (a+(cutN l wl i)))) (some (IntKind.i64.wrap (a+(xO l i).2.2.1)))))]:List opS.D)).length<(2:Nat) ^ (30:Nat) ∧
 (56:Nat)≤(2:Nat) ^ (10:Nat) ∧
 R (hd Tryd.f24 0) { env:=[(1,.sl uB wl),(2,.ptr 2 0),(4,.ptr 4 0),(5,.sl syS s),(7,.ptr 7 0),(8,.int .i64 (IntKind.i64.wrap (a+(xO l i).2.2.1))),(9,.int .i64 (IntKind.i64.wrap ((i:Int)+(1:Int))))],blk:=[(2,.var [.bool li,.int .i64 m,.int .i64 o,.sl opS l]),(4,.var [.bool false,.int .i64 0,.int .i64 0,.nils]),(7,.var [.bool li,.int .i64 m,.int .i64 o,.win true opS 100 0 (2:Nat)]),(100,.row 55 opS (([(opK (2:Int) (Px.part s (some a) (some (IntKind.i64.wrap (a+(cutN l wl i))))))]:List opS.D)++([(opK (xO l i).1 (Px.part s (some (IntKind.i64.wrap (a+(cutN l wl i)))) (some (IntKind.i64.wrap (a+(xO l i).2.2.1)))))]:List opS.D)))] }) ((0:Int)≤IntKind.i64.wrap (a+(cutN l wl i)) ∧
 IntKind.i64.wrap (a+(cutN l wl i))≤IntKind.i64.wrap (a+(xO l i).2.2.1) ∧
 IntKind.i64.wrap (a+(xO l i).2.2.1)≤(s.length:Int) ∧
 ctO8.pre ((xO l i).1,Px.part s (some (IntKind.i64.wrap (a+(cutN l wl i)))) (some (IntKind.i64.wrap (a+(xO l i).2.2.1))),()) ∧
 0+(1:Nat)≤([(opK (xO l i).1 (Px.part s (some (IntKind.i64.wrap (a+(cutN l wl i)))) (some (IntKind.i64.wrap (a+(xO l i).2.2.1)))))]:List opS.D).length ∧
 (([(opK (xO l i).1 (Px.part s (some (IntKind.i64.wrap (a+(cutN l wl i)))) (some (IntKind.i64.wrap (a+(xO l i).2.2.1)))))]:List opS.D)).length<(2:Nat) ^ (30:Nat) ∧
 (56:Nat)≤(2:Nat) ^ (10:Nat) ∧
 R (hd Tryd.f24 0) { env:=[(1,.sl uB wl),(2,.ptr 2 0),(4,.ptr 4 0),(5,.sl syS s),(7,.ptr 7 0),(8,.int .i64 (IntKind.i64.wrap (a+(xO l i).2.2.1))),(9,.int .i64 (IntKind.i64.wrap ((i:Int)+(1:Int))))],blk:=[(2,.var [.bool li,.int .i64 m,.int .i64 o,.sl opS l]),(4,.var [.bool false,.int .i64 0,.int .i64 0,.nils]),(7,.var [.bool li,.int .i64 m,.int .i64 o,.win true opS 100 0 (1:Nat)]),(100,.row 55 opS (([(opK (xO l i).1 (Px.part s (some (IntKind.i64.wrap (a+(cutN l wl i)))) (some (IntKind.i64.wrap (a+(xO l i).2.2.1)))))]:List opS.D)))] }))) ((0:Int)≤(i:Int) ∧
 (i:Int)<(wl.length:Int) ∧
 bc (decide ((128:Int)≤gtB wl i)) (bc (decide ((xO l i).1=(3:Int))) (bc (decide ((0:Int)<(cutN l wl i))) ((0:Int)≤a ∧
 a≤IntKind.i64.wrap (a+(cutN l wl i)) ∧
 IntKind.i64.wrap (a+(cutN l wl i))≤(s.length:Int) ∧
 ctO8.pre ((4:Int),Px.part s (some a) (some (IntKind.i64.wrap (a+(cutN l wl i)))),()) ∧
 0+(1:Nat)≤([(opK (4:Int) (Px.part s (some a) (some (IntKind.i64.wrap (a+(cutN l wl i))))))]:List opS.D).length ∧
 (([(opK (4:Int) (Px.part s (some a) (some (IntKind.i64.wrap (a+(cutN l wl i))))))]:List opS.D)).length<(2:Nat) ^ (30:Nat) ∧
 (56:Nat)≤(2:Nat) ^ (10:Nat) ∧
 (0:Int)≤IntKind.i64.wrap (a+(cutN l wl i)) ∧
 IntKind.i64.wrap (a+(cutN l wl i))≤IntKind.i64.wrap (a+(xO l i).2.2.1) ∧
 IntKind.i64.wrap (a+(xO l i).2.2.1)≤(s.length:Int) ∧
 ctO8.pre ((xO l i).1,Px.part s (some (IntKind.i64.wrap (a+(cutN l wl i)))) (some (IntKind.i64.wrap (a+(xO l i).2.2.1))),()) ∧
 0+(1:Nat)≤([(opK (xO l i).1 (Px.part s (some (IntKind.i64.wrap (a+(cutN l wl i)))) (some (IntKind.i64.wrap (a+(xO l i).2.2.1)))))]:List opS.D).length ∧
 (([(opK (4:Int) (Px.part s (some a) (some (IntKind.i64.wrap (a+(cutN l wl i))))))]:List opS.D)).length=(([(opK (4:Int) (Px.part s (some a) (some (IntKind.i64.wrap (a+(cutN l wl i))))))]:List opS.D)).length ∧
 (0:Nat)=(0:Nat) ∧
 (([(opK (4:Int) (Px.part s (some a) (some (IntKind.i64.wrap (a+(cutN l wl i))))))]:List opS.D)).length+(([(opK (xO l i).1 (Px.part s (some (IntKind.i64.wrap (a+(cutN l wl i)))) (some (IntKind.i64.wrap (a+(xO l i).2.2.1)))))]:List opS.D)).length<(2:Nat) ^ (30:Nat) ∧
 (56:Nat)≤(2:Nat) ^ (10:Nat) ∧
 R (hd Tryd.f24 0) { env:=[(1,.sl uB wl),(2,.ptr 2 0),(4,.ptr 4 0),(5,.sl syS s),(7,.ptr 7 0),(8,.int .i64 (IntKind.i64.wrap (a+(xO l i).2.2.1))),(9,.int .i64 (IntKind.i64.wrap ((i:Int)+(1:Int))))],blk:=[(2,.var [.bool li,.int .i64 m,.int .i64 o,.sl opS l]),(4,.var [.bool false,.int .i64 0,.int .i64 0,.nils]),(7,.var [.bool li,.int .i64 m,.int .i64 o,.win true opS 100 0 (2:Nat)]),(100,.row 55 opS (([(opK (4:Int) (Px.part s (some a) (some (IntKind.i64.wrap (a+(cutN l wl i))))))]:List opS.D)++([(opK (xO l i).1 (Px.part s (some (IntKind.i64.wrap (a+(cutN l wl i)))) (some (IntKind.i64.wrap (a+(xO l i).2.2.1)))))]:List opS.D)))] }) ((0:Int)≤IntKind.i64.wrap (a+(cutN l wl i)) ∧
 IntKind.i64.wrap (a+(cutN l wl i))≤IntKind.i64.wrap (a+(xO l i).2.2.1) ∧
 IntKind.i64.wrap (a+(xO l i).2.2.1)≤(s.length:Int) ∧
 ctO8.pre ((xO l i).1,Px.part s (some (IntKind.i64.wrap (a+(cutN l wl i)))) (some (IntKind.i64.wrap (a+(xO l i).2.2.1))),()) ∧
 0+(1:Nat)≤([(opK (xO l i).1 (Px.part s (some (IntKind.i64.wrap (a+(cutN l wl i)))) (some (IntKind.i64.wrap (a+(xO l i).2.2.1)))))]:List opS.D).length ∧
 (([(opK (xO l i).1 (Px.part s (some (IntKind.i64.wrap (a+(cutN l wl i)))) (some (IntKind.i64.wrap (a+(xO l i).2.2.1)))))]:List opS.D)).length<(2:Nat) ^ (30:Nat) ∧
 (56:Nat)≤(2:Nat) ^ (10:Nat) ∧
 R (hd Tryd.f24 0) { env:=[(1,.sl uB wl),(2,.ptr 2 0),(4,.ptr 4 0),(5,.sl syS s),(7,.ptr 7 0),(8,.int .i64 (IntKind.i64.wrap (a+(xO l i).2.2.1))),(9,.int .i64 (IntKind.i64.wrap ((i:Int)+(1:Int))))],blk:=[(2,.var [.bool li,.int .i64 m,.int .i64 o,.sl opS l]),(4,.var [.bool false,.int .i64 0,.int .i64 0,.nils]),(7,.var [.bool li,.int .i64 m,.int .i64 o,.win true opS 100 0 (1:Nat)]),(100,.row 55 opS (([(opK (xO l i).1 (Px.part s (some (IntKind.i64.wrap (a+(cutN l wl i)))) (some (IntKind.i64.wrap (a+(xO l i).2.2.1)))))]:List opS.D)))] })) (bc (decide ((0:Int)<(cutN l wl i))) ((0:Int)≤a ∧
 a≤IntKind.i64.wrap (a+(cutN l wl i)) ∧
 IntKind.i64.wrap (a+(cutN l wl i))≤(s.length:Int) ∧
 ctO8.pre ((xO l i).1,Px.part s (some a) (some (IntKind.i64.wrap (a+(cutN l wl i)))),()) ∧
 0+(1:Nat)≤([(opK (xO l i).1 (Px.part s (some a) (some (IntKind.i64.wrap (a+(cutN l wl i))))))]:List opS.D).length ∧
 (([(opK (xO l i).1 (Px.part s (some a) (some (IntKind.i64.wrap (a+(cutN l wl i))))))]:List opS.D)).length<(2:Nat) ^ (30:Nat) ∧
 (56:Nat)≤(2:Nat) ^ (10:Nat) ∧
 (0:Int)≤IntKind.i64.wrap (a+(cutN l wl i)) ∧
 IntKind.i64.wrap (a+(cutN l wl i))≤IntKind.i64.wrap (a+(xO l i).2.2.1) ∧
 IntKind.i64.wrap (a+(xO l i).2.2.1)≤(s.length:Int) ∧
 ctO8.pre ((xO l i).1,Px.part s (some (IntKind.i64.wrap (a+(cutN l wl i)))) (some (IntKind.i64.wrap (a+(xO l i).2.2.1))),()) ∧
 0+(1:Nat)≤([(opK (xO l i).1 (Px.part s (some (IntKind.i64.wrap (a+(cutN l wl i)))) (some (IntKind.i64.wrap (a+(xO l i).2.2.1)))))]:List opS.D).length ∧
 (([(opK (xO l i).1 (Px.part s (some a) (some (IntKind.i64.wrap (a+(cutN l wl i))))))]:List opS.D)).length=(([(opK (xO l i).1 (Px.part s (some a) (some (IntKind.i64.wrap (a+(cutN l wl i))))))]:List opS.D)).length ∧
 (0:Nat)=(0:Nat) ∧
 (([(opK (xO l i).1 (Px.part s (some a) (some (IntKind.i64.wrap (a+(cutN l wl i))))))]:List opS.D)).length+(([(opK (xO l i).1 (Px.part s (some (IntKind.i64.wrap (a+(cutN l wl i)))) (some (IntKind.i64.wrap (a+(xO l i).2.2.1)))))]:List opS.D)).length<(2:Nat) ^ (30:Nat) ∧
 (56:Nat)≤(2:Nat) ^ (10:Nat) ∧
 R (hd Tryd.f24 0) { env:=[(1,.sl uB wl),(2,.ptr 2 0),(4,.ptr 4 0),(5,.sl syS s),(7,.ptr 7 0),(8,.int .i64 (IntKind.i64.wrap (a+(xO l i).2.2.1))),(9,.int .i64 (IntKind.i64.wrap ((i:Int)+(1:Int))))],blk:=[(2,.var [.bool li,.int .i64 m,.int .i64 o,.sl opS l]),(4,.var [.bool false,.int .i64 0,.int .i64 0,.nils]),(7,.var [.bool li,.int .i64 m,.int .i64 o,.win true opS 100 0 (2:Nat)]),(100,.row 55 opS (([(opK (xO l i).1 (Px.part s (some a) (some (IntKind.i64.wrap (a+(cutN l wl i))))))]:List opS.D)++([(opK (xO l i).1 (Px.part s (some (IntKind.i64.wrap (a+(cutN l wl i)))) (some (IntKind.i64.wrap (a+(xO l i).2.2.1)))))]:List opS.D)))] }) ((0:Int)≤IntKind.i64.wrap (a+(cutN l wl i)) ∧
 IntKind.i64.wrap (a+(cutN l wl i))≤IntKind.i64.wrap (a+(xO l i).2.2.1) ∧
 IntKind.i64.wrap (a+(xO l i).2.2.1)≤(s.length:Int) ∧
 ctO8.pre ((xO l i).1,Px.part s (some (IntKind.i64.wrap (a+(cutN l wl i)))) (some (IntKind.i64.wrap (a+(xO l i).2.2.1))),()) ∧
 0+(1:Nat)≤([(opK (xO l i).1 (Px.part s (some (IntKind.i64.wrap (a+(cutN l wl i)))) (some (IntKind.i64.wrap (a+(xO l i).2.2.1)))))]:List opS.D).length ∧
 (([(opK (xO l i).1 (Px.part s (some (IntKind.i64.wrap (a+(cutN l wl i)))) (some (IntKind.i64.wrap (a+(xO l i).2.2.1)))))]:List opS.D)).length<(2:Nat) ^ (30:Nat) ∧
 (56:Nat)≤(2:Nat) ^ (10:Nat) ∧
 R (hd Tryd.f24 0) { env:=[(1,.sl uB wl),(2,.ptr 2 0),(4,.ptr 4 0),(5,.sl syS s),(7,.ptr 7 0),(8,.int .i64 (IntKind.i64.wrap (a+(xO l i).2.2.1))),(9,.int .i64 (IntKind.i64.wrap ((i:Int)+(1:Int))))],blk:=[(2,.var [.bool li,.int .i64 m,.int .i64 o,.sl opS l]),(4,.var [.bool false,.int .i64 0,.int .i64 0,.nils]),(7,.var [.bool li,.int .i64 m,.int .i64 o,.win true opS 100 0 (1:Nat)]),(100,.row 55 opS (([(opK (xO l i).1 (Px.part s (some (IntKind.i64.wrap (a+(cutN l wl i)))) (some (IntKind.i64.wrap (a+(xO l i).2.2.1)))))]:List opS.D)))] }))) (false=false ∧
 bc (decide ((0:Int)<(cutN l wl i))) ((0:Int)≤a ∧
 a≤IntKind.i64.wrap (a+(cutN l wl i)) ∧
 IntKind.i64.wrap (a+(cutN l wl i))≤(s.length:Int) ∧
 ctO8.pre ((xO l i).1,Px.part s (some a) (some (IntKind.i64.wrap (a+(cutN l wl i)))),()) ∧
 0+(1:Nat)≤([(opK (xO l i).1 (Px.part s (some a) (some (IntKind.i64.wrap (a+(cutN l wl i))))))]:List opS.D).length ∧
 (([(opK (xO l i).1 (Px.part s (some a) (some (IntKind.i64.wrap (a+(cutN l wl i))))))]:List opS.D)).length<(2:Nat) ^ (30:Nat) ∧
 (56:Nat)≤(2:Nat) ^ (10:Nat) ∧
 (0:Int)≤IntKind.i64.wrap (a+(cutN l wl i)) ∧
 IntKind.i64.wrap (a+(cutN l wl i))≤IntKind.i64.wrap (a+(xO l i).2.2.1) ∧
 IntKind.i64.wrap (a+(xO l i).2.2.1)≤(s.length:Int) ∧
 ctO8.pre ((xO l i).1,Px.part s (some (IntKind.i64.wrap (a+(cutN l wl i)))) (some (IntKind.i64.wrap (a+(xO l i).2.2.1))),()) ∧
 0+(1:Nat)≤([(opK (xO l i).1 (Px.part s (some (IntKind.i64.wrap (a+(cutN l wl i)))) (some (IntKind.i64.wrap (a+(xO l i).2.2.1)))))]:List opS.D).length ∧
 (([(opK (xO l i).1 (Px.part s (some a) (some (IntKind.i64.wrap (a+(cutN l wl i))))))]:List opS.D)).length=(([(opK (xO l i).1 (Px.part s (some a) (some (IntKind.i64.wrap (a+(cutN l wl i))))))]:List opS.D)).length ∧
 (0:Nat)=(0:Nat) ∧
 (([(opK (xO l i).1 (Px.part s (some a) (some (IntKind.i64.wrap (a+(cutN l wl i))))))]:List opS.D)).length+(([(opK (xO l i).1 (Px.part s (some (IntKind.i64.wrap (a+(cutN l wl i)))) (some (IntKind.i64.wrap (a+(xO l i).2.2.1)))))]:List opS.D)).length<(2:Nat) ^ (30:Nat) ∧
 (56:Nat)≤(2:Nat) ^ (10:Nat) ∧
 R (hd Tryd.f24 0) { env:=[(1,.sl uB wl),(2,.ptr 2 0),(4,.ptr 4 0),(5,.sl syS s),(7,.ptr 7 0),(8,.int .i64 (IntKind.i64.wrap (a+(xO l i).2.2.1))),(9,.int .i64 (IntKind.i64.wrap ((i:Int)+(1:Int))))],blk:=[(2,.var [.bool li,.int .i64 m,.int .i64 o,.sl opS l]),(4,.var [.bool false,.int .i64 0,.int .i64 0,.nils]),(7,.var [.bool li,.int .i64 m,.int .i64 o,.win true opS 100 0 (2:Nat)]),(100,.row 55 opS (([(opK (xO l i).1 (Px.part s (some a) (some (IntKind.i64.wrap (a+(cutN l wl i))))))]:List opS.D)++([(opK (xO l i).1 (Px.part s (some (IntKind.i64.wrap (a+(cutN l wl i)))) (some (IntKind.i64.wrap (a+(xO l i).2.2.1)))))]:List opS.D)))] }) ((0:Int)≤IntKind.i64.wrap (a+(cutN l wl i)) ∧
 IntKind.i64.wrap (a+(cutN l wl i))≤IntKind.i64.wrap (a+(xO l i).2.2.1) ∧
 IntKind.i64.wrap (a+(xO l i).2.2.1)≤(s.length:Int) ∧
 ctO8.pre ((xO l i).1,Px.part s (some (IntKind.i64.wrap (a+(cutN l wl i)))) (some (IntKind.i64.wrap (a+(xO l i).2.2.1))),()) ∧
 0+(1:Nat)≤([(opK (xO l i).1 (Px.part s (some (IntKind.i64.wrap (a+(cutN l wl i)))) (some (IntKind.i64.wrap (a+(xO l i).2.2.1)))))]:List opS.D).length ∧
 (([(opK (xO l i).1 (Px.part s (some (IntKind.i64.wrap (a+(cutN l wl i)))) (some (IntKind.i64.wrap (a+(xO l i).2.2.1)))))]:List opS.D)).length<(2:Nat) ^ (30:Nat) ∧
 (56:Nat)≤(2:Nat) ^ (10:Nat) ∧
 R (hd Tryd.f24 0) { env:=[(1,.sl uB wl),(2,.ptr 2 0),(4,.ptr 4 0),(5,.sl syS s),(7,.ptr 7 0),(8,.int .i64 (IntKind.i64.wrap (a+(xO l i).2.2.1))),(9,.int .i64 (IntKind.i64.wrap ((i:Int)+(1:Int))))],blk:=[(2,.var [.bool li,.int .i64 m,.int .i64 o,.sl opS l]),(4,.var [.bool false,.int .i64 0,.int .i64 0,.nils]),(7,.var [.bool li,.int .i64 m,.int .i64 o,.win true opS 100 0 (1:Nat)]),(100,.row 55 opS (([(opK (xO l i).1 (Px.part s (some (IntKind.i64.wrap (a+(cutN l wl i)))) (some (IntKind.i64.wrap (a+(xO l i).2.2.1)))))]:List opS.D)))] })))) (false=false ∧
 (0:Int)≤(i:Int) ∧
 (i:Int)<(wl.length:Int) ∧
 bc (decide ((128:Int)≤gtB wl i)) (bc (decide ((xO l i).1=(3:Int))) (bc (decide ((0:Int)<(cutN l wl i))) ((0:Int)≤a ∧
 a≤IntKind.i64.wrap (a+(cutN l wl i)) ∧
 IntKind.i64.wrap (a+(cutN l wl i))≤(s.length:Int) ∧
 ctO8.pre ((4:Int),Px.part s (some a) (some (IntKind.i64.wrap (a+(cutN l wl i)))),()) ∧
 0+(1:Nat)≤([(opK (4:Int) (Px.part s (some a) (some (IntKind.i64.wrap (a+(cutN l wl i))))))]:List opS.D).length ∧
 (([(opK (4:Int) (Px.part s (some a) (some (IntKind.i64.wrap (a+(cutN l wl i))))))]:List opS.D)).length<(2:Nat) ^ (30:Nat) ∧
 (56:Nat)≤(2:Nat) ^ (10:Nat) ∧
 (0:Int)≤IntKind.i64.wrap (a+(cutN l wl i)) ∧
 IntKind.i64.wrap (a+(cutN l wl i))≤IntKind.i64.wrap (a+(xO l i).2.2.1) ∧
 IntKind.i64.wrap (a+(xO l i).2.2.1)≤(s.length:Int) ∧
 ctO8.pre ((xO l i).1,Px.part s (some (IntKind.i64.wrap (a+(cutN l wl i)))) (some (IntKind.i64.wrap (a+(xO l i).2.2.1))),()) ∧
 0+(1:Nat)≤([(opK (xO l i).1 (Px.part s (some (IntKind.i64.wrap (a+(cutN l wl i)))) (some (IntKind.i64.wrap (a+(xO l i).2.2.1)))))]:List opS.D).length ∧
 (([(opK (4:Int) (Px.part s (some a) (some (IntKind.i64.wrap (a+(cutN l wl i))))))]:List opS.D)).length=(([(opK (4:Int) (Px.part s (some a) (some (IntKind.i64.wrap (a+(cutN l wl i))))))]:List opS.D)).length ∧
 (0:Nat)=(0:Nat) ∧
 (([(opK (4:Int) (Px.part s (some a) (some (IntKind.i64.wrap (a+(cutN l wl i))))))]:List opS.D)).length+(([(opK (xO l i).1 (Px.part s (some (IntKind.i64.wrap (a+(cutN l wl i)))) (some (IntKind.i64.wrap (a+(xO l i).2.2.1)))))]:List opS.D)).length<(2:Nat) ^ (30:Nat) ∧
 (56:Nat)≤(2:Nat) ^ (10:Nat) ∧
 R (hd Tryd.f24 0) { env:=[(1,.sl uB wl),(2,.ptr 2 0),(4,.ptr 4 0),(5,.sl syS s),(7,.ptr 7 0),(8,.int .i64 (IntKind.i64.wrap (a+(xO l i).2.2.1))),(9,.int .i64 (IntKind.i64.wrap ((i:Int)+(1:Int))))],blk:=[(2,.var [.bool li,.int .i64 m,.int .i64 o,.sl opS l]),(4,.var [.bool false,.int .i64 0,.int .i64 0,.nils]),(7,.var [.bool li,.int .i64 m,.int .i64 o,.win true opS 100 0 (2:Nat)]),(100,.row 55 opS (([(opK (4:Int) (Px.part s (some a) (some (IntKind.i64.wrap (a+(cutN l wl i))))))]:List opS.D)++([(opK (xO l i).1 (Px.part s (some (IntKind.i64.wrap (a+(cutN l wl i)))) (some (IntKind.i64.wrap (a+(xO l i).2.2.1)))))]:List opS.D)))] }) ((0:Int)≤IntKind.i64.wrap (a+(cutN l wl i)) ∧
 IntKind.i64.wrap (a+(cutN l wl i))≤IntKind.i64.wrap (a+(xO l i).2.2.1) ∧
 IntKind.i64.wrap (a+(xO l i).2.2.1)≤(s.length:Int) ∧
 ctO8.pre ((xO l i).1,Px.part s (some (IntKind.i64.wrap (a+(cutN l wl i)))) (some (IntKind.i64.wrap (a+(xO l i).2.2.1))),()) ∧
 0+(1:Nat)≤([(opK (xO l i).1 (Px.part s (some (IntKind.i64.wrap (a+(cutN l wl i)))) (some (IntKind.i64.wrap (a+(xO l i).2.2.1)))))]:List opS.D).length ∧
 (([(opK (xO l i).1 (Px.part s (some (IntKind.i64.wrap (a+(cutN l wl i)))) (some (IntKind.i64.wrap (a+(xO l i).2.2.1)))))]:List opS.D)).length<(2:Nat) ^ (30:Nat) ∧
 (56:Nat)≤(2:Nat) ^ (10:Nat) ∧
 R (hd Tryd.f24 0) { env:=[(1,.sl uB wl),(2,.ptr 2 0),(4,.ptr 4 0),(5,.sl syS s),(7,.ptr 7 0),(8,.int .i64 (IntKind.i64.wrap (a+(xO l i).2.2.1))),(9,.int .i64 (IntKind.i64.wrap ((i:Int)+(1:Int))))],blk:=[(2,.var [.bool li,.int .i64 m,.int .i64 o,.sl opS l]),(4,.var [.bool false,.int .i64 0,.int .i64 0,.nils]),(7,.var [.bool li,.int .i64 m,.int .i64 o,.win true opS 100 0 (1:Nat)]),(100,.row 55 opS (([(opK (xO l i).1 (Px.part s (some (IntKind.i64.wrap (a+(cutN l wl i)))) (some (IntKind.i64.wrap (a+(xO l i).2.2.1)))))]:List opS.D)))] })) (bc (decide ((0:Int)<(cutN l wl i))) ((0:Int)≤a ∧
 a≤IntKind.i64.wrap (a+(cutN l wl i)) ∧
 IntKind.i64.wrap (a+(cutN l wl i))≤(s.length:Int) ∧
 ctO8.pre ((xO l i).1,Px.part s (some a) (some (IntKind.i64.wrap (a+(cutN l wl i)))),()) ∧
 0+(1:Nat)≤([(opK (xO l i).1 (Px.part s (some a) (some (IntKind.i64.wrap (a+(cutN l wl i))))))]:List opS.D).length ∧
 (([(opK (xO l i).1 (Px.part s (some a) (some (IntKind.i64.wrap (a+(cutN l wl i))))))]:List opS.D)).length<(2:Nat) ^ (30:Nat) ∧
 (56:Nat)≤(2:Nat) ^ (10:Nat) ∧
 (0:Int)≤IntKind.i64.wrap (a+(cutN l wl i)) ∧
 IntKind.i64.wrap (a+(cutN l wl i))≤IntKind.i64.wrap (a+(xO l i).2.2.1) ∧
 IntKind.i64.wrap (a+(xO l i).2.2.1)≤(s.length:Int) ∧
 ctO8.pre ((xO l i).1,Px.part s (some (IntKind.i64.wrap (a+(cutN l wl i)))) (some (IntKind.i64.wrap (a+(xO l i).2.2.1))),()) ∧
 0+(1:Nat)≤([(opK (xO l i).1 (Px.part s (some (IntKind.i64.wrap (a+(cutN l wl i)))) (some (IntKind.i64.wrap (a+(xO l i).2.2.1)))))]:List opS.D).length ∧
 (([(opK (xO l i).1 (Px.part s (some a) (some (IntKind.i64.wrap (a+(cutN l wl i))))))]:List opS.D)).length=(([(opK (xO l i).1 (Px.part s (some a) (some (IntKind.i64.wrap (a+(cutN l wl i))))))]:List opS.D)).length ∧
 (0:Nat)=(0:Nat) ∧
 (([(opK (xO l i).1 (Px.part s (some a) (some (IntKind.i64.wrap (a+(cutN l wl i))))))]:List opS.D)).length+(([(opK (xO l i).1 (Px.part s (some (IntKind.i64.wrap (a+(cutN l wl i)))) (some (IntKind.i64.wrap (a+(xO l i).2.2.1)))))]:List opS.D)).length<(2:Nat) ^ (30:Nat) ∧
 (56:Nat)≤(2:Nat) ^ (10:Nat) ∧
 R (hd Tryd.f24 0) { env:=[(1,.sl uB wl),(2,.ptr 2 0),(4,.ptr 4 0),(5,.sl syS s),(7,.ptr 7 0),(8,.int .i64 (IntKind.i64.wrap (a+(xO l i).2.2.1))),(9,.int .i64 (IntKind.i64.wrap ((i:Int)+(1:Int))))],blk:=[(2,.var [.bool li,.int .i64 m,.int .i64 o,.sl opS l]),(4,.var [.bool false,.int .i64 0,.int .i64 0,.nils]),(7,.var [.bool li,.int .i64 m,.int .i64 o,.win true opS 100 0 (2:Nat)]),(100,.row 55 opS (([(opK (xO l i).1 (Px.part s (some a) (some (IntKind.i64.wrap (a+(cutN l wl i))))))]:List opS.D)++([(opK (xO l i).1 (Px.part s (some (IntKind.i64.wrap (a+(cutN l wl i)))) (some (IntKind.i64.wrap (a+(xO l i).2.2.1)))))]:List opS.D)))] }) ((0:Int)≤IntKind.i64.wrap (a+(cutN l wl i)) ∧
 IntKind.i64.wrap (a+(cutN l wl i))≤IntKind.i64.wrap (a+(xO l i).2.2.1) ∧
 IntKind.i64.wrap (a+(xO l i).2.2.1)≤(s.length:Int) ∧
 ctO8.pre ((xO l i).1,Px.part s (some (IntKind.i64.wrap (a+(cutN l wl i)))) (some (IntKind.i64.wrap (a+(xO l i).2.2.1))),()) ∧
 0+(1:Nat)≤([(opK (xO l i).1 (Px.part s (some (IntKind.i64.wrap (a+(cutN l wl i)))) (some (IntKind.i64.wrap (a+(xO l i).2.2.1)))))]:List opS.D).length ∧
 (([(opK (xO l i).1 (Px.part s (some (IntKind.i64.wrap (a+(cutN l wl i)))) (some (IntKind.i64.wrap (a+(xO l i).2.2.1)))))]:List opS.D)).length<(2:Nat) ^ (30:Nat) ∧
 (56:Nat)≤(2:Nat) ^ (10:Nat) ∧
 R (hd Tryd.f24 0) { env:=[(1,.sl uB wl),(2,.ptr 2 0),(4,.ptr 4 0),(5,.sl syS s),(7,.ptr 7 0),(8,.int .i64 (IntKind.i64.wrap (a+(xO l i).2.2.1))),(9,.int .i64 (IntKind.i64.wrap ((i:Int)+(1:Int))))],blk:=[(2,.var [.bool li,.int .i64 m,.int .i64 o,.sl opS l]),(4,.var [.bool false,.int .i64 0,.int .i64 0,.nils]),(7,.var [.bool li,.int .i64 m,.int .i64 o,.win true opS 100 0 (1:Nat)]),(100,.row 55 opS (([(opK (xO l i).1 (Px.part s (some (IntKind.i64.wrap (a+(cutN l wl i)))) (some (IntKind.i64.wrap (a+(xO l i).2.2.1)))))]:List opS.D)))] }))) (false=false ∧
 bc (decide ((0:Int)<(cutN l wl i))) ((0:Int)≤a ∧
 a≤IntKind.i64.wrap (a+(cutN l wl i)) ∧
 IntKind.i64.wrap (a+(cutN l wl i))≤(s.length:Int) ∧
 ctO8.pre ((xO l i).1,Px.part s (some a) (some (IntKind.i64.wrap (a+(cutN l wl i)))),()) ∧
 0+(1:Nat)≤([(opK (xO l i).1 (Px.part s (some a) (some (IntKind.i64.wrap (a+(cutN l wl i))))))]:List opS.D).length ∧
 (([(opK (xO l i).1 (Px.part s (some a) (some (IntKind.i64.wrap (a+(cutN l wl i))))))]:List opS.D)).length<(2:Nat) ^ (30:Nat) ∧
 (56:Nat)≤(2:Nat) ^ (10:Nat) ∧
 (0:Int)≤IntKind.i64.wrap (a+(cutN l wl i)) ∧
 IntKind.i64.wrap (a+(cutN l wl i))≤IntKind.i64.wrap (a+(xO l i).2.2.1) ∧
 IntKind.i64.wrap (a+(xO l i).2.2.1)≤(s.length:Int) ∧
 ctO8.pre ((xO l i).1,Px.part s (some (IntKind.i64.wrap (a+(cutN l wl i)))) (some (IntKind.i64.wrap (a+(xO l i).2.2.1))),()) ∧
 0+(1:Nat)≤([(opK (xO l i).1 (Px.part s (some (IntKind.i64.wrap (a+(cutN l wl i)))) (some (IntKind.i64.wrap (a+(xO l i).2.2.1)))))]:List opS.D).length ∧
 (([(opK (xO l i).1 (Px.part s (some a) (some (IntKind.i64.wrap (a+(cutN l wl i))))))]:List opS.D)).length=(([(opK (xO l i).1 (Px.part s (some a) (some (IntKind.i64.wrap (a+(cutN l wl i))))))]:List opS.D)).length ∧
 (0:Nat)=(0:Nat) ∧
 (([(opK (xO l i).1 (Px.part s (some a) (some (IntKind.i64.wrap (a+(cutN l wl i))))))]:List opS.D)).length+(([(opK (xO l i).1 (Px.part s (some (IntKind.i64.wrap (a+(cutN l wl i)))) (some (IntKind.i64.wrap (a+(xO l i).2.2.1)))))]:List opS.D)).length<(2:Nat) ^ (30:Nat) ∧
 (56:Nat)≤(2:Nat) ^ (10:Nat) ∧
 R (hd Tryd.f24 0) { env:=[(1,.sl uB wl),(2,.ptr 2 0),(4,.ptr 4 0),(5,.sl syS s),(7,.ptr 7 0),(8,.int .i64 (IntKind.i64.wrap (a+(xO l i).2.2.1))),(9,.int .i64 (IntKind.i64.wrap ((i:Int)+(1:Int))))],blk:=[(2,.var [.bool li,.int .i64 m,.int .i64 o,.sl opS l]),(4,.var [.bool false,.int .i64 0,.int .i64 0,.nils]),(7,.var [.bool li,.int .i64 m,.int .i64 o,.win true opS 100 0 (2:Nat)]),(100,.row 55 opS (([(opK (xO l i).1 (Px.part s (some a) (some (IntKind.i64.wrap (a+(cutN l wl i))))))]:List opS.D)++([(opK (xO l i).1 (Px.part s (some (IntKind.i64.wrap (a+(cutN l wl i)))) (some (IntKind.i64.wrap (a+(xO l i).2.2.1)))))]:List opS.D)))] }) ((0:Int)≤IntKind.i64.wrap (a+(cutN l wl i)) ∧
 IntKind.i64.wrap (a+(cutN l wl i))≤IntKind.i64.wrap (a+(xO l i).2.2.1) ∧
 IntKind.i64.wrap (a+(xO l i).2.2.1)≤(s.length:Int) ∧
 ctO8.pre ((xO l i).1,Px.part s (some (IntKind.i64.wrap (a+(cutN l wl i)))) (some (IntKind.i64.wrap (a+(xO l i).2.2.1))),()) ∧
 0+(1:Nat)≤([(opK (xO l i).1 (Px.part s (some (IntKind.i64.wrap (a+(cutN l wl i)))) (some (IntKind.i64.wrap (a+(xO l i).2.2.1)))))]:List opS.D).length ∧
 (([(opK (xO l i).1 (Px.part s (some (IntKind.i64.wrap (a+(cutN l wl i)))) (some (IntKind.i64.wrap (a+(xO l i).2.2.1)))))]:List opS.D)).length<(2:Nat) ^ (30:Nat) ∧
 (56:Nat)≤(2:Nat) ^ (10:Nat) ∧
 R (hd Tryd.f24 0) { env:=[(1,.sl uB wl),(2,.ptr 2 0),(4,.ptr 4 0),(5,.sl syS s),(7,.ptr 7 0),(8,.int .i64 (IntKind.i64.wrap (a+(xO l i).2.2.1))),(9,.int .i64 (IntKind.i64.wrap ((i:Int)+(1:Int))))],blk:=[(2,.var [.bool li,.int .i64 m,.int .i64 o,.sl opS l]),(4,.var [.bool false,.int .i64 0,.int .i64 0,.nils]),(7,.var [.bool li,.int .i64 m,.int .i64 o,.win true opS 100 0 (1:Nat)]),(100,.row 55 opS (([(opK (xO l i).1 (Px.part s (some (IntKind.i64.wrap (a+(cutN l wl i)))) (some (IntKind.i64.wrap (a+(xO l i).2.2.1)))))]:List opS.D)))] })))) ((0:Int)≤IntKind.i64.wrap (a+(0:Int)) ∧
 IntKind.i64.wrap (a+(0:Int))≤IntKind.i64.wrap (a+(xO l i).2.2.1) ∧
 IntKind.i64.wrap (a+(xO l i).2.2.1)≤(s.length:Int) ∧
 ctO8.pre ((xO l i).1,Px.part s (some (IntKind.i64.wrap (a+(0:Int)))) (some (IntKind.i64.wrap (a+(xO l i).2.2.1))),()) ∧
 0+(1:Nat)≤([(opK (xO l i).1 (Px.part s (some (IntKind.i64.wrap (a+(0:Int)))) (some (IntKind.i64.wrap (a+(xO l i).2.2.1)))))]:List opS.D).length ∧
 (([(opK (xO l i).1 (Px.part s (some (IntKind.i64.wrap (a+(0:Int)))) (some (IntKind.i64.wrap (a+(xO l i).2.2.1)))))]:List opS.D)).length<(2:Nat) ^ (30:Nat) ∧
 (56:Nat)≤(2:Nat) ^ (10:Nat) ∧
 R (hd Tryd.f24 0) { env:=[(1,.sl uB wl),(2,.ptr 2 0),(4,.ptr 4 0),(5,.sl syS s),(7,.ptr 7 0),(8,.int .i64 (IntKind.i64.wrap (a+(xO l i).2.2.1))),(9,.int .i64 (IntKind.i64.wrap ((i:Int)+(1:Int))))],blk:=[(2,.var [.bool li,.int .i64 m,.int .i64 o,.sl opS l]),(4,.var [.bool false,.int .i64 0,.int .i64 0,.nils]),(7,.var [.bool li,.int .i64 m,.int .i64 o,.win true opS 100 0 (1:Nat)]),(100,.row 55 opS (([(opK (xO l i).1 (Px.part s (some (IntKind.i64.wrap (a+(0:Int)))) (some (IntKind.i64.wrap (a+(xO l i).2.2.1)))))]:List opS.D)))] })) (Q [.agg [.bool li,.int .i64 m,.int .i64 o,.nils]] [(2,.var [.bool li,.int .i64 m,.int .i64 o,.sl opS l]),(4,.var [.bool li,.int .i64 m,.int .i64 o,.nils]),(7,.var [.bool li,.int .i64 m,.int .i64 o,.nils])])):=by kernel_rfl
theorem vc_ctE (li:Bool) (m o:Int) (l:List OpT) (wl:List Int) (s:List SyT) (q:List OpT) (a:Int) (i:Nat) (Q:QT) (R:RT):sy tt G0 CCt Tryd.f24.ntmps Tryd.f24.results.toList Q (fun it S=>R it (keepS [1,2,4,5,7,8,9] [2,4,7,83,100] S)) 1000 (hd Tryd.f24 0) ⟨[(1,.sl uB wl),(2,.ptr 2 0),(4,.ptr 4 0),(7,.ptr 7 0),(8,.int .i64 a),(9,.int .i64 (i:Nat))],[(2,.var [.bool li,.int .i64 m,.int .i64 o,.sl opS l]),(4,.var [.bool false,.int .i64 0,.int .i64 0,.nils]),(7,.var [.bool li,.int .i64 m,.int .i64 o,.sl opS q])]⟩ =
  (bc (decide ((i:Int)<(l.length:Int))) ((0:Int)≤(i:Int) ∧
 (i:Int)<(l.length:Int) ∧
 bc (decide ((i:Int)<(wl.length:Int))) ((0:Int)≤(i:Int) ∧
 (i:Int)<(wl.length:Int) ∧
 (64:Int)≠(0:Int) ∧
 (xO l i).2.2.1≠(0:Int) ∧
 (0:Int)≤(i:Int) ∧
 (i:Int)<(wl.length:Int) ∧
 bc (decide ((128:Int)≤gtB wl i)) (bc (decide ((xO l i).1=(1:Int))) ((0:Int)≤(i:Int) ∧
 (i:Int)<(wl.length:Int) ∧
 bc (decide ((128:Int)≤gtB wl i)) (bc (decide ((0:Int)<(cutN l wl i))) False False) (false=false ∧
 bc (decide ((0:Int)<(cutN l wl i))) False False)) ((0:Int)≤(i:Int) ∧
 (i:Int)<(wl.length:Int) ∧
 bc (decide ((128:Int)≤gtB wl i)) (bc (decide ((xO l i).1=(3:Int))) (bc (decide ((0:Int)<(cutN l wl i))) False False) (bc (decide ((0:Int)<(cutN l wl i))) False False)) (false=false ∧
 bc (decide ((0:Int)<(cutN l wl i))) False False))) (false=false ∧
 (0:Int)≤(i:Int) ∧
 (i:Int)<(wl.length:Int) ∧
 bc (decide ((128:Int)≤gtB wl i)) (bc (decide ((xO l i).1=(3:Int))) (bc (decide ((0:Int)<(cutN l wl i))) False False) (bc (decide ((0:Int)<(cutN l wl i))) False False)) (false=false ∧
 bc (decide ((0:Int)<(cutN l wl i))) False False))) False) (Q [.agg [.bool li,.int .i64 m,.int .i64 o,.sl opS q]] [(2,.var [.bool li,.int .i64 m,.int .i64 o,.sl opS l]),(4,.var [.bool li,.int .i64 m,.int .i64 o,.sl opS q]),(7,.var [.bool li,.int .i64 m,.int .i64 o,.sl opS q])])):=by kernel_rfl
end Go.Proofs.YtkiicobbnllpkaaDoor
