/-
  A part of the proof: what pieces of the program give; conditions: those of each theorem.
-/
import Derived.Test.YtkiicobbnllpkaaDoorQ2
import Derived.Test.YtkiicobbnllpkaaDoorHD
import Derived.KernelRfl
set_option linter.unusedVariables false
set_option linter.unusedSimpArgs false
namespace Go.Proofs.YtkiicobbnllpkaaDoor
open Go.Px Go.Ax
set_option maxRecDepth 100000
def CSn:CV:=[(25,.inl ctOld),(29,.inl ctLit),(28,.inl ctFm),(15,.inl ctCp),(13,.inl ctFo),(17,.inl ctSm),(18,.inl ctSa)]
theorem cxSn:CxOK Tryd.prog tt G0 CSn:=((((((cx0.cons sa_held (fn:=Tryd.f18) rfl rfl rfl).cons sm_held (fn:=Tryd.f17) rfl rfl rfl).cons fo_held (fn:=Tryd.f13) rfl rfl rfl).cons cp_held (fn:=Tryd.f15) rfl rfl rfl).cons fm_held (fn:=Tryd.f28) rfl rfl rfl).cons lit_held (fn:=Tryd.f29) rfl rfl rfl).cons old_held (fn:=Tryd.f25) rfl rfl rfl
set_option maxRecDepth 100000
theorem vc_san  (Q:QT) (R:RT):sy tt G0 CSn Tryd.f10.ntmps Tryd.f10.results.toList Q R 1000 [.code (bodyOf Tryd.f10)] (entry [] ()) =
  (ctOld.pre ((0:Int),(0:Int),()) ∧
 ctOld.pre ((1:Int),(0:Int),()) ∧
 ctOld.pre ((2:Int),(0:Int),()) ∧
 0+(3:Nat)≤((((List.replicate (3:Nat) syS.dflt).set (0:Nat) (true,(0:Int),(0:Int))).set (1:Nat) (true,(1:Int),(0:Int))).set (2:Nat) (true,(2:Int),(0:Int))).length ∧
 0+(1:Nat)≤([((1:Int),(0:Int),(3:Int),(0:Int),[])]:List opS.D).length ∧
 ctFm.pre (winL syS (0:Nat) (3:Nat) ((((List.replicate (3:Nat) syS.dflt).set (0:Nat) (true,(0:Int),(0:Int))).set (1:Nat) (true,(1:Int),(0:Int))).set (2:Nat) (true,(2:Int),(0:Int))),([((1:Int),(0:Int),(3:Int),(0:Int),[])]:List opS.D),()) ∧
 ctOld.pre ((0:Int),(0:Int),()) ∧
 ctOld.pre ((1:Int),(1:Int),()) ∧
 ctOld.pre ((2:Int),(0:Int),()) ∧
 0+(3:Nat)≤((((List.replicate (3:Nat) uB.dflt).set (0:Nat) (0:Int)).set (1:Nat) (1:Int)).set (2:Nat) (0:Int)).length ∧
 0+(3:Nat)≤((((List.replicate (3:Nat) uB.dflt).set (0:Nat) (0:Int)).set (1:Nat) (1:Int)).set (2:Nat) (0:Int)).length ∧
 0+(3:Nat)≤((((List.replicate (3:Nat) syS.dflt).set (0:Nat) (true,(0:Int),(0:Int))).set (1:Nat) (true,(1:Int),(1:Int))).set (2:Nat) (true,(2:Int),(0:Int))).length ∧
 0+(1:Nat)≤([((2:Int),(0:Int),(3:Int),(0:Int),winL uB (0:Nat) (3:Nat) ((((List.replicate (3:Nat) uB.dflt).set (0:Nat) (0:Int)).set (1:Nat) (1:Int)).set (2:Nat) (0:Int)))]:List opS.D).length ∧
 ctFm.pre (winL syS (0:Nat) (3:Nat) ((((List.replicate (3:Nat) syS.dflt).set (0:Nat) (true,(0:Int),(0:Int))).set (1:Nat) (true,(1:Int),(1:Int))).set (2:Nat) (true,(2:Int),(0:Int))),([((2:Int),(0:Int),(3:Int),(0:Int),winL uB (0:Nat) (3:Nat) ((((List.replicate (3:Nat) uB.dflt).set (0:Nat) (0:Int)).set (1:Nat) (1:Int)).set (2:Nat) (0:Int)))]:List opS.D),()) ∧
 0+(1:Nat)≤([(5:Int)]:List uB.D).length ∧
 ctLit.pre (([(5:Int)]:List uB.D),()) ∧
 0+(1:Nat)≤([(5:Int)]:List uB.D).length ∧
 0+(1:Nat)≤([(5:Int)]:List uB.D).length ∧
 0+(litL (([(5:Int)]:List uB.D))).length≤(litL (([(5:Int)]:List uB.D))).length ∧
 0+(1:Nat)≤([((4:Int),(0:Int),(1:Int),(0:Int),([(5:Int)]:List uB.D))]:List opS.D).length ∧
 ctFm.pre (winL syS 0 (litL (([(5:Int)]:List uB.D))).length (litL (([(5:Int)]:List uB.D))),([((4:Int),(0:Int),(1:Int),(0:Int),winL uB (0:Nat) (1:Nat) ([(5:Int)]:List uB.D))]:List opS.D),()) ∧
 0+(2:Nat)≤(((List.replicate (2:Nat) uB.dflt).set (0:Nat) (5:Int)).set (1:Nat) (5:Int)).length ∧
 ctLit.pre (winL uB (0:Nat) (2:Nat) (((List.replicate (2:Nat) uB.dflt).set (0:Nat) (5:Int)).set (1:Nat) (5:Int)),()) ∧
 0+(litL (winL uB (0:Nat) (2:Nat) (((List.replicate (2:Nat) uB.dflt).set (0:Nat) (5:Int)).set (1:Nat) (5:Int)))).length≤(litL (winL uB (0:Nat) (2:Nat) (((List.replicate (2:Nat) uB.dflt).set (0:Nat) (5:Int)).set (1:Nat) (5:Int)))).length ∧
 0+(1:Nat)≤([((3:Int),(0:Int),(2:Int),(5:Int),[])]:List opS.D).length ∧
 ctFm.pre (winL syS 0 (litL (winL uB (0:Nat) (2:Nat) (((List.replicate (2:Nat) uB.dflt).set (0:Nat) (5:Int)).set (1:Nat) (5:Int)))).length (litL (winL uB (0:Nat) (2:Nat) (((List.replicate (2:Nat) uB.dflt).set (0:Nat) (5:Int)).set (1:Nat) (5:Int)))),([((3:Int),(0:Int),(2:Int),(5:Int),[])]:List opS.D),()) ∧
 0+(6:Nat)≤(((((((List.replicate (6:Nat) uB.dflt).set (0:Nat) (1:Int)).set (1:Nat) (7:Int)).set (2:Nat) (7:Int)).set (3:Nat) (7:Int)).set (4:Nat) (7:Int)).set (5:Nat) (2:Int)).length ∧
 ctLit.pre (winL uB (0:Nat) (6:Nat) (((((((List.replicate (6:Nat) uB.dflt).set (0:Nat) (1:Int)).set (1:Nat) (7:Int)).set (2:Nat) (7:Int)).set (3:Nat) (7:Int)).set (4:Nat) (7:Int)).set (5:Nat) (2:Int)),()) ∧
 0+(6:Nat)≤(((((((List.replicate (6:Nat) uB.dflt).set (0:Nat) (1:Int)).set (1:Nat) (7:Int)).set (2:Nat) (7:Int)).set (3:Nat) (7:Int)).set (4:Nat) (7:Int)).set (5:Nat) (2:Int)).length ∧
 0+(6:Nat)≤(((((((List.replicate (6:Nat) uB.dflt).set (0:Nat) (1:Int)).set (1:Nat) (7:Int)).set (2:Nat) (7:Int)).set (3:Nat) (7:Int)).set (4:Nat) (7:Int)).set (5:Nat) (2:Int)).length ∧
 0+(litL (winL uB (0:Nat) (6:Nat) (((((((List.replicate (6:Nat) uB.dflt).set (0:Nat) (1:Int)).set (1:Nat) (7:Int)).set (2:Nat) (7:Int)).set (3:Nat) (7:Int)).set (4:Nat) (7:Int)).set (5:Nat) (2:Int)))).length≤(litL (winL uB (0:Nat) (6:Nat) (((((((List.replicate (6:Nat) uB.dflt).set (0:Nat) (1:Int)).set (1:Nat) (7:Int)).set (2:Nat) (7:Int)).set (3:Nat) (7:Int)).set (4:Nat) (7:Int)).set (5:Nat) (2:Int)))).length ∧
 0+(1:Nat)≤([((4:Int),(0:Int),(6:Int),(0:Int),winL uB (0:Nat) (6:Nat) (((((((List.replicate (6:Nat) uB.dflt).set (0:Nat) (1:Int)).set (1:Nat) (7:Int)).set (2:Nat) (7:Int)).set (3:Nat) (7:Int)).set (4:Nat) (7:Int)).set (5:Nat) (2:Int)))]:List opS.D).length ∧
 ctFm.pre (winL syS 0 (litL (winL uB (0:Nat) (6:Nat) (((((((List.replicate (6:Nat) uB.dflt).set (0:Nat) (1:Int)).set (1:Nat) (7:Int)).set (2:Nat) (7:Int)).set (3:Nat) (7:Int)).set (4:Nat) (7:Int)).set (5:Nat) (2:Int)))).length (litL (winL uB (0:Nat) (6:Nat) (((((((List.replicate (6:Nat) uB.dflt).set (0:Nat) (1:Int)).set (1:Nat) (7:Int)).set (2:Nat) (7:Int)).set (3:Nat) (7:Int)).set (4:Nat) (7:Int)).set (5:Nat) (2:Int)))),([((4:Int),(0:Int),(6:Int),(0:Int),winL uB (0:Nat) (6:Nat) (((((((List.replicate (6:Nat) uB.dflt).set (0:Nat) (1:Int)).set (1:Nat) (7:Int)).set (2:Nat) (7:Int)).set (3:Nat) (7:Int)).set (4:Nat) (7:Int)).set (5:Nat) (2:Int)))]:List opS.D),()) ∧
 0+(12:Nat)≤(((((((((((((List.replicate (12:Nat) uB.dflt).set (0:Nat) (1:Int)).set (1:Nat) (7:Int)).set (2:Nat) (7:Int)).set (3:Nat) (7:Int)).set (4:Nat) (7:Int)).set (5:Nat) (7:Int)).set (6:Nat) (7:Int)).set (7:Nat) (7:Int)).set (8:Nat) (7:Int)).set (9:Nat) (7:Int)).set (10:Nat) (7:Int)).set (11:Nat) (7:Int)).length ∧
 ctLit.pre (winL uB (0:Nat) (12:Nat) (((((((((((((List.replicate (12:Nat) uB.dflt).set (0:Nat) (1:Int)).set (1:Nat) (7:Int)).set (2:Nat) (7:Int)).set (3:Nat) (7:Int)).set (4:Nat) (7:Int)).set (5:Nat) (7:Int)).set (6:Nat) (7:Int)).set (7:Nat) (7:Int)).set (8:Nat) (7:Int)).set (9:Nat) (7:Int)).set (10:Nat) (7:Int)).set (11:Nat) (7:Int)),()) ∧
 0+(1:Nat)≤([(1:Int)]:List uB.D).length ∧
 0+(1:Nat)≤([(1:Int)]:List uB.D).length ∧
 0+(litL (winL uB (0:Nat) (12:Nat) (((((((((((((List.replicate (12:Nat) uB.dflt).set (0:Nat) (1:Int)).set (1:Nat) (7:Int)).set (2:Nat) (7:Int)).set (3:Nat) (7:Int)).set (4:Nat) (7:Int)).set (5:Nat) (7:Int)).set (6:Nat) (7:Int)).set (7:Nat) (7:Int)).set (8:Nat) (7:Int)).set (9:Nat) (7:Int)).set (10:Nat) (7:Int)).set (11:Nat) (7:Int)))).length≤(litL (winL uB (0:Nat) (12:Nat) (((((((((((((List.replicate (12:Nat) uB.dflt).set (0:Nat) (1:Int)).set (1:Nat) (7:Int)).set (2:Nat) (7:Int)).set (3:Nat) (7:Int)).set (4:Nat) (7:Int)).set (5:Nat) (7:Int)).set (6:Nat) (7:Int)).set (7:Nat) (7:Int)).set (8:Nat) (7:Int)).set (9:Nat) (7:Int)).set (10:Nat) (7:Int)).set (11:Nat) (7:Int)))).length ∧
 0+(2:Nat)≤(((List.replicate (2:Nat) opS.dflt).set (0:Nat) ((4:Int),(0:Int),(1:Int),(0:Int),([(1:Int)]:List uB.D))).set (1:Nat) ((3:Int),(0:Int),(11:Int),(7:Int),[])).length ∧
 ctFm.pre (winL syS 0 (litL (winL uB (0:Nat) (12:Nat) (((((((((((((List.replicate (12:Nat) uB.dflt).set (0:Nat) (1:Int)).set (1:Nat) (7:Int)).set (2:Nat) (7:Int)).set (3:Nat) (7:Int)).set (4:Nat) (7:Int)).set (5:Nat) (7:Int)).set (6:Nat) (7:Int)).set (7:Nat) (7:Int)).set (8:Nat) (7:Int)).set (9:Nat) (7:Int)).set (10:Nat) (7:Int)).set (11:Nat) (7:Int)))).length (litL (winL uB (0:Nat) (12:Nat) (((((((((((((List.replicate (12:Nat) uB.dflt).set (0:Nat) (1:Int)).set (1:Nat) (7:Int)).set (2:Nat) (7:Int)).set (3:Nat) (7:Int)).set (4:Nat) (7:Int)).set (5:Nat) (7:Int)).set (6:Nat) (7:Int)).set (7:Nat) (7:Int)).set (8:Nat) (7:Int)).set (9:Nat) (7:Int)).set (10:Nat) (7:Int)).set (11:Nat) (7:Int)))),winL opS (0:Nat) (2:Nat) (((List.replicate (2:Nat) opS.dflt).set (0:Nat) ((4:Int),(0:Int),(1:Int),(0:Int),([(1:Int)]:List uB.D))).set (1:Nat) ((3:Int),(0:Int),(11:Int),(7:Int),[])),()) ∧
 ctOld.pre ((4:Int),(0:Int),()) ∧
 0+(1:Nat)≤([(true,(4:Int),(0:Int))]:List syS.D).length ∧
 ctCp.pre (([(true,(4:Int),(0:Int))]:List syS.D),(4:Int),()) ∧
 ctCp.pre ([],(-1:Int),()) ∧
 ctFo.pre ((false,(0:Int),(1:Int),[]),()) ∧
 ctFo.pre ((true,(2:Int),(0:Int),[]),()) ∧
 ctSm.pre (((foV (true,(2:Int),(0:Int),[])).1.1,(foV (true,(2:Int),(0:Int),[])).1.2.1,(foV (true,(2:Int),(0:Int),[])).1.2.2.1,(foV (true,(2:Int),(0:Int),[])).1.2.2.2),(true,(2:Int),(0:Int),[]),()) ∧
 ctSa.pre (((foV (true,(2:Int),(0:Int),[])).1.1,(foV (true,(2:Int),(0:Int),[])).1.2.1,(foV (true,(2:Int),(0:Int),[])).1.2.2.1,(foV (true,(2:Int),(0:Int),[])).1.2.2.2),((foV (true,(2:Int),(0:Int),[])).1.1,(foV (true,(2:Int),(0:Int),[])).1.2.1,(foV (true,(2:Int),(0:Int),[])).1.2.2.1,(foV (true,(2:Int),(0:Int),[])).1.2.2.2),()) ∧
 ctSa.pre (((foV (true,(2:Int),(0:Int),[])).1.1,(foV (true,(2:Int),(0:Int),[])).1.2.1,(foV (true,(2:Int),(0:Int),[])).1.2.2.1,(foV (true,(2:Int),(0:Int),[])).1.2.2.2),(false,(2:Int),(0:Int),[]),()) ∧
 ctSa.pre ((false,(0:Int),(1:Int),[]),(false,(0:Int),(1:Int),[]),()) ∧
 Q [.bool (bif true then !saV (false,(0:Int),(1:Int),[]) (false,(0:Int),(1:Int),[]) else false)] [(4,.var [.bool (cpV (([(true,(4:Int),(0:Int))]:List syS.D)) (4:Int)).1.1,.int .i64 (cpV (([(true,(4:Int),(0:Int))]:List syS.D)) (4:Int)).1.2.1,.int .i64 (cpV (([(true,(4:Int),(0:Int))]:List syS.D)) (4:Int)).1.2.2.1,.sl opS (cpV (([(true,(4:Int),(0:Int))]:List syS.D)) (4:Int)).1.2.2.2]),(6,.var [.bool (cpV [] (-1:Int)).1.1,.int .i64 (cpV [] (-1:Int)).1.2.1,.int .i64 (cpV [] (-1:Int)).1.2.2.1,.sl opS (cpV [] (-1:Int)).1.2.2.2]),(8,.var [.bool (foV (false,(0:Int),(1:Int),[])).1.1,.int .i64 (foV (false,(0:Int),(1:Int),[])).1.2.1,.int .i64 (foV (false,(0:Int),(1:Int),[])).1.2.2.1,.sl opS (foV (false,(0:Int),(1:Int),[])).1.2.2.2]),(10,.var [.bool (foV (true,(2:Int),(0:Int),[])).1.1,.int .i64 (foV (true,(2:Int),(0:Int),[])).1.2.1,.int .i64 (foV (true,(2:Int),(0:Int),[])).1.2.2.1,.sl opS (foV (true,(2:Int),(0:Int),[])).1.2.2.2]),(16,.row 52 syS ((((List.replicate (3:Nat) syS.dflt).set (0:Nat) (true,(0:Int),(0:Int))).set (1:Nat) (true,(1:Int),(0:Int))).set (2:Nat) (true,(2:Int),(0:Int)))),(18,.row 55 opS ([((1:Int),(0:Int),(3:Int),(0:Int),[])]:List opS.D)),(24,.row 52 syS ((((List.replicate (3:Nat) syS.dflt).set (0:Nat) (true,(0:Int),(0:Int))).set (1:Nat) (true,(1:Int),(1:Int))).set (2:Nat) (true,(2:Int),(0:Int)))),(27,.row 55 opS ([((2:Int),(0:Int),(3:Int),(0:Int),winL uB (0:Nat) (3:Nat) ((((List.replicate (3:Nat) uB.dflt).set (0:Nat) (0:Int)).set (1:Nat) (1:Int)).set (2:Nat) (0:Int)))]:List opS.D)),(30,.row 5 uB ([(5:Int)]:List uB.D)),(34,.row 55 opS ([((4:Int),(0:Int),(1:Int),(0:Int),([(5:Int)]:List uB.D))]:List opS.D)),(37,.row 5 uB (((List.replicate (2:Nat) uB.dflt).set (0:Nat) (5:Int)).set (1:Nat) (5:Int))),(40,.row 55 opS ([((3:Int),(0:Int),(2:Int),(5:Int),[])]:List opS.D)),(43,.row 5 uB (((((((List.replicate (6:Nat) uB.dflt).set (0:Nat) (1:Int)).set (1:Nat) (7:Int)).set (2:Nat) (7:Int)).set (3:Nat) (7:Int)).set (4:Nat) (7:Int)).set (5:Nat) (2:Int))),(47,.row 55 opS ([((4:Int),(0:Int),(6:Int),(0:Int),winL uB (0:Nat) (6:Nat) (((((((List.replicate (6:Nat) uB.dflt).set (0:Nat) (1:Int)).set (1:Nat) (7:Int)).set (2:Nat) (7:Int)).set (3:Nat) (7:Int)).set (4:Nat) (7:Int)).set (5:Nat) (2:Int)))]:List opS.D)),(50,.row 5 uB (((((((((((((List.replicate (12:Nat) uB.dflt).set (0:Nat) (1:Int)).set (1:Nat) (7:Int)).set (2:Nat) (7:Int)).set (3:Nat) (7:Int)).set (4:Nat) (7:Int)).set (5:Nat) (7:Int)).set (6:Nat) (7:Int)).set (7:Nat) (7:Int)).set (8:Nat) (7:Int)).set (9:Nat) (7:Int)).set (10:Nat) (7:Int)).set (11:Nat) (7:Int))),(55,.row 55 opS (((List.replicate (2:Nat) opS.dflt).set (0:Nat) ((4:Int),(0:Int),(1:Int),(0:Int),([(1:Int)]:List uB.D))).set (1:Nat) ((3:Int),(0:Int),(11:Int),(7:Int),[]))),(1126976,.row 52 syS (litL (([(5:Int)]:List uB.D)))),(1155648,.row 52 syS (litL (winL uB (0:Nat) (2:Nat) (((List.replicate (2:Nat) uB.dflt).set (0:Nat) (5:Int)).set (1:Nat) (5:Int))))),(1180224,.row 52 syS (litL (winL uB (0:Nat) (6:Nat) (((((((List.replicate (6:Nat) uB.dflt).set (0:Nat) (1:Int)).set (1:Nat) (7:Int)).set (2:Nat) (7:Int)).set (3:Nat) (7:Int)).set (4:Nat) (7:Int)).set (5:Nat) (2:Int))))),(1208896,.row 52 syS (litL (winL uB (0:Nat) (12:Nat) (((((((((((((List.replicate (12:Nat) uB.dflt).set (0:Nat) (1:Int)).set (1:Nat) (7:Int)).set (2:Nat) (7:Int)).set (3:Nat) (7:Int)).set (4:Nat) (7:Int)).set (5:Nat) (7:Int)).set (6:Nat) (7:Int)).set (7:Nat) (7:Int)).set (8:Nat) (7:Int)).set (9:Nat) (7:Int)).set (10:Nat) (7:Int)).set (11:Nat) (7:Int)))))]):=by kernel_rfl
end Go.Proofs.YtkiicobbnllpkaaDoor
namespace Go.Proofs.YtkiicobbnllpkaaDoor
open Go.Px Go.Ax
set_option maxRecDepth 100000
attribute [local irreducible] Go.Px.sy Go.Px.syE
def ctSan:Ctr:=⟨[],fun _=>True,fun _=>[.bool true],fun _=>[]⟩
theorem san_run (R:List Item→PS→Prop):sy tt G0 CSn Tryd.f10.ntmps Tryd.f10.results.toList (QC ctSan ()) R 1000 [.code (bodyOf Tryd.f10)] (entry [] ()):=by
 refine (vc_san _ _).mpr ?_
 repeat' first
  | exact trivial
  | (show List.length _<1000000;decide +kernel)
  | (show List.length _<16777216;decide +kernel)
  | (show List.length _<1099511627776;decide +kernel)
  | decide +kernel
  | refine And.intro ?_ ?_
  | (refine QC.flat ?_ rfl rfl)
  | (refine congrArg (fun b=>[SV.bool b]) ?_;decide +kernel)
theorem san_held:Held Tryd.prog G0 10 ctSan:=Held.run cxSn (fn:=Tryd.f10) rfl rfl ⟨by decide,by decide⟩ fun x _=>san_run _
end Go.Proofs.YtkiicobbnllpkaaDoor
namespace Go.Proofs.YtkiicobbnllpkaaDoor
open Go.Px Go.Ax
set_option maxRecDepth 100000
set_option maxRecDepth 100000
end Go.Proofs.YtkiicobbnllpkaaDoor
namespace Go.Proofs.YtkiicobbnllpkaaDoor
open Go.Px Go.Ax
set_option maxRecDepth 100000
attribute [local irreducible] Go.Px.sy Go.Px.syE
abbrev TQ:List SV→List (Nat × LB)→Prop:=fun rs _=>rs=[.bool true]
theorem frzG {f:Nat} {fn:Func} {Q:List SV→List (Nat × LB)→Prop} {it:List Item} {S:PS} {i:Nat} {e:Sh} {et:TypeId} {xs:List e.D} (hl:lk S.blk i=some (.row et e xs)) (hc:cdP i xs.length S=[0+xs.length≤xs.length]) (h:GD f fn Q it (S.frzR i e xs)):GD f fn Q it S:=
 Good.frz hl (fun c hcc=>by rw [hc] at hcc;rw [List.mem_singleton] at hcc;subst hcc;omega) h
abbrev gI3 (w:List Int) (i:Nat):Int:=gt (Sh.int .i32) w i
def preW (w:List Int):Prop:=∀ j,-2147483648≤gI3 w j∧gI3 w j<2147483648
section
variable (z:Int) (l4:List (List Int)) (w:List Int) (h6:preM6 z l4) (hw:preW w)
include h6 hw
end
end Go.Proofs.YtkiicobbnllpkaaDoor
namespace Go.Proofs.YtkiicobbnllpkaaDoor
open Go.Px Go.Ax
set_option maxRecDepth 100000
def ctOpc:Ctr:=⟨[opS],fun _=>True,fun x=>[.int .i64 (cN x.1.1.toNat x.1)],fun _=>[]⟩
def ctRco:Ctr:=⟨[paS],fun x=>List.length x.1.2.2.2<1099511627776,fun x=>[.int .i64 (costF 0 x.1.2.2.2)],fun _=>[]⟩
set_option maxRecDepth 100000
def mem_opc_m0 (x:OpT):List (Nat × LB):=[(1,.var [.int .i64 x.1,.int .i64 x.2.1,.int .i64 x.2.2.1,.int .u8 x.2.2.2.1,.sl uB x.2.2.2.2])]
theorem vc_opc (x:OpT) (Q:QT) (R:RT):sy tt G0 [] Tryd.f43.ntmps Tryd.f43.results.toList Q R 1000 [.code (bodyOf Tryd.f43)] (entry [opS] (x,())) =
  (bc (decide (x.1=(2:Int))) (Q [.int .i64 (IntKind.i64.wrap ((4:Int)+x.2.2.1))] (mem_opc_m0 x)) (bc (decide (x.1=(4:Int))) (Q [.int .i64 (IntKind.i64.wrap ((2:Int)+x.2.2.1))] (mem_opc_m0 x)) (Q [.int .i64 4] (mem_opc_m0 x)))):=by kernel_rfl
theorem vc_rco (li:Bool) (m o:Int) (l:List OpT) (Q:QT) (R:RT):sy tt G0 [(43,.inl ctOpc)] Tryd.f22.ntmps Tryd.f22.results.toList Q (fun it S=>R it (keepS [1,3,4] [1] S)) 1000 [.code (bodyOf Tryd.f22)] (entry [paS] ((li,m,o,l),())) =
  (R (hd Tryd.f22 0) { env:=[(1,.ptr 1 0),(3,.int .i64 0),(4,.int .i64 0)],blk:=[(1,.var [.bool li,.int .i64 m,.int .i64 o,.sl opS l])] }):=by kernel_rfl
theorem vc_rcoL (li:Bool) (m o:Int) (l:List OpT) (s:Int) (i:Nat) (Q:QT) (R:RT):sy tt G0 [(43,.inl ctOpc)] Tryd.f22.ntmps Tryd.f22.results.toList Q (fun it S=>R it (keepS [1,3,4] [1] S)) 1000 (hd Tryd.f22 0) ⟨[(1,.ptr 1 0),(3,.int .i64 s),(4,.int .i64 (i:Nat))],[(1,.var [.bool li,.int .i64 m,.int .i64 o,.sl opS l])]⟩ =
  (bc (decide ((i:Int)<(l.length:Int))) ((0:Int)≤(i:Int) ∧
 (i:Int)<(l.length:Int) ∧
 ctOpc.pre ((gtO l (i:Int).toNat),()) ∧
 R (hd Tryd.f22 0) { env:=[(1,.ptr 1 0),(3,.int .i64 (IntKind.i64.wrap (s+cN (Int.toNat (gtO l (i:Int).toNat).1) (gtO l (i:Int).toNat)))),(4,.int .i64 (IntKind.i64.wrap ((i:Int)+(1:Int))))],blk:=[(1,.var [.bool li,.int .i64 m,.int .i64 o,.sl opS l])] }) (Q [.int .i64 s] [(1,.var [.bool li,.int .i64 m,.int .i64 o,.sl opS l])])):=by kernel_rfl
end Go.Proofs.YtkiicobbnllpkaaDoor
namespace Go.Proofs.YtkiicobbnllpkaaDoor
open Go.Px Go.Ax
set_option maxRecDepth 100000
attribute [local irreducible] Go.Px.sy Go.Px.syE
theorem opc_run (k f n b:Int) (d:List Int) (R:List Item→PS→Prop):sy tt G0 [] Tryd.f43.ntmps Tryd.f43.results.toList (QC ctOpc ((k,f,n,b,d),())) R 1000 [.code (bodyOf Tryd.f43)] (entry [opS] ((k,f,n,b,d),())):=by
 have out:∀ c,cN k.toNat ((k,f,n,b,d):OpT)=c→ctOpc.out ((k,f,n,b,d),())=[SV.int .i64 c]:=fun c e=>congrArg (fun c=>[SV.int .i64 c]) e
 refine (vc_opc (k,f,n,b,d) _ _).mpr (bc_of (fun h=>?_) (fun h=>bc_of (fun h2=>?_) (fun h2=>?_)))
 ·have h:k=2:=of_decide_eq_true h
  subst h
  exact QC.flat (out _ rfl) rfl rfl
 ·have h2:k=4:=of_decide_eq_true h2
  subst h2
  exact QC.flat (out _ rfl) rfl rfl
 ·have h:¬ k=2:=of_decide_eq_false h
  have h2:¬ k=4:=of_decide_eq_false h2
  refine QC.flat (out _ ?_) rfl rfl
  unfold cN
  split
  ·omega
  ·omega
  ·rfl
theorem opc_held:Held Tryd.prog G0 43 ctOpc:=Held.run cx0 (fn:=Tryd.f43) rfl rfl ⟨by decide,by decide⟩ fun ⟨⟨k,f,n,b,d⟩,_⟩ _=>opc_run k f n b d _
theorem cxOpc:CxOK Tryd.prog tt G0 [(43,.inl ctOpc)]:=cx0.cons opc_held (fn:=Tryd.f43) rfl rfl rfl
theorem rco_loop (li:Bool) (m o:Int) (l:List OpT) (hl:l.length<1099511627776):∀ (k i:Nat) (s:Int),l.length - i=k→i≤l.length →
  GD 22 Tryd.f22 (fun rs _=>rs=[.int .i64 (costF s (l.drop i))]) (hd Tryd.f22 0) ⟨[(1,.ptr 1 0),(3,.int .i64 s),(4,.int .i64 (i:Nat))],[(1,.var [.bool li,.int .i64 m,.int .i64 o,.sl opS l])]⟩:=by
 intro k
 induction k with
 | zero=>
  intro i s hk hi
  refine sy_goK cxOpc (vc_rcoL li m o l s i _ _) ?_
  rw [decide_eq_false (by omega),bc_f,List.drop_eq_nil_of_le (by omega)]
  rfl
 | succ k ih=>
  intro i s hk hi
  have hil:i<l.length:=by omega
  have nx:=ih (i+1) (IntKind.i64.wrap (s+cN l[i].1.toNat l[i])) (by omega) (by omega)
  have wi:IntKind.i64.wrap ((i:Int)+1)=((i+1:Nat):Int):=by rw [IntWalk.i64_in _ (by omega)];omega
  refine sy_goK cxOpc (vc_rcoL li m o l s i _ _) ?_
  rw [decide_eq_true (show (i:Int)<(l.length:Int) by omega),bc_t,Int.toNat_natCast,gtO_at hil,wi,dropc hil,costF]
  exact ⟨by omega,by omega,trivial,nx.only ⟨rfl,rfl,rfl,trivial⟩ ⟨rfl,trivial⟩⟩
theorem rco_held:Held Tryd.prog G0 22 ctRco:=Held.of cxOpc (fn:=Tryd.f22) rfl rfl ⟨by decide,by decide⟩ fun ⟨⟨li,m,o,l⟩,_⟩ hp=>
 sy_goK cxOpc (vc_rco li m o l _ _) (((rco_loop li m o l hp _ 0 0 rfl (Nat.zero_le _)).post fun rs blk hq=>QC.flat (by rw [hq];rfl) rfl (by rw [hq];rfl)).only ⟨rfl,rfl,rfl,trivial⟩ ⟨rfl,trivial⟩)
theorem poV_ok {s:List SyT} {m:Int} (hr:∀ x∈s,sOK m x=true) (h0:0≤m) (h1:m≤65536) (hl:s.length≤4096):poV s m=((false,m,(s.length:Int),chL s),0)∧symF (chL s)=s∧(∀ x∈chL s,isRB x m=true)∧costS (chL s)=cst s∧(chL s).length≤4096 ∧
  (chkV (false,m,(s.length:Int),chL s)).2=0:=by
 obtain ⟨c1,c2,c3,c4⟩:=ch_ok (m:=m) (by omega) s.length s (Nat.le_refl _) (by omega) hr
 have hb:=bst_bo s (by omega)
 unfold boL at hb
 have hlen:(chL s).length≤4096:=by
  show (chF s.length s).length≤4096
  have:oct s=(bst s).2.2.2:=rfl
  omega
 have hs:=symF_len c2
 rw [c1] at hs
 refine ⟨?_,c1,c2,c3,hlen,?_⟩
 ·unfold poV
  rw [if_neg (by omega)]
 ·have:=chkV_of (li:=false) (o:=(s.length:Int)) h0 h1 (by omega) hlen c2 hs.symm
  rw [this]
theorem cpV_ok {s:List SyT} {m:Int} (hr:∀ x∈s,sOK m x=true) (h0:0≤m) (h1:m≤65536) (hl:s.length≤4096):cpV s m=((false,m,(s.length:Int),chL s),0):=by
 unfold cpV
 rw [if_neg (ofV_60' ⟨by simp [szB];omega,by simp [szB];omega,by rw [List.all_eq_true];exact hr⟩)]
 exact (poV_ok hr h0 h1 hl).1
theorem cost_eq {s:List SyT} {m:Int} (hr:∀ x∈s,sOK m x=true) (h0:0≤m) (h1:m≤65536) (hl:s.length≤4096):costF 0 (chL s)=cst s:=by
 obtain ⟨_,_,c2,c3,c4,_⟩:=poV_ok hr h0 h1 hl
 rw [costF_of c2 (Int.le_refl 0) (by omega),Int.zero_add,c3]
end Go.Proofs.YtkiicobbnllpkaaDoor
namespace Go.Proofs.YtkiicobbnllpkaaDoor
open Go.Px Go.Ax
def fokB (k:Int) (s t:SyT) (n:Nat):Bool:=
 if k=1 then (s.1 && (t.1 && decide (t.2.1=IntKind.i64.wrap (s.2.1+(n:Int))))) && decide (t.2.2=0)
 else if k=2 then s.1 && (t.1 && decide (t.2.1=IntKind.i64.wrap (s.2.1+(n:Int))))
 else if k=3 then !s.1 && (!t.1 && decide (t.2.2=s.2.2))
 else if k=4 then !t.1 else true
def fitR (k:Int) (l:List SyT):Nat→Nat→Nat
 | 0,n=>n
 | f+1,n=>if n<l.length∧fokB k (gtY l 0) (gtY l n) n=true then fitR k l f (n+1) else n
theorem fok_iff {m:Int} (hm:m<16777216) {k:Int} (hk:kOK k) {l:List SyT} (hr:∀ s∈l,sOK m s=true) {n:Nat} (hn:n<l.length) (hl:l.length≤65536) (h0:0<n→canB k (gtY l 0)=true) :
  (fokB k (gtY l 0) (gtY l n) n=true↔canB k (gtY l n)=true∧(k=1∨k=2→(gtY l n).2.1=(gtY l 0).2.1+n)∧(k=3→(gtY l n).2.2=(gtY l 0).2.2)):=by
 have ok:∀ j,j<l.length→sOK m (gtY l j)=true:=fun j hj=>by rw [gtY_at hj];exact hr _ (List.getElem_mem hj)
 have k0:=ok 0 (by omega)
 have kn:=ok n hn
 have hz:n=0→gtY l n=gtY l 0:=fun h=>by rw [h]
 generalize gtY l n=t at *
 generalize gtY l 0=s at *
 have wrapN:s.1=true→IntKind.i64.wrap (s.2.1+(n:Int))=s.2.1+n:=fun o=>by
  have b:=sOK_t k0 o
  exact IntWalk.i64_in _ (by omega)
 have hs:canB k t=true→canB k s=true:=fun h=>by
  rcases Nat.eq_zero_or_pos n with e | e
  ·rw [← hz e];exact h
  ·exact h0 e
 rcases (show k=1∨k=2∨k=3∨k=4 by unfold kOK at hk;omega) with e | e | e | e
 ·subst e
  constructor
  ·intro h
   simp [fokB] at h
   rw [wrapN h.1.1] at h
   exact ⟨by simp [canB,h],fun _=>h.1.2.2,fun q=>by omega⟩
  ·rintro ⟨h1,h2,_⟩
   have o:=canB_old (.inl rfl) (hs h1)
   have:=h2 (.inl rfl)
   simp [canB] at h1
   simp [fokB,wrapN o,o,h1,this]
 ·subst e
  constructor
  ·intro h
   simp [fokB] at h
   rw [wrapN h.1] at h
   exact ⟨by simp [canB,h],fun _=>h.2.2,fun q=>by omega⟩
  ·rintro ⟨h1,h2,_⟩
   have o:=canB_old (.inr rfl) (hs h1)
   have:=h2 (.inr rfl)
   simp [canB] at h1
   simp [fokB,wrapN o,o,h1,this]
 ·subst e
  constructor
  ·intro h
   simp [fokB] at h
   exact ⟨by simp [canB,h],fun q=>by omega,fun _=>h.2.2⟩
  ·rintro ⟨h1,_,h3⟩
   have o:=hs h1
   have:=h3 rfl
   simp [canB] at h1 o
   simp [fokB,o,h1,this]
 ·subst e
  constructor
  ·intro h
   simp [fokB] at h
   exact ⟨by simp [canB,h],fun q=>by omega,fun q=>by omega⟩
  ·rintro ⟨h1,_,_⟩
   simp [canB] at h1
   simp [fokB,h1]
theorem fitR_eq {m:Int} (hm:m<16777216) {k:Int} (hk:kOK k) {l:List SyT} (hr:∀ s∈l,sOK m s=true) (hl:l.length≤65536):∀ (f n:Nat),l.length - n≤f→n≤fitN k l→fitR k l f n=fitN k l:=by
 have hi:=fit_is hm (k:=k) hr
 have hle:=fitN_le k l
 intro f
 induction f with
 | zero=>
  intro n hf hn
  rw [fitR];omega
 | succ f ih=>
  intro n hf hn
  rw [fitR]
  by_cases hlt:n<fitN k l
  ·have h:=hi n hlt
   rw [if_pos ⟨by omega,(fok_iff hm hk hr (by omega) hl fun _=>(hi 0 (by omega)).1).2 h⟩]
   exact ih (n+1) (by omega) (by omega)
  ·have e:n=fitN k l:=by omega
   rw [if_neg ?_]
   ·exact e
   ·rintro ⟨h1,h2⟩
    have h:=(fok_iff hm hk hr h1 hl fun hp=>(hi 0 (by omega)).1).1 h2
    have:=is_fit hm (k:=k) (n:=n+1) hr (by omega) fun j hj=>by
     rcases Nat.lt_or_ge j n with q | q
     ·exact hi j (by omega)
     ·have:j=n:=by omega
      subst this;exact h
    omega
end Go.Proofs.YtkiicobbnllpkaaDoor
namespace Go.Proofs.YtkiicobbnllpkaaDoor
open Go.Px Go.Ax
set_option maxRecDepth 100000
set_option maxRecDepth 100000
theorem vc_ft (k:Int) (l:List SyT) (Q:QT) (R:RT):sy tt G0 [] Tryd.f44.ntmps Tryd.f44.results.toList Q (fun it S=>R it (keepS [0,1,5] [] S)) 1000 [.code (bodyOf Tryd.f44)] (entry [iI,.sl syS] (k,l,())) =
  (R (hd Tryd.f44 0) { env:=[(0,.int .i64 k),(1,.sl syS l),(5,.int .i64 0)],blk:=[] }):=by kernel_rfl
def mem_ftL1_m0 (l:List SyT) (n:Nat):List (Nat × LB):=[(6,.var [.bool (gtY l (0)).1,.int .i64 (gtY l (0)).2.1,.int .u8 (gtY l (0)).2.2]),(7,.var [.bool (gtY l (n:Int).toNat).1,.int .i64 (gtY l (n:Int).toNat).2.1,.int .u8 (gtY l (n:Int).toNat).2.2])]
theorem vc_ftL1 (l:List SyT) (n:Nat) (Q:QT) (R:RT):sy tt G0 [] Tryd.f44.ntmps Tryd.f44.results.toList Q (fun it S=>R it (keepS [0,1,5] [] S)) 1000 (hd Tryd.f44 0) ⟨[(0,.int .i64 1),(1,.sl syS l),(5,.int .i64 (n:Nat))],[]⟩ =
  (bc (decide ((n:Int)<(l.length:Int))) ((0:Int)≤(0:Int) ∧
 (0:Int)<(l.length:Int) ∧
 (0:Int)≤(n:Int) ∧
 (n:Int)<(l.length:Int) ∧
 bc (gtY l (0)).1 (bc (bif true then (gtY l (n:Int).toNat).1 else false) (bc (!bif true then decide ((gtY l (n:Int).toNat).2.1=IntKind.i64.wrap ((gtY l (0)).2.1+(n:Int))) else false) (true=true ∧
 Q [.int .i64 (n:Int)] (mem_ftL1_m0 l n)) (bc (decide ((gtY l (n:Int).toNat).2.2≠(0:Int))) (Q [.int .i64 (n:Int)] (mem_ftL1_m0 l n)) (false=false ∧
 false=false ∧
 false=false ∧
 R (hd Tryd.f44 0) { env:=[(0,.int .i64 1),(1,.sl syS l),(5,.int .i64 (IntKind.i64.wrap ((n:Int)+(1:Int))))],blk:=[] }))) (false=false ∧
 true=true ∧
 Q [.int .i64 (n:Int)] (mem_ftL1_m0 l n))) (false=false ∧
 false=false ∧
 true=true ∧
 Q [.int .i64 (n:Int)] (mem_ftL1_m0 l n))) (Q [.int .i64 (n:Int)] [])):=by kernel_rfl
def mem_ftL2_m0 (l:List SyT) (n:Nat):List (Nat × LB):=[(6,.var [.bool (gtY l (0)).1,.int .i64 (gtY l (0)).2.1,.int .u8 (gtY l (0)).2.2]),(7,.var [.bool (gtY l (n:Int).toNat).1,.int .i64 (gtY l (n:Int).toNat).2.1,.int .u8 (gtY l (n:Int).toNat).2.2])]
theorem vc_ftL2 (l:List SyT) (n:Nat) (Q:QT) (R:RT):sy tt G0 [] Tryd.f44.ntmps Tryd.f44.results.toList Q (fun it S=>R it (keepS [0,1,5] [] S)) 1000 (hd Tryd.f44 0) ⟨[(0,.int .i64 2),(1,.sl syS l),(5,.int .i64 (n:Nat))],[]⟩ =
  (bc (decide ((n:Int)<(l.length:Int))) ((0:Int)≤(0:Int) ∧
 (0:Int)<(l.length:Int) ∧
 (0:Int)≤(n:Int) ∧
 (n:Int)<(l.length:Int) ∧
 bc (gtY l (0)).1 (bc (bif true then (gtY l (n:Int).toNat).1 else false) (false=false ∧
 bc (bif true then !bif true then decide ((gtY l (n:Int).toNat).2.1=IntKind.i64.wrap ((gtY l (0)).2.1+(n:Int))) else false else false) (Q [.int .i64 (n:Int)] (mem_ftL2_m0 l n)) (false=false ∧
 false=false ∧
 R (hd Tryd.f44 0) { env:=[(0,.int .i64 2),(1,.sl syS l),(5,.int .i64 (IntKind.i64.wrap ((n:Int)+(1:Int))))],blk:=[] })) (false=false ∧
 false=false ∧
 Q [.int .i64 (n:Int)] (mem_ftL2_m0 l n))) (false=false ∧
 false=false ∧
 false=false ∧
 Q [.int .i64 (n:Int)] (mem_ftL2_m0 l n))) (Q [.int .i64 (n:Int)] [])):=by kernel_rfl
def mem_ftL3_m0 (l:List SyT) (n:Nat):List (Nat × LB):=[(6,.var [.bool (gtY l (0)).1,.int .i64 (gtY l (0)).2.1,.int .u8 (gtY l (0)).2.2]),(7,.var [.bool (gtY l (n:Int).toNat).1,.int .i64 (gtY l (n:Int).toNat).2.1,.int .u8 (gtY l (n:Int).toNat).2.2])]
theorem vc_ftL3 (l:List SyT) (n:Nat) (Q:QT) (R:RT):sy tt G0 [] Tryd.f44.ntmps Tryd.f44.results.toList Q (fun it S=>R it (keepS [0,1,5] [] S)) 1000 (hd Tryd.f44 0) ⟨[(0,.int .i64 3),(1,.sl syS l),(5,.int .i64 (n:Nat))],[]⟩ =
  (bc (decide ((n:Int)<(l.length:Int))) ((0:Int)≤(0:Int) ∧
 (0:Int)<(l.length:Int) ∧
 (0:Int)≤(n:Int) ∧
 (n:Int)<(l.length:Int) ∧
 bc (gtY l (0)).1 (bc (bif true then (gtY l (n:Int).toNat).1 else false) (false=false ∧
 false=false ∧
 bc (gtY l (0)).1 (true=true ∧
 true=true ∧
 Q [.int .i64 (n:Int)] (mem_ftL3_m0 l n)) (bc (bif false then true else (gtY l (n:Int).toNat).1) (true=true ∧
 Q [.int .i64 (n:Int)] (mem_ftL3_m0 l n)) (bc (decide ((gtY l (n:Int).toNat).2.2≠(gtY l (0)).2.2)) (Q [.int .i64 (n:Int)] (mem_ftL3_m0 l n)) (false=false ∧
 R (hd Tryd.f44 0) { env:=[(0,.int .i64 3),(1,.sl syS l),(5,.int .i64 (IntKind.i64.wrap ((n:Int)+(1:Int))))],blk:=[] })))) (false=false ∧
 false=false ∧
 false=false ∧
 bc (gtY l (0)).1 (true=true ∧
 true=true ∧
 Q [.int .i64 (n:Int)] (mem_ftL3_m0 l n)) (bc (bif false then true else (gtY l (n:Int).toNat).1) (true=true ∧
 Q [.int .i64 (n:Int)] (mem_ftL3_m0 l n)) (bc (decide ((gtY l (n:Int).toNat).2.2≠(gtY l (0)).2.2)) (Q [.int .i64 (n:Int)] (mem_ftL3_m0 l n)) (false=false ∧
 R (hd Tryd.f44 0) { env:=[(0,.int .i64 3),(1,.sl syS l),(5,.int .i64 (IntKind.i64.wrap ((n:Int)+(1:Int))))],blk:=[] }))))) (false=false ∧
 false=false ∧
 false=false ∧
 false=false ∧
 bc (gtY l (0)).1 (true=true ∧
 true=true ∧
 Q [.int .i64 (n:Int)] (mem_ftL3_m0 l n)) (bc (bif false then true else (gtY l (n:Int).toNat).1) (true=true ∧
 Q [.int .i64 (n:Int)] (mem_ftL3_m0 l n)) (bc (decide ((gtY l (n:Int).toNat).2.2≠(gtY l (0)).2.2)) (Q [.int .i64 (n:Int)] (mem_ftL3_m0 l n)) (false=false ∧
 R (hd Tryd.f44 0) { env:=[(0,.int .i64 3),(1,.sl syS l),(5,.int .i64 (IntKind.i64.wrap ((n:Int)+(1:Int))))],blk:=[] }))))) (Q [.int .i64 (n:Int)] [])):=by kernel_rfl
def mem_ftL4_m0 (l:List SyT) (n:Nat):List (Nat × LB):=[(6,.var [.bool (gtY l (0)).1,.int .i64 (gtY l (0)).2.1,.int .u8 (gtY l (0)).2.2]),(7,.var [.bool (gtY l (n:Int).toNat).1,.int .i64 (gtY l (n:Int).toNat).2.1,.int .u8 (gtY l (n:Int).toNat).2.2])]
theorem vc_ftL4 (l:List SyT) (n:Nat) (Q:QT) (R:RT):sy tt G0 [] Tryd.f44.ntmps Tryd.f44.results.toList Q (fun it S=>R it (keepS [0,1,5] [] S)) 1000 (hd Tryd.f44 0) ⟨[(0,.int .i64 4),(1,.sl syS l),(5,.int .i64 (n:Nat))],[]⟩ =
  (bc (decide ((n:Int)<(l.length:Int))) ((0:Int)≤(0:Int) ∧
 (0:Int)<(l.length:Int) ∧
 (0:Int)≤(n:Int) ∧
 (n:Int)<(l.length:Int) ∧
 bc (gtY l (0)).1 (bc (bif true then (gtY l (n:Int).toNat).1 else false) (false=false ∧
 false=false ∧
 false=false ∧
 bc (bif true then (gtY l (n:Int).toNat).1 else false) (Q [.int .i64 (n:Int)] (mem_ftL4_m0 l n)) (R (hd Tryd.f44 0) { env:=[(0,.int .i64 4),(1,.sl syS l),(5,.int .i64 (IntKind.i64.wrap ((n:Int)+(1:Int))))],blk:=[] })) (false=false ∧
 false=false ∧
 false=false ∧
 false=false ∧
 bc (bif true then (gtY l (n:Int).toNat).1 else false) (Q [.int .i64 (n:Int)] (mem_ftL4_m0 l n)) (R (hd Tryd.f44 0) { env:=[(0,.int .i64 4),(1,.sl syS l),(5,.int .i64 (IntKind.i64.wrap ((n:Int)+(1:Int))))],blk:=[] }))) (false=false ∧
 false=false ∧
 false=false ∧
 false=false ∧
 false=false ∧
 bc (bif true then (gtY l (n:Int).toNat).1 else false) (Q [.int .i64 (n:Int)] (mem_ftL4_m0 l n)) (R (hd Tryd.f44 0) { env:=[(0,.int .i64 4),(1,.sl syS l),(5,.int .i64 (IntKind.i64.wrap ((n:Int)+(1:Int))))],blk:=[] }))) (Q [.int .i64 (n:Int)] [])):=by kernel_rfl
theorem vc_pr (k n:Int) (Q:QT) (R:RT):sy tt G0 [(43,.inl ctOpc)] Tryd.f45.ntmps Tryd.f45.results.toList Q R 1000 [.code (bodyOf Tryd.f45)] (entry [iI,iI] (k,n,())) =
  (ctOpc.pre ((k,(0:Int),n,(0:Int),[]),()) ∧
 Q [.int .i64 (cN k.toNat (k,(0:Int),n,(0:Int),[]))] []):=by kernel_rfl
end Go.Proofs.YtkiicobbnllpkaaDoor
namespace Go.Proofs.YtkiicobbnllpkaaDoor
open Go.Px Go.Ax
set_option maxRecDepth 100000
attribute [local irreducible] Go.Px.sy Go.Px.syE
def preFt (k:Int) (l:List SyT):Prop:=kOK k∧l.length≤65536∧∃ m:Int,m<16777216∧∀ s∈l,sOK m s=true
def ctFt:Ctr:=⟨[iI,.sl syS],fun x=>preFt x.1 x.2.1,fun x=>[.int .i64 (fitN x.1 x.2.1:Nat)],fun _=>[]⟩
abbrev FtQ (n:Nat):List SV→List (Nat × LB)→Prop:=fun rs _=>rs=[.int .i64 (n:Nat)]
theorem ft_loop (k:Int) (hk:kOK k) (l:List SyT) (hl:l.length≤65536):∀ (f n:Nat),l.length - n=f→n≤l.length →
  GD 44 Tryd.f44 (FtQ (fitR k l f n)) (hd Tryd.f44 0) ⟨[(0,.int .i64 k),(1,.sl syS l),(5,.int .i64 (n:Nat))],[]⟩:=by
 intro f
 induction f with
 | zero=>
  intro n hf hn
  rw [fitR]
  have e:¬ (n:Int)<(l.length:Int):=by omega
  rcases (show k=1∨k=2∨k=3∨k=4 by unfold kOK at hk;omega) with h | h | h | h
  ·subst h;refine sy_goK cx0 (vc_ftL1 l n _ _) ?_;rw [decide_eq_false e,bc_f]
  ·subst h;refine sy_goK cx0 (vc_ftL2 l n _ _) ?_;rw [decide_eq_false e,bc_f]
  ·subst h;refine sy_goK cx0 (vc_ftL3 l n _ _) ?_;rw [decide_eq_false e,bc_f]
  ·subst h;refine sy_goK cx0 (vc_ftL4 l n _ _) ?_;rw [decide_eq_false e,bc_f]
 | succ f ih=>
  intro n hf hn
  have nx:=ih (n+1) (by omega) (by omega)
  have hlt:n<l.length:=by omega
  have w:IntKind.i64.wrap ((n:Int)+1)=((n+1:Nat):Int):=by rw [IntWalk.i64_in _ (by omega)];omega
  have stop:fokB k (gtY l 0) (gtY l n) n=false→[SV.int .i64 (n:Nat)]=[SV.int .i64 ((fitR k l (f+1) n:Nat):Int)]:=fun h=>by rw [fitR,if_neg (by rw [h];simp)]
  have go:fokB k (gtY l 0) (gtY l n) n=true→fitR k l (f+1) n=fitR k l f (n+1):=fun h=>by rw [fitR,if_pos ⟨hlt,h⟩]
  have e:decide ((n:Int)<(l.length:Int))=true:=decide_eq_true (by omega)
  have nk:fokB k (gtY l 0) (gtY l n) n=true→GD 44 Tryd.f44 (FtQ (fitR k l (f+1) n)) (hd Tryd.f44 0) ⟨[(0,.int .i64 k),(1,.sl syS l),(5,.int .i64 ((n+1:Nat):Int))],[]⟩:=fun h=>by rw [go h];exact nx
  generalize fitR k l (f+1) n=q at *
  clear nx ih go
  rcases (show k=1∨k=2∨k=3∨k=4 by unfold kOK at hk;omega) with h | h | h | h
  ·subst h
   refine sy_goK cx0 (vc_ftL1 l n _ _) ?_
   rw [e,bc_t,Int.toNat_natCast,w]
   generalize gtY l n=t at *
   generalize gtY l 0=s at *
   refine ⟨by omega,by omega,by omega,by omega,?_⟩
   repeat' first
    | exact stop (by simp_all [fokB])
    | exact (nk (by simp_all [fokB])).only ⟨rfl,rfl,rfl,trivial⟩ trivial
    | refine ⟨rfl,?_⟩
    | refine bc_of (fun h=>?_) (fun h=>?_)
  ·subst h
   refine sy_goK cx0 (vc_ftL2 l n _ _) ?_
   rw [e,bc_t,Int.toNat_natCast,w]
   generalize gtY l n=t at *
   generalize gtY l 0=s at *
   refine ⟨by omega,by omega,by omega,by omega,?_⟩
   repeat' first
    | exact stop (by simp_all [fokB])
    | exact (nk (by simp_all [fokB])).only ⟨rfl,rfl,rfl,trivial⟩ trivial
    | refine ⟨rfl,?_⟩
    | refine bc_of (fun h=>?_) (fun h=>?_)
  ·subst h
   refine sy_goK cx0 (vc_ftL3 l n _ _) ?_
   rw [e,bc_t,Int.toNat_natCast,w]
   generalize gtY l n=t at *
   generalize gtY l 0=s at *
   refine ⟨by omega,by omega,by omega,by omega,?_⟩
   repeat' first
    | exact stop (by simp_all [fokB])
    | exact (nk (by simp_all [fokB])).only ⟨rfl,rfl,rfl,trivial⟩ trivial
    | refine ⟨rfl,?_⟩
    | refine bc_of (fun h=>?_) (fun h=>?_)
  ·subst h
   refine sy_goK cx0 (vc_ftL4 l n _ _) ?_
   rw [e,bc_t,Int.toNat_natCast,w]
   generalize gtY l n=t at *
   generalize gtY l 0=s at *
   refine ⟨by omega,by omega,by omega,by omega,?_⟩
   repeat' first
    | exact stop (by simp_all [fokB])
    | exact (nk (by simp_all [fokB])).only ⟨rfl,rfl,rfl,trivial⟩ trivial
    | refine ⟨rfl,?_⟩
    | refine bc_of (fun h=>?_) (fun h=>?_)
theorem ft_run (k:Int) (l:List SyT) (hp:preFt k l):GD 44 Tryd.f44 (QC ctFt (k,l,())) [.code (bodyOf Tryd.f44)] (entry [iI,.sl syS] (k,l,())):=by
 obtain ⟨hk,hl,m,hm,hr⟩:=hp
 have h:=ft_loop k hk l hl l.length 0 (by omega) (Nat.zero_le _)
 rw [fitR_eq hm hk hr hl l.length 0 (by omega) (Nat.zero_le _)] at h
 exact sy_goK cx0 (vc_ft k l _ _) ((h.post fun rs blk hq=>QC.flat (by rw [hq];rfl) rfl (by rw [hq];rfl)).only ⟨rfl,rfl,rfl,trivial⟩ trivial)
theorem ft_held:Held Tryd.prog G0 44 ctFt:=Held.of cx0 (fn:=Tryd.f44) rfl rfl ⟨by decide,by decide⟩ fun ⟨k,l,_⟩ hp=>ft_run k l hp
def preKN (k n:Int):Prop:=kOK k∧0≤n∧n≤65536
def ctPr:Ctr:=⟨[iI,iI],fun x=>preKN x.1 x.2.1,fun x=>[.int .i64 (hdC x.1+eaC x.1 * x.2.1)],fun _=>[]⟩
theorem pr_val {k n:Int} (h:preKN k n):cN k.toNat ((k,0,n,0,[]):OpT)=hdC k+eaC k * n:=by
 obtain ⟨hk,h0,h1⟩:=h
 rcases (show k=1∨k=2∨k=3∨k=4 by unfold kOK at hk;omega) with e | e | e | e
 ·subst e;show (4:Int)=hdC 1+eaC 1 * _;simp [hdC,eaC]
 ·subst e
  show IntKind.i64.wrap (4+n)=_
  rw [IntWalk.i64_in _ (by omega)]
  simp [hdC,eaC]
 ·subst e;show (4:Int)=hdC 3+eaC 3 * _;simp [hdC,eaC]
 ·subst e
  show IntKind.i64.wrap (2+n)=_
  rw [IntWalk.i64_in _ (by omega)]
  simp [hdC,eaC]
theorem pr_run (k n:Int) (h:preKN k n) (R:List Item→PS→Prop):sy tt G0 [(43,.inl ctOpc)] Tryd.f45.ntmps Tryd.f45.results.toList (QC ctPr (k,n,())) R 1000 [.code (bodyOf Tryd.f45)] (entry [iI,iI] (k,n,())):=by
 refine (vc_pr k n _ _).mpr ⟨trivial,?_⟩
 rw [pr_val h]
 exact QC.flat rfl rfl rfl
theorem pr_held:Held Tryd.prog G0 45 ctPr:=Held.run cxOpc (fn:=Tryd.f45) rfl rfl ⟨by decide,by decide⟩ fun ⟨k,n,_⟩ hp=>pr_run k n hp _
end Go.Proofs.YtkiicobbnllpkaaDoor
namespace Go.Proofs.YtkiicobbnllpkaaDoor
open Go.Px Go.Ax
set_option maxRecDepth 100000
def preLe (m:Nat) (l:List SyT):Prop:=l.length<m∧l.length≤65536∧∃ a:Int,a<16777216∧∀ s∈l,sOK a s=true
def ctLe (m:Nat):Ctr:=⟨[.sl syS],fun x=>preLe m x.1,fun x=>[.int .i64 (cst x.1)],fun _=>[]⟩
def CLe (m:Nat):CV:=[(44,.inl ctFt),(45,.inl ctPr),(23,.inl (ctLe m))]
set_option maxRecDepth 100000
theorem vc_le (m:Nat) (l:List SyT) (Q:QT) (R:RT):sy tt G0 (CLe m) Tryd.f23.ntmps Tryd.f23.results.toList Q (fun it S=>R it (keepS [0,3,4,5] [] S)) 1000 [.code (bodyOf Tryd.f23)] (entry [.sl syS] (l,())) =
  (bc (decide ((l.length:Int)=(0:Int))) (Q [.int .i64 0] []) (R (hd Tryd.f23 0) { env:=[(0,.sl syS l),(3,.int .i64 (-1:Int)),(4,.int .i64 1)],blk:=[] })):=by kernel_rfl
theorem vc_leO (m:Nat) (l:List SyT) (z k:Int) (Q:QT) (R:RT):sy tt G0 (CLe m) Tryd.f23.ntmps Tryd.f23.results.toList Q (fun it S=>R it (keepS [0,3,4,5] [] S)) 1000 (hd Tryd.f23 0) ⟨[(0,.sl syS l),(3,.int .i64 z),(4,.int .i64 k)],[]⟩ =
  (bc (decide (k≤(4:Int))) (R (hd Tryd.f23 1) { env:=[(0,.sl syS l),(3,.int .i64 z),(4,.int .i64 k),(5,.int .i64 1)],blk:=[] }) (Q [.int .i64 z] [])):=by kernel_rfl
theorem vc_leI (m:Nat) (l:List SyT) (z k:Int) (n:Nat) (Q:QT) (R:RT):sy tt G0 (CLe m) Tryd.f23.ntmps Tryd.f23.results.toList Q (fun it S=>R it (keepS [0,3,4,5] [] S)) 1000 (hd Tryd.f23 1) ⟨[(0,.sl syS l),(3,.int .i64 z),(4,.int .i64 k),(5,.int .i64 (n:Nat))],[]⟩ =
  (ctFt.pre (k,l,()) ∧
 bc (decide ((n:Int)≤(↑(fitN k l):Int))) (ctPr.pre (k,(n:Int),()) ∧
 (0:Int)≤(n:Int) ∧
 (n:Int)≤(l.length:Int) ∧
 (ctLe m).pre (List.drop (n:Int).toNat l,()) ∧
 bc (decide (z<(0:Int))) (true=true ∧
 R (hd Tryd.f23 1) { env:=[(0,.sl syS l),(3,.int .i64 (IntKind.i64.wrap (hdC k+eaC k * (n:Int)+cst (List.drop (n:Int).toNat l)))),(4,.int .i64 k),(5,.int .i64 (IntKind.i64.wrap ((n:Int)+(1:Int))))],blk:=[] }) (bc (bif false then true else decide (IntKind.i64.wrap (hdC k+eaC k * (n:Int)+cst (List.drop (n:Int).toNat l))<z)) (R (hd Tryd.f23 1) { env:=[(0,.sl syS l),(3,.int .i64 (IntKind.i64.wrap (hdC k+eaC k * (n:Int)+cst (List.drop (n:Int).toNat l)))),(4,.int .i64 k),(5,.int .i64 (IntKind.i64.wrap ((n:Int)+(1:Int))))],blk:=[] }) (R (hd Tryd.f23 1) { env:=[(0,.sl syS l),(3,.int .i64 z),(4,.int .i64 k),(5,.int .i64 (IntKind.i64.wrap ((n:Int)+(1:Int))))],blk:=[] }))) (R (hd Tryd.f23 0) { env:=[(0,.sl syS l),(3,.int .i64 z),(4,.int .i64 (IntKind.i64.wrap (k+(1:Int)))),(5,.int .i64 (n:Int))],blk:=[] })):=by kernel_rfl
end Go.Proofs.YtkiicobbnllpkaaDoor
namespace Go.Proofs.YtkiicobbnllpkaaDoor
open Go.Px Go.Ax
set_option maxRecDepth 100000
attribute [local irreducible] Go.Px.sy Go.Px.syE
def vLe (k:Int) (n:Nat) (l:List SyT):Int:=hdC k+eaC k * (n:Int)+cst (l.drop n)
def seenL (l:List SyT) (k:Int) (n:Nat) (k':Int) (q:Nat):Prop:=kOK k'∧1≤q∧q≤fitN k' l∧(k'<k∨(k'=k∧q<n))
def invL (l:List SyT) (k:Int) (n:Nat) (z:Int):Prop:=(z = -1∧∀ k' q,¬ seenL l k n k' q)∨(0≤z∧(∃ k' q,seenL l k n k' q∧z=vLe k' q l)∧∀ k' q,seenL l k n k' q→z≤vLe k' q l)
theorem vLe_b {l:List SyT} (hl:l.length≤65536) {k:Int} {n:Nat} (hn:n≤l.length):0≤vLe k n l∧vLe k n l≤1000000:=by
 have h:=bst_bo (l.drop n) (by rw [List.length_drop];omega)
 rw [List.length_drop] at h
 unfold boL at h
 have e:=eaN k n
 have hh:=hdC_b k
 unfold vLe cst
 generalize eaC k * (n:Int)=a at *
 omega
theorem inv_end {l:List SyT} (hl:l.length≤65536) (h0:l≠[]) {z:Int} (h:invL l 5 1 z):z=cst l:=by
 obtain ⟨hb,q,q1,q2,q3,q4,q5,q6⟩:=bst_ne hl h0
 have hs:seenL l 5 1 (bst l).1 q:=⟨hb,q2,q3,by unfold kOK at hb;omega⟩
 rcases h with ⟨_,h⟩ | ⟨_,⟨k',q',h1,h2⟩,h3⟩
 ·exact absurd hs (h _ _)
 ·have a:=h3 _ _ hs
  have b:=cst_le hl h1.1 h1.2.1 h1.2.2.1
  have e1:vLe (bst l).1 q l=cst l:=q5.symm
  have e2:vLe k' q' l=hdC k'+eaC k' * (q':Int)+cst (l.drop q'):=rfl
  omega
theorem inv_next {l:List SyT} {k:Int} (hk:kOK k) {z:Int} (h:invL l k (fitN k l+1) z):invL l (k+1) 1 z:=by
 have e:∀ k' q,seenL l k (fitN k l+1) k' q↔seenL l (k+1) 1 k' q:=fun k' q=>by
  unfold seenL
  constructor
  ·rintro ⟨h1,h2,h3,h4⟩
   exact ⟨h1,h2,h3,by omega⟩
  ·rintro ⟨h1,h2,h3,h4⟩
   refine ⟨h1,h2,h3,?_⟩
   by_cases e:k'=k
   ·subst e;omega
   ·omega
 rcases h with ⟨h1,h2⟩ | ⟨h1,⟨k',q,h2,h3⟩,h4⟩
 ·exact .inl ⟨h1,fun k' q h=>h2 k' q ((e k' q).2 h)⟩
 ·exact .inr ⟨h1,⟨k',q,(e k' q).1 h2,h3⟩,fun k' q h=>h4 k' q ((e k' q).2 h)⟩
theorem inv_step {l:List SyT} (hl:l.length≤65536) {k:Int} (hk:kOK k) {n:Nat} (h1:1≤n) (hn:n≤fitN k l) {z:Int} (h:invL l k n z) :
  invL l k (n+1) (if z<0∨vLe k n l<z then vLe k n l else z):=by
 have hle:=fitN_le k l
 have vb:=vLe_b hl (k:=k) (n:=n) (by omega)
 have me:seenL l k (n+1) k n:=⟨hk,h1,hn,.inr ⟨rfl,by omega⟩⟩
 have more:∀ k' q,seenL l k (n+1) k' q→seenL l k n k' q∨(k'=k∧q=n):=fun k' q ⟨a,b,c,d⟩=>by
  by_cases e:k'=k∧q=n
  ·exact .inr e
  ·exact .inl ⟨a,b,c,by omega⟩
 have less:∀ k' q,seenL l k n k' q→seenL l k (n+1) k' q:=fun k' q ⟨a,b,c,d⟩=>⟨a,b,c,by omega⟩
 rcases h with ⟨h1,h2⟩ | ⟨h1,⟨k',q,h2,h3⟩,h4⟩
 ·rw [if_pos (by omega)]
  refine .inr ⟨vb.1,⟨k,n,me,rfl⟩,fun k' q h=>?_⟩
  rcases more k' q h with h | ⟨e1,e2⟩
  ·exact absurd h (h2 k' q)
  ·subst e1;subst e2;exact Int.le_refl _
 ·by_cases hv:vLe k n l<z
  ·rw [if_pos (.inr hv)]
   refine .inr ⟨vb.1,⟨k,n,me,rfl⟩,fun k' q h=>?_⟩
   rcases more k' q h with h | ⟨e1,e2⟩
   ·have:=h4 k' q h;omega
   ·subst e1;subst e2;exact Int.le_refl _
  ·rw [if_neg (by omega)]
   refine .inr ⟨h1,⟨k',q,less _ _ h2,h3⟩,fun k' q h=>?_⟩
   rcases more k' q h with h | ⟨e1,e2⟩
   ·exact h4 k' q h
   ·subst e1;subst e2;omega
section
variable (m:Nat) (cx:CxOK Tryd.prog tt G0 (CLe m)) (l:List SyT) (hp:preLe (m+1) l) (h0:l≠[])
abbrev LeQ (l:List SyT):List SV→List (Nat × LB)→Prop:=fun rs _=>rs=[.int .i64 (cst l)]
include cx hp h0
theorem leI_loop (k:Int) (hk:kOK k) (nx:∀ z,invL l (k+1) 1 z→GD 23 Tryd.f23 (LeQ l) (hd Tryd.f23 0) ⟨[(0,.sl syS l),(3,.int .i64 z),(4,.int .i64 (k+1))],[]⟩) :
  ∀ (f n:Nat) (z:Int),fitN k l+1 - n=f→1≤n→n≤fitN k l+1→invL l k n z →
  GD 23 Tryd.f23 (LeQ l) (hd Tryd.f23 1) ⟨[(0,.sl syS l),(3,.int .i64 z),(4,.int .i64 k),(5,.int .i64 (n:Nat))],[]⟩:=by
 have _:=h0
 have hl:=hp.2.1
 have hle:=fitN_le k l
 have pf:preFt k l:=⟨hk,hp.2.1,hp.2.2⟩
 have wk:IntKind.i64.wrap (k+1)=k+1:=IntWalk.i64_in _ (by unfold kOK at hk;omega)
 intro f
 induction f with
 | zero=>
  intro n z hf h1 hn hi
  have e:n=fitN k l+1:=by omega
  subst e
  refine sy_goK cx (vc_leI m l z k (fitN k l+1) _ _) ?_
  rw [decide_eq_false (by omega),bc_f,wk]
  exact ⟨pf,(nx z (inv_next hk hi)).only ⟨rfl,rfl,rfl,trivial⟩ trivial⟩
 | succ f ih=>
  intro n z hf h1 hn hi
  have hn2:n≤fitN k l:=by omega
  have vb:=vLe_b hl (k:=k) (n:=n) (by omega)
  have nk:=ih (n+1) _ (by omega) (by omega) (by omega) (inv_step hl hk h1 hn2 hi)
  have wn:IntKind.i64.wrap ((n:Int)+1)=((n+1:Nat):Int):=by rw [IntWalk.i64_in _ (by omega)];omega
  have wv:IntKind.i64.wrap (hdC k+eaC k * (n:Int)+cst (l.drop n))=vLe k n l:=IntWalk.i64_in (vLe k n l) (by omega)
  have pd:preLe m (l.drop n):=by
   refine ⟨?_,by rw [List.length_drop];omega,?_⟩
   ·have:=hp.1
    rw [List.length_drop];omega
   ·obtain ⟨a,ha,hr⟩:=hp.2.2
    exact ⟨a,ha,fun s hs=>hr s (List.mem_of_mem_drop hs)⟩
  refine sy_goK cx (vc_leI m l z k n _ _) ?_
  rw [decide_eq_true (show (n:Int)≤(fitN k l:Int) by omega),bc_t,Int.toNat_natCast,wv,wn]
  refine ⟨pf,(show preKN k n from ⟨hk,by omega,by omega⟩),by omega,by omega,pd,bc_of (fun h=>⟨rfl,?_⟩) (fun h=>bc_of (fun h2=>?_) (fun h2=>?_))⟩
  ·have h:z<0:=of_decide_eq_true h
   rw [if_pos (.inl h)] at nk
   exact nk.only ⟨rfl,rfl,rfl,rfl,trivial⟩ trivial
  ·have h2:decide (vLe k n l<z)=true:=h2
   have h2:vLe k n l<z:=of_decide_eq_true h2
   rw [if_pos (.inr h2)] at nk
   exact nk.only ⟨rfl,rfl,rfl,rfl,trivial⟩ trivial
  ·have h:¬ z<0:=of_decide_eq_false h
   have h2:decide (vLe k n l<z)=false:=h2
   have h2:¬ vLe k n l<z:=of_decide_eq_false h2
   rw [if_neg (by omega)] at nk
   exact nk.only ⟨rfl,rfl,rfl,rfl,trivial⟩ trivial
theorem leO_loop:∀ (f:Nat) (k z:Int),(5 - k).toNat=f→1≤k→k≤5→invL l k 1 z →
  GD 23 Tryd.f23 (LeQ l) (hd Tryd.f23 0) ⟨[(0,.sl syS l),(3,.int .i64 z),(4,.int .i64 k)],[]⟩:=by
 intro f
 induction f with
 | zero=>
  intro k z hf h1 h5 hi
  have e:k=5:=by omega
  subst e
  refine sy_goK cx (vc_leO m l z 5 _ _) ?_
  rw [decide_eq_false (by omega),bc_f,inv_end hp.2.1 h0 hi]
 | succ f ih=>
  intro k z hf h1 h5 hi
  have hk:kOK k:=by unfold kOK;omega
  refine sy_goK cx (vc_leO m l z k _ _) ?_
  rw [decide_eq_true (show k≤4 by omega),bc_t]
  exact (leI_loop m cx l hp h0 k hk (fun z hz=>ih (k+1) z (by omega) (by omega) (by omega) hz) _ 1 z rfl (Nat.le_refl 1) (by omega) hi).only ⟨rfl,rfl,rfl,rfl,trivial⟩ trivial
end
theorem le_run (m:Nat) (cx:CxOK Tryd.prog tt G0 (CLe m)) (l:List SyT) (hp:preLe (m+1) l):GD 23 Tryd.f23 (QC (ctLe (m+1)) (l,())) [.code (bodyOf Tryd.f23)] (entry [.sl syS] (l,())):=by
 refine sy_goK cx (vc_le m l _ _) (bc_of (fun h=>?_) (fun h=>?_))
 ·have h:(l.length:Int)=0:=of_decide_eq_true h
  have e:l=[]:=List.eq_nil_of_length_eq_zero (by omega)
  subst e
  exact QC.flat rfl rfl rfl
 ·have h:¬ (l.length:Int)=0:=of_decide_eq_false h
  have h0:l≠[]:=fun e=>h (by rw [e];rfl)
  exact ((leO_loop m cx l hp h0 _ 1 (-1) rfl (by omega) (by omega) (.inl ⟨rfl,fun k' q hs=>by obtain ⟨a,b,c,d⟩:=hs;unfold kOK at a;omega⟩)).post fun rs blk hq=>QC.flat (by rw [hq];rfl) rfl (by rw [hq];rfl)).only ⟨rfl,rfl,rfl,trivial⟩ trivial
theorem le_held:∀ m,Held Tryd.prog G0 23 (ctLe m)
 | 0=>fun x hp=>by
  have hp:preLe 0 x.1:=hp
  exact absurd hp.1 (Nat.not_lt_zero _)
 | m+1=>Held.of (((cx0.cons (le_held m) (fn:=Tryd.f23) rfl rfl rfl).cons pr_held (fn:=Tryd.f45) rfl rfl rfl).cons ft_held (fn:=Tryd.f44) rfl rfl rfl) (fn:=Tryd.f23) rfl rfl ⟨(show 1≤Tryd.f23.ntmps by decide),(show 1<1000 by decide)⟩ fun ⟨l,_⟩ hp=>
  le_run m (((cx0.cons (le_held m) (fn:=Tryd.f23) rfl rfl rfl).cons pr_held (fn:=Tryd.f45) rfl rfl rfl).cons ft_held (fn:=Tryd.f44) rfl rfl rfl) l hp
end Go.Proofs.YtkiicobbnllpkaaDoor
namespace Go.Proofs.YtkiicobbnllpkaaDoor
open Go.Px Go.Ax
set_option maxRecDepth 100000
def CLe4:CV:=[(10,.inl ctSan),(12,.inl ctRaw),(15,.inl ctCp),(20,.inl ctOfA),(21,.inl ctRi),(22,.inl ctRco),(23,.inl (ctLe 9))]
theorem cxLe4:CxOK Tryd.prog tt G0 CLe4:=((((((cx0.cons (le_held 9) (fn:=Tryd.f23) rfl rfl rfl).cons rco_held (fn:=Tryd.f22) rfl rfl rfl).cons right_held (fn:=Tryd.f21) rfl rfl rfl).cons ofA_held (fn:=Tryd.f20) rfl rfl rfl).cons cp_held (fn:=Tryd.f15) rfl rfl rfl).cons raw_held (fn:=Tryd.f12) rfl rfl rfl).cons san_held (fn:=Tryd.f10) rfl rfl rfl
set_option maxRecDepth 100000
theorem vc_l4a (l:List (List Int)) (n:Int) (Q:QT) (R:RT):sy tt G0 CLe4 Tryd.f4.ntmps Tryd.f4.results.toList Q (fun it S=>R it (keepS [4,5,6,7] [1086016] S)) 8 [.code (bodyOf Tryd.f4)] (entry [.sl a2S,uB] (l,n,())) =
  (ctSan.pre () ∧
 (12:Int)≠(0:Int) ∧
 ctRaw.pre (l,IntKind.i64.wrap (n.tmod (12:Int)),()) ∧
 R (midI 8 [] [Item.code (bodyOf Tryd.f4)]) { env:=[(4,.bool false),(5,.bool true),(6,.int .i64 (IntKind.i64.wrap (n.tmod (12:Int)))),(7,.win true syS 1086016 0 (rawL l (IntKind.i64.wrap (n.tmod (12:Int))) (rawK l)).length)],blk:=[(1086016,.row 52 syS (rawL l (IntKind.i64.wrap (n.tmod (12:Int))) (rawK l)))] }):=by kernel_rfl
theorem vc_l4b (s:List SyT) (m:Int) (Q:QT) (R:RT):sy tt G0 CLe4 Tryd.f4.ntmps Tryd.f4.results.toList Q (fun it S=>R it (keepS [4,5,8,9,10,11,12,13,14] [9,11,13] S)) 8 (midI 8 [] [.code (bodyOf Tryd.f4)]) ⟨[(4,.bool false),(5,.bool true),(6,.int .i64 m),(7,.sl syS s)],[]⟩ =
  ((0:Int)≤min (s.length:Int) (8:Int) ∧
 min (s.length:Int) (8:Int)≤(s.length:Int) ∧
 ctCp.pre (List.take (min (s.length:Int) (8:Int)).toNat s,m,()) ∧
 ctCp.pre (s,m,()) ∧
 ctOfA.pre (s,m,()) ∧
 R (midI 16 [] [Item.code (bodyOf Tryd.f4)]) { env:=[(4,.bool false),(5,.bool true),(8,.sl syS (List.take (min (s.length:Int) (8:Int)).toNat s)),(9,.ptr 9 0),(10,.int .i64 (cpV (List.take (min (s.length:Int) (8:Int)).toNat s) m).2),(11,.ptr 11 0),(12,.int .i64 (cpV s m).2),(13,.ptr 13 0),(14,.int .i64 (ofV s m).2)],blk:=[(9,.var [.bool (cpV (List.take (min (s.length:Int) (8:Int)).toNat s) m).1.1,.int .i64 (cpV (List.take (min (s.length:Int) (8:Int)).toNat s) m).1.2.1,.int .i64 (cpV (List.take (min (s.length:Int) (8:Int)).toNat s) m).1.2.2.1,.sl opS (cpV (List.take (min (s.length:Int) (8:Int)).toNat s) m).1.2.2.2]),(11,.var [.bool (cpV s m).1.1,.int .i64 (cpV s m).1.2.1,.int .i64 (cpV s m).1.2.2.1,.sl opS (cpV s m).1.2.2.2]),(13,.var [.bool (ofV s m).1.1,.int .i64 (ofV s m).1.2.1,.int .i64 (ofV s m).1.2.2.1,.sl opS (ofV s m).1.2.2.2])] }):=by kernel_rfl
def mem_l4c_m0 (p q r:PaT):List (Nat × LB):=[(9,.var [.bool p.1,.int .i64 p.2.1,.int .i64 p.2.2.1,.sl opS p.2.2.2]),(11,.var [.bool q.1,.int .i64 q.2.1,.int .i64 q.2.2.1,.sl opS q.2.2.2]),(13,.var [.bool r.1,.int .i64 r.2.1,.int .i64 r.2.2.1,.sl opS r.2.2.2])]
theorem vc_l4c (s:List SyT) (p q r:PaT) (e1 e2 e3:Int) (Q:QT) (R:RT):sy tt G0 CLe4 Tryd.f4.ntmps Tryd.f4.results.toList Q R 1000 (midI 16 [] [.code (bodyOf Tryd.f4)]) ⟨[(4,.bool false),(5,.bool true),(8,.sl syS s),(9,.ptr 9 0),(10,.int .i64 e1),(11,.ptr 11 0),(12,.int .i64 e2),(13,.ptr 13 0),(14,.int .i64 e3)],[(9,.var [.bool p.1,.int .i64 p.2.1,.int .i64 p.2.2.1,.sl opS p.2.2.2]),(11,.var [.bool q.1,.int .i64 q.2.1,.int .i64 q.2.2.1,.sl opS q.2.2.2]),(13,.var [.bool r.1,.int .i64 r.2.1,.int .i64 r.2.2.1,.sl opS r.2.2.2])]⟩ =
  (bc (decide (e1≠(0:Int))) (true=true ∧
 true=true ∧
 true=true ∧
 true=true ∧
 true=true ∧
 Q [.bool false] (mem_l4c_m0 p q r)) (bc (bif false then true else decide (e2≠(0:Int))) (true=true ∧
 true=true ∧
 true=true ∧
 true=true ∧
 Q [.bool false] (mem_l4c_m0 p q r)) (bc (bif false then true else decide (e3≠(0:Int))) (true=true ∧
 true=true ∧
 true=true ∧
 Q [.bool false] (mem_l4c_m0 p q r)) (ctRi.pre (p,()) ∧
 bc (bif false then true else !decide ((chkV p).2=(0:Int))) (true=true ∧
 true=true ∧
 Q [.bool false] (mem_l4c_m0 p q r)) (ctRi.pre (q,()) ∧
 bc (bif false then true else !decide ((chkV q).2=(0:Int))) (true=true ∧
 Q [.bool false] (mem_l4c_m0 p q r)) (ctRi.pre (r,()) ∧
 bc (bif false then true else !decide ((chkV r).2=(0:Int))) (Q [.bool false] (mem_l4c_m0 p q r)) (ctRco.pre (p,()) ∧
 (ctLe (9:Nat)).pre (s,()) ∧
 bc (decide (costF (0:Int) p.2.2.2=cst s)) (ctRco.pre (q,()) ∧
 ctRco.pre (r,()) ∧
 bc (decide (costF (0:Int) q.2.2.2≤costF (0:Int) r.2.2.2)) (Q [.bool true] (mem_l4c_m0 p q r)) (false=false ∧
 Q [.bool false] (mem_l4c_m0 p q r))) (false=false ∧
 false=false ∧
 Q [.bool false] (mem_l4c_m0 p q r))))))))):=by kernel_rfl
end Go.Proofs.YtkiicobbnllpkaaDoor
namespace Go.Proofs.YtkiicobbnllpkaaDoor
open Go.Px Go.Ax
set_option maxRecDepth 100000
attribute [local irreducible] Go.Px.sy Go.Px.syE
theorem of_all {s:List SyT} {m:Int} (hr:∀ x∈s,sOK m x=true) (h0:0≤m) (h1:m≤65536) (hl:s.length≤4096):ofV s m=(((false,m,(s.length:Int),opsL s):PaT),(0:Int))∧(∀ x∈opsL s,isRB x m=true)∧symF (opsL s)=s∧(opsL s).length≤4096∧(chkV (false,m,(s.length:Int),opsL s)).2=0∧costF 0 (opsL s)=costS (opsL s):=by
 obtain ⟨o1,o2,o3,_⟩:=opsL_ok (m:=m) hr (by omega) (by omega)
 have hs:=symF_len o2
 rw [o1] at hs
 have hc:=chkV_of (li:=false) (o:=(s.length:Int)) h0 h1 (by omega) (show (opsL s).length≤4096 by omega) o2 hs.symm
 refine ⟨?_,o2,o1,by omega,by rw [hc],?_⟩
 ·unfold ofV
  rw [if_pos ⟨by simp [szB];omega,by simp [szB];omega,by rw [List.all_eq_true];exact hr⟩,if_neg (by omega)]
 ·rw [costF_of o2 (Int.le_refl 0) (by omega),Int.zero_add]
section
variable (s:List SyT) (m:Int) (hr:∀ x∈s,sOK m x=true) (h0:0≤m) (h1:m<12) (hl:s.length≤20)
include hr h0 h1 hl
theorem l4c_run (f:List SyT) (hf:f=s.take (min (s.length:Int) 8).toNat) (p q r:PaT) (hp:p=(false,m,(f.length:Int),chL f)) (hq:q=(false,m,(s.length:Int),chL s)) (hr':r=(false,m,(s.length:Int),opsL s)) :
  GD 4 Tryd.f4 TQ (midI 16 [] [.code (bodyOf Tryd.f4)]) ⟨[(4,.bool false),(5,.bool true),(8,.sl syS f),(9,.ptr 9 0),(10,.int .i64 0),(11,.ptr 11 0),(12,.int .i64 0),(13,.ptr 13 0),(14,.int .i64 0)],[(9,.var [.bool p.1,.int .i64 p.2.1,.int .i64 p.2.2.1,.sl opS p.2.2.2]),(11,.var [.bool q.1,.int .i64 q.2.1,.int .i64 q.2.2.1,.sl opS q.2.2.2]),(13,.var [.bool r.1,.int .i64 r.2.1,.int .i64 r.2.2.1,.sl opS r.2.2.2])]⟩:=by
 have ht:∀ x∈f,sOK m x=true:=fun x hx=>by rw [hf] at hx;exact hr x (List.mem_of_mem_take hx)
 have lt:f.length≤8:=by rw [hf,List.length_take];omega
 obtain ⟨_,_,_,_,p3,p4⟩:=poV_ok ht h0 (by omega) (by omega)
 obtain ⟨_,_,_,_,q3,q4⟩:=poV_ok hr h0 (by omega) (by omega)
 obtain ⟨_,o2,o1,o3,r4,oc⟩:=of_all hr h0 (by omega) (by omega)
 have cp:costF 0 p.2.2.2=cst f:=by rw [hp];exact cost_eq ht h0 (by omega) (by omega)
 have cq:costF 0 q.2.2.2=cst s:=by rw [hq];exact cost_eq hr h0 (by omega) (by omega)
 have cr:costF 0 r.2.2.2=costS (opsL s):=by rw [hr'];exact oc
 rw [← hp] at p4
 rw [← hq] at q4
 rw [← hr'] at r4
 have lp:p.2.2.2.length<1099511627776:=by rw [hp];show (chL f).length<_;omega
 have lq:q.2.2.2.length<1099511627776:=by rw [hq];show (chL s).length<_;omega
 have lr:r.2.2.2.length<1099511627776:=by rw [hr'];show (opsL s).length<_;omega
 have ge:=any_ge (m:=m) (by omega) h0 o2 (by rw [o1];omega) (by rw [o1];exact hr)
 rw [o1] at ge
 refine sy_go cxLe4 (vc_l4c f p q r 0 0 0 _ _) ?_
 rw [cp,cq,cr,p4,q4,r4]
 refine bc_of (fun h=>by simp at h) (fun _=>bc_of (fun h=>by simp at h) (fun _=>bc_of (fun h=>by simp at h) (fun _=>⟨trivial,bc_of (fun h=>by simp at h) (fun _=>⟨trivial,bc_of (fun h=>by simp at h) (fun _=>⟨trivial,bc_of (fun h=>by simp at h) (fun _=>⟨lp,(show preLe 9 f from ⟨by omega,by omega,m,by omega,ht⟩),?_⟩)⟩)⟩)⟩)))
 rw [decide_eq_true (show cst f=cst f from rfl),bc_t]
 refine ⟨lq,lr,?_⟩
 rw [decide_eq_true ge,bc_t]
theorem l4b_run:GD 4 Tryd.f4 TQ (midI 8 [] [.code (bodyOf Tryd.f4)]) ⟨[(4,.bool false),(5,.bool true),(6,.int .i64 m),(7,.sl syS s)],[]⟩:=by
 have vq:=cpV_ok hr h0 (by omega) (by omega)
 obtain ⟨vr,_⟩:=of_all hr h0 (by omega) (by omega)
 have ht:∀ x∈s.take (min (s.length:Int) 8).toNat,sOK m x=true:=fun x hx=>hr x (List.mem_of_mem_take hx)
 have lt:(s.take (min (s.length:Int) 8).toNat).length≤8:=by rw [List.length_take];omega
 have vp:=cpV_ok ht h0 (by omega) (by omega)
 refine sy_goKm cxLe4 (vc_l4b s m _ _) ?_
 rw [vp,vq,vr]
 refine ⟨by omega,by omega,(show (s.take (min (s.length:Int) 8).toNat).length<16777216 by omega),(show s.length<16777216 by omega),(show s.length<16777216 by omega),?_⟩
 exact (l4c_run s m hr h0 h1 hl _ rfl _ _ _ rfl rfl rfl).only ⟨rfl,rfl,rfl,rfl,rfl,rfl,rfl,rfl,rfl,trivial⟩ ⟨rfl,rfl,rfl,trivial⟩
end
theorem l4_run (l:List (List Int)) (n:Int) (hl:preL2 l) (hn:0≤n∧n<256):GD 4 Tryd.f4 TQ [.code (bodyOf Tryd.f4)] (entry [.sl a2S,uB] (l,n,())):=by
 refine sy_goKm cxLe4 (vc_l4a l n _ _) ?_
 have w:IntKind.i64.wrap (n.tmod 12)=n % 12:=by rw [Int.tmod_eq_emod_of_nonneg hn.1,IntWalk.i64_in _ (by omega)]
 rw [w]
 have h0:0≤n % 12∧n % 12<12:=by omega
 generalize n % 12=m at *
 have hr:=rawL_ok (n:=m) hl (rawK l)
 have hk1:=rawL_len l m (rawK l)
 have hk2:rawK l≤20:=by unfold rawK;omega
 generalize rawL l m (rawK l)=s at *
 refine ⟨trivial,by decide,⟨hl,(show preN m from ⟨h0.1,by omega⟩)⟩,?_⟩
 have w1:winL syS 0 s.length s=s:=winA (e:=syS) _
 refine frzG (i:=1086016) (e:=syS) (et:=52) (xs:=s) rfl rfl ?_
 refine (l4b_run s m hr h0.1 h0.2 (by omega)).only ⟨rfl,rfl,rfl,?_,trivial⟩ trivial
 show some (SV.sl syS (winL syS 0 s.length s))=_
 rw [w1]
def ctLl:Ctr:=⟨[.sl a2S,uB],fun x=>preL2 x.1∧(0≤x.2.1∧(show Int from x.2.1)<256),fun _=>[.bool true],fun _=>[]⟩
theorem l4_held:Held Tryd.prog G0 4 ctLl:=
 Held.of cxLe4 (fn:=Tryd.f4) rfl rfl ⟨by decide,by decide⟩ fun ⟨l,n,_⟩ hp=>
  (l4_run l n hp.1 hp.2).post fun rs blk hq=>QC.flat (by rw [hq];rfl) rfl (by rw [hq];rfl)
end Go.Proofs.YtkiicobbnllpkaaDoor
namespace Go.Proofs.YtkiicobbnllpkaaDoor
open Go.Px Go.Ax
def u8L (b:List Int):Prop:=∀ j,0≤gtB b j∧gtB b j<256
theorem u8_wf {n:Int} (h:wfD uB n):0≤n∧n<256:=by
 have h:(Lit.int IntKind.u8 n).wf=true:=h
 simp [Lit.wf,IntKind.min,IntKind.max,IntKind.signed,IntKind.bits] at h
 omega
theorem u8_of {l:List Int} (h:∀ x∈l,wfD uB x):u8L l:=fun j=>by
 by_cases hj:j<l.length
 ·rw [gtB_at hj];exact u8_wf (h _ (List.getElem_mem hj))
 ·have:gtB l j=0:=by
   show gt uB _ _=_
   unfold gt
   rw [List.getElem?_eq_none (by omega)];rfl
  rw [this];decide
theorem l2_of {l:List (List Int)} (h:∀ x∈l,wfD a2S x):preL2 l:=fun j k=>by
 by_cases hj:j<l.length
 ·have e:gt a2S l j=l[j]:=gtE (e:=a2S) hj
  rw [e]
  exact u8_of (h _ (List.getElem_mem hj)).2 k
 ·have:gt a2S l j=List.replicate 2 (0:Int):=by
   unfold gt
   rw [List.getElem?_eq_none (by omega)];rfl
  rw [this]
  exact u8_of (fun x hx=>by rw [List.eq_of_mem_replicate hx];rfl) k
theorem G_get {g:Nat} {x:ABlk} (h:rawG.get g=some x):g=0∧x=.cells costCells 111 2:=by
 unfold rawG T.get at h
 split at h
 ·rename_i e;cases h;exact ⟨e,rfl⟩
 ·split at h <;> (simp [T.get] at h)
theorem hG:Glob G0.raw:=⟨fun g x h=>by rw [(G_get h).1];decide,fun g x h=>by rw [(G_get h).2];decide⟩
abbrev H0:AHeap:=⟨nglob,G0.raw⟩
def Z0:Nat→Option ABlk:=fun g=>rawG.get g
theorem gz0:GZ Z0 G0:=by
 refine ⟨fun g x e=>?_,fun g x e=>e⟩
 simp only [G0,lk] at e
 split at e
 ·rename_i h;subst h;cases e
  refine ⟨by decide,fun ν=>⟨0,0,costCells,111,2,rfl,rfl,by decide,?_⟩⟩
  exact rv_of (.arr 5 coS) costsL ⟨rfl,fun x _=>⟨trivial,trivial⟩⟩
 ·cases e
theorem fro0:Px.Fro G0 H0:=⟨fun i x h=>by rw [(G_get h).2];rfl,fun i x h=>by rw [(G_get h).2];trivial,fun i x h=>by rw [(G_get h).1];decide,gz0⟩
end Go.Proofs.YtkiicobbnllpkaaDoor
