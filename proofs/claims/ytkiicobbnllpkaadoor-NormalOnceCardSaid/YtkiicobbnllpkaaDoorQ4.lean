/-
  A part of the proof: what pieces of the program give; conditions: those of each theorem.
-/
import Derived.Test.YtkiicobbnllpkaaDoorQ3
import Derived.Test.YtkiicobbnllpkaaDoorHD
set_option linter.unusedVariables false
set_option linter.unusedSimpArgs false
namespace Go.Proofs.YtkiicobbnllpkaaDoor
open Go.Px Go.Ax
set_option maxRecDepth 100000
set_option maxRecDepth 100000
theorem vc_ctC (li:Bool) (m o:Int) (l:List OpT) (wl:List Int) (s:List SyT) (q:List OpT) (a:Int) (i:Nat) (Q:QT) (R:RT):sy tt G0 CCt Tryd.f24.ntmps Tryd.f24.results.toList Q (fun it S=>R it (keepS [1,2,4,5,7,8,9] [2,4,7,83,100] S)) 1000 (hd Tryd.f24 0) ⟨[(1,.sl uB wl),(2,.ptr 2 0),(4,.ptr 4 0),(5,.sl syS s),(7,.ptr 7 0),(8,.int .i64 a),(9,.int .i64 (i:Nat))],[(2,.var [.bool li,.int .i64 m,.int .i64 o,.sl opS l]),(4,.var [.bool false,.int .i64 0,.int .i64 0,.nils]),(7,.var [.bool li,.int .i64 m,.int .i64 o,.win true opS 100 0 q.length]),(100,.row 55 opS q)]⟩ =
  (bc (decide ((i:Int)<(l.length:Int))) ((0:Int)≤(i:Int) ∧
 (i:Int)<(l.length:Int) ∧
 bc (decide ((i:Int)<(wl.length:Int))) ((0:Int)≤(i:Int) ∧
 (i:Int)<(wl.length:Int) ∧
 (64:Int)≠(0:Int) ∧
 (xO l i).2.2.1≠(0:Int) ∧
 (0:Int)≤(i:Int) ∧
 (i:Int)<(wl.length:Int) ∧
 bc (decide ((128:Int)≤gtB wl i)) (bc (decide ((xO l i).1=(1:Int))) ((0:Int)≤(i:Int) ∧
 (i:Int)<(wl.length:Int) ∧
 bc (decide ((128:Int)≤gtB wl i)) (bc (decide ((0:Int)<(cutN l wl i))) ((0:Int)≤a ∧
 a≤IntKind.i64.wrap (a+(cutN l wl i)) ∧
 IntKind.i64.wrap (a+(cutN l wl i))≤(s.length:Int) ∧
 ctO8.pre ((2:Int),Px.part s (some a) (some (IntKind.i64.wrap (a+(cutN l wl i)))),()) ∧
 0+(1:Nat)≤([(opK (2:Int) (Px.part s (some a) (some (IntKind.i64.wrap (a+(cutN l wl i))))))]:List opS.D).length ∧
 q.length=q.length ∧
 (0:Nat)=(0:Nat) ∧
 q.length+(([(opK (2:Int) (Px.part s (some a) (some (IntKind.i64.wrap (a+(cutN l wl i))))))]:List opS.D)).length<(2:Nat) ^ (30:Nat) ∧
 (56:Nat)≤(2:Nat) ^ (10:Nat) ∧
 (0:Int)≤IntKind.i64.wrap (a+(cutN l wl i)) ∧
 IntKind.i64.wrap (a+(cutN l wl i))≤IntKind.i64.wrap (a+(xO l i).2.2.1) ∧
 IntKind.i64.wrap (a+(xO l i).2.2.1)≤(s.length:Int) ∧
 ctO8.pre ((xO l i).1,Px.part s (some (IntKind.i64.wrap (a+(cutN l wl i)))) (some (IntKind.i64.wrap (a+(xO l i).2.2.1))),()) ∧
 0+(1:Nat)≤([(opK (xO l i).1 (Px.part s (some (IntKind.i64.wrap (a+(cutN l wl i)))) (some (IntKind.i64.wrap (a+(xO l i).2.2.1)))))]:List opS.D).length ∧
 q.length+(([(opK (2:Int) (Px.part s (some a) (some (IntKind.i64.wrap (a+(cutN l wl i))))))]:List opS.D)).length=(q++([(opK (2:Int) (Px.part s (some a) (some (IntKind.i64.wrap (a+(cutN l wl i))))))]:List opS.D)).length ∧
 (0:Nat)=(0:Nat) ∧
 q.length+(([(opK (2:Int) (Px.part s (some a) (some (IntKind.i64.wrap (a+(cutN l wl i))))))]:List opS.D)).length+(([(opK (xO l i).1 (Px.part s (some (IntKind.i64.wrap (a+(cutN l wl i)))) (some (IntKind.i64.wrap (a+(xO l i).2.2.1)))))]:List opS.D)).length<(2:Nat) ^ (30:Nat) ∧
 (56:Nat)≤(2:Nat) ^ (10:Nat) ∧
 R (hd Tryd.f24 0) { env:=[(1,.sl uB wl),(2,.ptr 2 0),(4,.ptr 4 0),(5,.sl syS s),(7,.ptr 7 0),(8,.int .i64 (IntKind.i64.wrap (a+(xO l i).2.2.1))),(9,.int .i64 (IntKind.i64.wrap ((i:Int)+(1:Int))))],blk:=[(2,.var [.bool li,.int .i64 m,.int .i64 o,.sl opS l]),(4,.var [.bool false,.int .i64 0,.int .i64 0,.nils]),(7,.var [.bool li,.int .i64 m,.int .i64 o,.win true opS 100 0 (q.length+(([(opK (2:Int) (Px.part s (some a) (some (IntKind.i64.wrap (a+(cutN l wl i))))))]:List opS.D)).length+(([(opK (xO l i).1 (Px.part s (some (IntKind.i64.wrap (a+(cutN l wl i)))) (some (IntKind.i64.wrap (a+(xO l i).2.2.1)))))]:List opS.D)).length)]),(100,.row 55 opS (q++([(opK (2:Int) (Px.part s (some a) (some (IntKind.i64.wrap (a+(cutN l wl i))))))]:List opS.D)++([(opK (xO l i).1 (Px.part s (some (IntKind.i64.wrap (a+(cutN l wl i)))) (some (IntKind.i64.wrap (a+(xO l i).2.2.1)))))]:List opS.D)))] }) ((0:Int)≤IntKind.i64.wrap (a+(cutN l wl i)) ∧
 IntKind.i64.wrap (a+(cutN l wl i))≤IntKind.i64.wrap (a+(xO l i).2.2.1) ∧
 IntKind.i64.wrap (a+(xO l i).2.2.1)≤(s.length:Int) ∧
 ctO8.pre ((xO l i).1,Px.part s (some (IntKind.i64.wrap (a+(cutN l wl i)))) (some (IntKind.i64.wrap (a+(xO l i).2.2.1))),()) ∧
 0+(1:Nat)≤([(opK (xO l i).1 (Px.part s (some (IntKind.i64.wrap (a+(cutN l wl i)))) (some (IntKind.i64.wrap (a+(xO l i).2.2.1)))))]:List opS.D).length ∧
 q.length=q.length ∧
 (0:Nat)=(0:Nat) ∧
 q.length+(([(opK (xO l i).1 (Px.part s (some (IntKind.i64.wrap (a+(cutN l wl i)))) (some (IntKind.i64.wrap (a+(xO l i).2.2.1)))))]:List opS.D)).length<(2:Nat) ^ (30:Nat) ∧
 (56:Nat)≤(2:Nat) ^ (10:Nat) ∧
 R (hd Tryd.f24 0) { env:=[(1,.sl uB wl),(2,.ptr 2 0),(4,.ptr 4 0),(5,.sl syS s),(7,.ptr 7 0),(8,.int .i64 (IntKind.i64.wrap (a+(xO l i).2.2.1))),(9,.int .i64 (IntKind.i64.wrap ((i:Int)+(1:Int))))],blk:=[(2,.var [.bool li,.int .i64 m,.int .i64 o,.sl opS l]),(4,.var [.bool false,.int .i64 0,.int .i64 0,.nils]),(7,.var [.bool li,.int .i64 m,.int .i64 o,.win true opS 100 0 (q.length+(([(opK (xO l i).1 (Px.part s (some (IntKind.i64.wrap (a+(cutN l wl i)))) (some (IntKind.i64.wrap (a+(xO l i).2.2.1)))))]:List opS.D)).length)]),(100,.row 55 opS (q++([(opK (xO l i).1 (Px.part s (some (IntKind.i64.wrap (a+(cutN l wl i)))) (some (IntKind.i64.wrap (a+(xO l i).2.2.1)))))]:List opS.D)))] })) (false=false ∧
 bc (decide ((0:Int)<(cutN l wl i))) ((0:Int)≤a ∧
 a≤IntKind.i64.wrap (a+(cutN l wl i)) ∧
 IntKind.i64.wrap (a+(cutN l wl i))≤(s.length:Int) ∧
 ctO8.pre ((2:Int),Px.part s (some a) (some (IntKind.i64.wrap (a+(cutN l wl i)))),()) ∧
 0+(1:Nat)≤([(opK (2:Int) (Px.part s (some a) (some (IntKind.i64.wrap (a+(cutN l wl i))))))]:List opS.D).length ∧
 q.length=q.length ∧
 (0:Nat)=(0:Nat) ∧
 q.length+(([(opK (2:Int) (Px.part s (some a) (some (IntKind.i64.wrap (a+(cutN l wl i))))))]:List opS.D)).length<(2:Nat) ^ (30:Nat) ∧
 (56:Nat)≤(2:Nat) ^ (10:Nat) ∧
 (0:Int)≤IntKind.i64.wrap (a+(cutN l wl i)) ∧
 IntKind.i64.wrap (a+(cutN l wl i))≤IntKind.i64.wrap (a+(xO l i).2.2.1) ∧
 IntKind.i64.wrap (a+(xO l i).2.2.1)≤(s.length:Int) ∧
 ctO8.pre ((xO l i).1,Px.part s (some (IntKind.i64.wrap (a+(cutN l wl i)))) (some (IntKind.i64.wrap (a+(xO l i).2.2.1))),()) ∧
 0+(1:Nat)≤([(opK (xO l i).1 (Px.part s (some (IntKind.i64.wrap (a+(cutN l wl i)))) (some (IntKind.i64.wrap (a+(xO l i).2.2.1)))))]:List opS.D).length ∧
 q.length+(([(opK (2:Int) (Px.part s (some a) (some (IntKind.i64.wrap (a+(cutN l wl i))))))]:List opS.D)).length=(q++([(opK (2:Int) (Px.part s (some a) (some (IntKind.i64.wrap (a+(cutN l wl i))))))]:List opS.D)).length ∧
 (0:Nat)=(0:Nat) ∧
 q.length+(([(opK (2:Int) (Px.part s (some a) (some (IntKind.i64.wrap (a+(cutN l wl i))))))]:List opS.D)).length+(([(opK (xO l i).1 (Px.part s (some (IntKind.i64.wrap (a+(cutN l wl i)))) (some (IntKind.i64.wrap (a+(xO l i).2.2.1)))))]:List opS.D)).length<(2:Nat) ^ (30:Nat) ∧
 (56:Nat)≤(2:Nat) ^ (10:Nat) ∧
 R (hd Tryd.f24 0) { env:=[(1,.sl uB wl),(2,.ptr 2 0),(4,.ptr 4 0),(5,.sl syS s),(7,.ptr 7 0),(8,.int .i64 (IntKind.i64.wrap (a+(xO l i).2.2.1))),(9,.int .i64 (IntKind.i64.wrap ((i:Int)+(1:Int))))],blk:=[(2,.var [.bool li,.int .i64 m,.int .i64 o,.sl opS l]),(4,.var [.bool false,.int .i64 0,.int .i64 0,.nils]),(7,.var [.bool li,.int .i64 m,.int .i64 o,.win true opS 100 0 (q.length+(([(opK (2:Int) (Px.part s (some a) (some (IntKind.i64.wrap (a+(cutN l wl i))))))]:List opS.D)).length+(([(opK (xO l i).1 (Px.part s (some (IntKind.i64.wrap (a+(cutN l wl i)))) (some (IntKind.i64.wrap (a+(xO l i).2.2.1)))))]:List opS.D)).length)]),(100,.row 55 opS (q++([(opK (2:Int) (Px.part s (some a) (some (IntKind.i64.wrap (a+(cutN l wl i))))))]:List opS.D)++([(opK (xO l i).1 (Px.part s (some (IntKind.i64.wrap (a+(cutN l wl i)))) (some (IntKind.i64.wrap (a+(xO l i).2.2.1)))))]:List opS.D)))] }) ((0:Int)≤IntKind.i64.wrap (a+(cutN l wl i)) ∧
 IntKind.i64.wrap (a+(cutN l wl i))≤IntKind.i64.wrap (a+(xO l i).2.2.1) ∧
 IntKind.i64.wrap (a+(xO l i).2.2.1)≤(s.length:Int) ∧
 ctO8.pre ((xO l i).1,Px.part s (some (IntKind.i64.wrap (a+(cutN l wl i)))) (some (IntKind.i64.wrap (a+(xO l i).2.2.1))),()) ∧
 0+(1:Nat)≤([(opK (xO l i).1 (Px.part s (some (IntKind.i64.wrap (a+(cutN l wl i)))) (some (IntKind.i64.wrap (a+(xO l i).2.2.1)))))]:List opS.D).length ∧
 q.length=q.length ∧
 (0:Nat)=(0:Nat) ∧
 q.length+(([(opK (xO l i).1 (Px.part s (some (IntKind.i64.wrap (a+(cutN l wl i)))) (some (IntKind.i64.wrap (a+(xO l i).2.2.1)))))]:List opS.D)).length<(2:Nat) ^ (30:Nat) ∧
 (56:Nat)≤(2:Nat) ^ (10:Nat) ∧
 R (hd Tryd.f24 0) { env:=[(1,.sl uB wl),(2,.ptr 2 0),(4,.ptr 4 0),(5,.sl syS s),(7,.ptr 7 0),(8,.int .i64 (IntKind.i64.wrap (a+(xO l i).2.2.1))),(9,.int .i64 (IntKind.i64.wrap ((i:Int)+(1:Int))))],blk:=[(2,.var [.bool li,.int .i64 m,.int .i64 o,.sl opS l]),(4,.var [.bool false,.int .i64 0,.int .i64 0,.nils]),(7,.var [.bool li,.int .i64 m,.int .i64 o,.win true opS 100 0 (q.length+(([(opK (xO l i).1 (Px.part s (some (IntKind.i64.wrap (a+(cutN l wl i)))) (some (IntKind.i64.wrap (a+(xO l i).2.2.1)))))]:List opS.D)).length)]),(100,.row 55 opS (q++([(opK (xO l i).1 (Px.part s (some (IntKind.i64.wrap (a+(cutN l wl i)))) (some (IntKind.i64.wrap (a+(xO l i).2.2.1)))))]:List opS.D)))] }))) ((0:Int)≤(i:Int) ∧
 (i:Int)<(wl.length:Int) ∧
 bc (decide ((128:Int)≤gtB wl i)) (bc (decide ((xO l i).1=(3:Int))) (bc (decide ((0:Int)<(cutN l wl i))) ((0:Int)≤a ∧
 a≤IntKind.i64.wrap (a+(cutN l wl i)) ∧
 IntKind.i64.wrap (a+(cutN l wl i))≤(s.length:Int) ∧
 ctO8.pre ((4:Int),Px.part s (some a) (some (IntKind.i64.wrap (a+(cutN l wl i)))),()) ∧
 0+(1:Nat)≤([(opK (4:Int) (Px.part s (some a) (some (IntKind.i64.wrap (a+(cutN l wl i))))))]:List opS.D).length ∧
 q.length=q.length ∧
 (0:Nat)=(0:Nat) ∧
 q.length+(([(opK (4:Int) (Px.part s (some a) (some (IntKind.i64.wrap (a+(cutN l wl i))))))]:List opS.D)).length<(2:Nat) ^ (30:Nat) ∧
 (56:Nat)≤(2:Nat) ^ (10:Nat) ∧
 (0:Int)≤IntKind.i64.wrap (a+(cutN l wl i)) ∧
 IntKind.i64.wrap (a+(cutN l wl i))≤IntKind.i64.wrap (a+(xO l i).2.2.1) ∧
 IntKind.i64.wrap (a+(xO l i).2.2.1)≤(s.length:Int) ∧
 ctO8.pre ((xO l i).1,Px.part s (some (IntKind.i64.wrap (a+(cutN l wl i)))) (some (IntKind.i64.wrap (a+(xO l i).2.2.1))),()) ∧
 0+(1:Nat)≤([(opK (xO l i).1 (Px.part s (some (IntKind.i64.wrap (a+(cutN l wl i)))) (some (IntKind.i64.wrap (a+(xO l i).2.2.1)))))]:List opS.D).length ∧
 q.length+(([(opK (4:Int) (Px.part s (some a) (some (IntKind.i64.wrap (a+(cutN l wl i))))))]:List opS.D)).length=(q++([(opK (4:Int) (Px.part s (some a) (some (IntKind.i64.wrap (a+(cutN l wl i))))))]:List opS.D)).length ∧
 (0:Nat)=(0:Nat) ∧
 q.length+(([(opK (4:Int) (Px.part s (some a) (some (IntKind.i64.wrap (a+(cutN l wl i))))))]:List opS.D)).length+(([(opK (xO l i).1 (Px.part s (some (IntKind.i64.wrap (a+(cutN l wl i)))) (some (IntKind.i64.wrap (a+(xO l i).2.2.1)))))]:List opS.D)).length<(2:Nat) ^ (30:Nat) ∧
 (56:Nat)≤(2:Nat) ^ (10:Nat) ∧
 R (hd Tryd.f24 0) { env:=[(1,.sl uB wl),(2,.ptr 2 0),(4,.ptr 4 0),(5,.sl syS s),(7,.ptr 7 0),(8,.int .i64 (IntKind.i64.wrap (a+(xO l i).2.2.1))),(9,.int .i64 (IntKind.i64.wrap ((i:Int)+(1:Int))))],blk:=[(2,.var [.bool li,.int .i64 m,.int .i64 o,.sl opS l]),(4,.var [.bool false,.int .i64 0,.int .i64 0,.nils]),(7,.var [.bool li,.int .i64 m,.int .i64 o,.win true opS 100 0 (q.length+(([(opK (4:Int) (Px.part s (some a) (some (IntKind.i64.wrap (a+(cutN l wl i))))))]:List opS.D)).length+(([(opK (xO l i).1 (Px.part s (some (IntKind.i64.wrap (a+(cutN l wl i)))) (some (IntKind.i64.wrap (a+(xO l i).2.2.1)))))]:List opS.D)).length)]),(100,.row 55 opS (q++([(opK (4:Int) (Px.part s (some a) (some (IntKind.i64.wrap (a+(cutN l wl i))))))]:List opS.D)++([(opK (xO l i).1 (Px.part s (some (IntKind.i64.wrap (a+(cutN l wl i)))) (some (IntKind.i64.wrap (a+(xO l i).2.2.1)))))]:List opS.D)))] }) ((0:Int)≤IntKind.i64.wrap (a+(cutN l wl i)) ∧
 IntKind.i64.wrap (a+(cutN l wl i))≤IntKind.i64.wrap (a+(xO l i).2.2.1) ∧
 IntKind.i64.wrap (a+(xO l i).2.2.1)≤(s.length:Int) ∧
 ctO8.pre ((xO l i).1,Px.part s (some (IntKind.i64.wrap (a+(cutN l wl i)))) (some (IntKind.i64.wrap (a+(xO l i).2.2.1))),()) ∧
 0+(1:Nat)≤([(opK (xO l i).1 (Px.part s (some (IntKind.i64.wrap (a+(cutN l wl i)))) (some (IntKind.i64.wrap (a+(xO l i).2.2.1)))))]:List opS.D).length ∧
 q.length=q.length ∧
 (0:Nat)=(0:Nat) ∧
 q.length+(([(opK (xO l i).1 (Px.part s (some (IntKind.i64.wrap (a+(cutN l wl i)))) (some (IntKind.i64.wrap (a+(xO l i).2.2.1)))))]:List opS.D)).length<(2:Nat) ^ (30:Nat) ∧
 (56:Nat)≤(2:Nat) ^ (10:Nat) ∧
 R (hd Tryd.f24 0) { env:=[(1,.sl uB wl),(2,.ptr 2 0),(4,.ptr 4 0),(5,.sl syS s),(7,.ptr 7 0),(8,.int .i64 (IntKind.i64.wrap (a+(xO l i).2.2.1))),(9,.int .i64 (IntKind.i64.wrap ((i:Int)+(1:Int))))],blk:=[(2,.var [.bool li,.int .i64 m,.int .i64 o,.sl opS l]),(4,.var [.bool false,.int .i64 0,.int .i64 0,.nils]),(7,.var [.bool li,.int .i64 m,.int .i64 o,.win true opS 100 0 (q.length+(([(opK (xO l i).1 (Px.part s (some (IntKind.i64.wrap (a+(cutN l wl i)))) (some (IntKind.i64.wrap (a+(xO l i).2.2.1)))))]:List opS.D)).length)]),(100,.row 55 opS (q++([(opK (xO l i).1 (Px.part s (some (IntKind.i64.wrap (a+(cutN l wl i)))) (some (IntKind.i64.wrap (a+(xO l i).2.2.1)))))]:List opS.D)))] })) (bc (decide ((0:Int)<(cutN l wl i))) ((0:Int)≤a ∧
 a≤IntKind.i64.wrap (a+(cutN l wl i)) ∧
 IntKind.i64.wrap (a+(cutN l wl i))≤(s.length:Int) ∧
 ctO8.pre ((xO l i).1,Px.part s (some a) (some (IntKind.i64.wrap (a+(cutN l wl i)))),()) ∧
 0+(1:Nat)≤([(opK (xO l i).1 (Px.part s (some a) (some (IntKind.i64.wrap (a+(cutN l wl i))))))]:List opS.D).length ∧
 q.length=q.length ∧
 (0:Nat)=(0:Nat) ∧
 q.length+(([(opK (xO l i).1 (Px.part s (some a) (some (IntKind.i64.wrap (a+(cutN l wl i))))))]:List opS.D)).length<(2:Nat) ^ (30:Nat) ∧
 (56:Nat)≤(2:Nat) ^ (10:Nat) ∧
 (0:Int)≤IntKind.i64.wrap (a+(cutN l wl i)) ∧
 IntKind.i64.wrap (a+(cutN l wl i))≤IntKind.i64.wrap (a+(xO l i).2.2.1) ∧
 IntKind.i64.wrap (a+(xO l i).2.2.1)≤(s.length:Int) ∧
 ctO8.pre ((xO l i).1,Px.part s (some (IntKind.i64.wrap (a+(cutN l wl i)))) (some (IntKind.i64.wrap (a+(xO l i).2.2.1))),()) ∧
 0+(1:Nat)≤([(opK (xO l i).1 (Px.part s (some (IntKind.i64.wrap (a+(cutN l wl i)))) (some (IntKind.i64.wrap (a+(xO l i).2.2.1)))))]:List opS.D).length ∧
 q.length+(([(opK (xO l i).1 (Px.part s (some a) (some (IntKind.i64.wrap (a+(cutN l wl i))))))]:List opS.D)).length=(q++([(opK (xO l i).1 (Px.part s (some a) (some (IntKind.i64.wrap (a+(cutN l wl i))))))]:List opS.D)).length ∧
 (0:Nat)=(0:Nat) ∧
 q.length+(([(opK (xO l i).1 (Px.part s (some a) (some (IntKind.i64.wrap (a+(cutN l wl i))))))]:List opS.D)).length+(([(opK (xO l i).1 (Px.part s (some (IntKind.i64.wrap (a+(cutN l wl i)))) (some (IntKind.i64.wrap (a+(xO l i).2.2.1)))))]:List opS.D)).length<(2:Nat) ^ (30:Nat) ∧
 (56:Nat)≤(2:Nat) ^ (10:Nat) ∧
 R (hd Tryd.f24 0) { env:=[(1,.sl uB wl),(2,.ptr 2 0),(4,.ptr 4 0),(5,.sl syS s),(7,.ptr 7 0),(8,.int .i64 (IntKind.i64.wrap (a+(xO l i).2.2.1))),(9,.int .i64 (IntKind.i64.wrap ((i:Int)+(1:Int))))],blk:=[(2,.var [.bool li,.int .i64 m,.int .i64 o,.sl opS l]),(4,.var [.bool false,.int .i64 0,.int .i64 0,.nils]),(7,.var [.bool li,.int .i64 m,.int .i64 o,.win true opS 100 0 (q.length+(([(opK (xO l i).1 (Px.part s (some a) (some (IntKind.i64.wrap (a+(cutN l wl i))))))]:List opS.D)).length+(([(opK (xO l i).1 (Px.part s (some (IntKind.i64.wrap (a+(cutN l wl i)))) (some (IntKind.i64.wrap (a+(xO l i).2.2.1)))))]:List opS.D)).length)]),(100,.row 55 opS (q++([(opK (xO l i).1 (Px.part s (some a) (some (IntKind.i64.wrap (a+(cutN l wl i))))))]:List opS.D)++([(opK (xO l i).1 (Px.part s (some (IntKind.i64.wrap (a+(cutN l wl i)))) (some (IntKind.i64.wrap (a+(xO l i).2.2.1)))))]:List opS.D)))] }) ((0:Int)≤IntKind.i64.wrap (a+(cutN l wl i)) ∧
 IntKind.i64.wrap (a+(cutN l wl i))≤IntKind.i64.wrap (a+(xO l i).2.2.1) ∧
 IntKind.i64.wrap (a+(xO l i).2.2.1)≤(s.length:Int) ∧
 ctO8.pre ((xO l i).1,Px.part s (some (IntKind.i64.wrap (a+(cutN l wl i)))) (some (IntKind.i64.wrap (a+(xO l i).2.2.1))),()) ∧
 0+(1:Nat)≤([(opK (xO l i).1 (Px.part s (some (IntKind.i64.wrap (a+(cutN l wl i)))) (some (IntKind.i64.wrap (a+(xO l i).2.2.1)))))]:List opS.D).length ∧
 q.length=q.length ∧
 (0:Nat)=(0:Nat) ∧
 q.length+(([(opK (xO l i).1 (Px.part s (some (IntKind.i64.wrap (a+(cutN l wl i)))) (some (IntKind.i64.wrap (a+(xO l i).2.2.1)))))]:List opS.D)).length<(2:Nat) ^ (30:Nat) ∧
 (56:Nat)≤(2:Nat) ^ (10:Nat) ∧
 R (hd Tryd.f24 0) { env:=[(1,.sl uB wl),(2,.ptr 2 0),(4,.ptr 4 0),(5,.sl syS s),(7,.ptr 7 0),(8,.int .i64 (IntKind.i64.wrap (a+(xO l i).2.2.1))),(9,.int .i64 (IntKind.i64.wrap ((i:Int)+(1:Int))))],blk:=[(2,.var [.bool li,.int .i64 m,.int .i64 o,.sl opS l]),(4,.var [.bool false,.int .i64 0,.int .i64 0,.nils]),(7,.var [.bool li,.int .i64 m,.int .i64 o,.win true opS 100 0 (q.length+(([(opK (xO l i).1 (Px.part s (some (IntKind.i64.wrap (a+(cutN l wl i)))) (some (IntKind.i64.wrap (a+(xO l i).2.2.1)))))]:List opS.D)).length)]),(100,.row 55 opS (q++([(opK (xO l i).1 (Px.part s (some (IntKind.i64.wrap (a+(cutN l wl i)))) (some (IntKind.i64.wrap (a+(xO l i).2.2.1)))))]:List opS.D)))] }))) (false=false ∧
 bc (decide ((0:Int)<(cutN l wl i))) ((0:Int)≤a ∧
 a≤IntKind.i64.wrap (a+(cutN l wl i)) ∧
 IntKind.i64.wrap (a+(cutN l wl i))≤(s.length:Int) ∧
 ctO8.pre ((xO l i).1,Px.part s (some a) (some (IntKind.i64.wrap (a+(cutN l wl i)))),()) ∧
 0+(1:Nat)≤([(opK (xO l i).1 (Px.part s (some a) (some (IntKind.i64.wrap (a+(cutN l wl i))))))]:List opS.D).length ∧
 q.length=q.length ∧
 (0:Nat)=(0:Nat) ∧
 q.length+(([(opK (xO l i).1 (Px.part s (some a) (some (IntKind.i64.wrap (a+(cutN l wl i))))))]:List opS.D)).length<(2:Nat) ^ (30:Nat) ∧
 (56:Nat)≤(2:Nat) ^ (10:Nat) ∧
 (0:Int)≤IntKind.i64.wrap (a+(cutN l wl i)) ∧
 IntKind.i64.wrap (a+(cutN l wl i))≤IntKind.i64.wrap (a+(xO l i).2.2.1) ∧
 IntKind.i64.wrap (a+(xO l i).2.2.1)≤(s.length:Int) ∧
 ctO8.pre ((xO l i).1,Px.part s (some (IntKind.i64.wrap (a+(cutN l wl i)))) (some (IntKind.i64.wrap (a+(xO l i).2.2.1))),()) ∧
 0+(1:Nat)≤([(opK (xO l i).1 (Px.part s (some (IntKind.i64.wrap (a+(cutN l wl i)))) (some (IntKind.i64.wrap (a+(xO l i).2.2.1)))))]:List opS.D).length ∧
 q.length+(([(opK (xO l i).1 (Px.part s (some a) (some (IntKind.i64.wrap (a+(cutN l wl i))))))]:List opS.D)).length=(q++([(opK (xO l i).1 (Px.part s (some a) (some (IntKind.i64.wrap (a+(cutN l wl i))))))]:List opS.D)).length ∧
 (0:Nat)=(0:Nat) ∧
 q.length+(([(opK (xO l i).1 (Px.part s (some a) (some (IntKind.i64.wrap (a+(cutN l wl i))))))]:List opS.D)).length+(([(opK (xO l i).1 (Px.part s (some (IntKind.i64.wrap (a+(cutN l wl i)))) (some (IntKind.i64.wrap (a+(xO l i).2.2.1)))))]:List opS.D)).length<(2:Nat) ^ (30:Nat) ∧
 (56:Nat)≤(2:Nat) ^ (10:Nat) ∧
 R (hd Tryd.f24 0) { env:=[(1,.sl uB wl),(2,.ptr 2 0),(4,.ptr 4 0),(5,.sl syS s),(7,.ptr 7 0),(8,.int .i64 (IntKind.i64.wrap (a+(xO l i).2.2.1))),(9,.int .i64 (IntKind.i64.wrap ((i:Int)+(1:Int))))],blk:=[(2,.var [.bool li,.int .i64 m,.int .i64 o,.sl opS l]),(4,.var [.bool false,.int .i64 0,.int .i64 0,.nils]),(7,.var [.bool li,.int .i64 m,.int .i64 o,.win true opS 100 0 (q.length+(([(opK (xO l i).1 (Px.part s (some a) (some (IntKind.i64.wrap (a+(cutN l wl i))))))]:List opS.D)).length+(([(opK (xO l i).1 (Px.part s (some (IntKind.i64.wrap (a+(cutN l wl i)))) (some (IntKind.i64.wrap (a+(xO l i).2.2.1)))))]:List opS.D)).length)]),(100,.row 55 opS (q++([(opK (xO l i).1 (Px.part s (some a) (some (IntKind.i64.wrap (a+(cutN l wl i))))))]:List opS.D)++([(opK (xO l i).1 (Px.part s (some (IntKind.i64.wrap (a+(cutN l wl i)))) (some (IntKind.i64.wrap (a+(xO l i).2.2.1)))))]:List opS.D)))] }) ((0:Int)≤IntKind.i64.wrap (a+(cutN l wl i)) ∧
 IntKind.i64.wrap (a+(cutN l wl i))≤IntKind.i64.wrap (a+(xO l i).2.2.1) ∧
 IntKind.i64.wrap (a+(xO l i).2.2.1)≤(s.length:Int) ∧
 ctO8.pre ((xO l i).1,Px.part s (some (IntKind.i64.wrap (a+(cutN l wl i)))) (some (IntKind.i64.wrap (a+(xO l i).2.2.1))),()) ∧
 0+(1:Nat)≤([(opK (xO l i).1 (Px.part s (some (IntKind.i64.wrap (a+(cutN l wl i)))) (some (IntKind.i64.wrap (a+(xO l i).2.2.1)))))]:List opS.D).length ∧
 q.length=q.length ∧
 (0:Nat)=(0:Nat) ∧
 q.length+(([(opK (xO l i).1 (Px.part s (some (IntKind.i64.wrap (a+(cutN l wl i)))) (some (IntKind.i64.wrap (a+(xO l i).2.2.1)))))]:List opS.D)).length<(2:Nat) ^ (30:Nat) ∧
 (56:Nat)≤(2:Nat) ^ (10:Nat) ∧
 R (hd Tryd.f24 0) { env:=[(1,.sl uB wl),(2,.ptr 2 0),(4,.ptr 4 0),(5,.sl syS s),(7,.ptr 7 0),(8,.int .i64 (IntKind.i64.wrap (a+(xO l i).2.2.1))),(9,.int .i64 (IntKind.i64.wrap ((i:Int)+(1:Int))))],blk:=[(2,.var [.bool li,.int .i64 m,.int .i64 o,.sl opS l]),(4,.var [.bool false,.int .i64 0,.int .i64 0,.nils]),(7,.var [.bool li,.int .i64 m,.int .i64 o,.win true opS 100 0 (q.length+(([(opK (xO l i).1 (Px.part s (some (IntKind.i64.wrap (a+(cutN l wl i)))) (some (IntKind.i64.wrap (a+(xO l i).2.2.1)))))]:List opS.D)).length)]),(100,.row 55 opS (q++([(opK (xO l i).1 (Px.part s (some (IntKind.i64.wrap (a+(cutN l wl i)))) (some (IntKind.i64.wrap (a+(xO l i).2.2.1)))))]:List opS.D)))] })))) (false=false ∧
 (0:Int)≤(i:Int) ∧
 (i:Int)<(wl.length:Int) ∧
 bc (decide ((128:Int)≤gtB wl i)) (bc (decide ((xO l i).1=(3:Int))) (bc (decide ((0:Int)<(cutN l wl i))) ((0:Int)≤a ∧
 a≤IntKind.i64.wrap (a+(cutN l wl i)) ∧
 IntKind.i64.wrap (a+(cutN l wl i))≤(s.length:Int) ∧
 ctO8.pre ((4:Int),Px.part s (some a) (some (IntKind.i64.wrap (a+(cutN l wl i)))),()) ∧
 0+(1:Nat)≤([(opK (4:Int) (Px.part s (some a) (some (IntKind.i64.wrap (a+(cutN l wl i))))))]:List opS.D).length ∧
 q.length=q.length ∧
 (0:Nat)=(0:Nat) ∧
 q.length+(([(opK (4:Int) (Px.part s (some a) (some (IntKind.i64.wrap (a+(cutN l wl i))))))]:List opS.D)).length<(2:Nat) ^ (30:Nat) ∧
 (56:Nat)≤(2:Nat) ^ (10:Nat) ∧
 (0:Int)≤IntKind.i64.wrap (a+(cutN l wl i)) ∧
 IntKind.i64.wrap (a+(cutN l wl i))≤IntKind.i64.wrap (a+(xO l i).2.2.1) ∧
 IntKind.i64.wrap (a+(xO l i).2.2.1)≤(s.length:Int) ∧
 ctO8.pre ((xO l i).1,Px.part s (some (IntKind.i64.wrap (a+(cutN l wl i)))) (some (IntKind.i64.wrap (a+(xO l i).2.2.1))),()) ∧
 0+(1:Nat)≤([(opK (xO l i).1 (Px.part s (some (IntKind.i64.wrap (a+(cutN l wl i)))) (some (IntKind.i64.wrap (a+(xO l i).2.2.1)))))]:List opS.D).length ∧
 q.length+(([(opK (4:Int) (Px.part s (some a) (some (IntKind.i64.wrap (a+(cutN l wl i))))))]:List opS.D)).length=(q++([(opK (4:Int) (Px.part s (some a) (some (IntKind.i64.wrap (a+(cutN l wl i))))))]:List opS.D)).length ∧
 (0:Nat)=(0:Nat) ∧
 q.length+(([(opK (4:Int) (Px.part s (some a) (some (IntKind.i64.wrap (a+(cutN l wl i))))))]:List opS.D)).length+(([(opK (xO l i).1 (Px.part s (some (IntKind.i64.wrap (a+(cutN l wl i)))) (some (IntKind.i64.wrap (a+(xO l i).2.2.1)))))]:List opS.D)).length<(2:Nat) ^ (30:Nat) ∧
 (56:Nat)≤(2:Nat) ^ (10:Nat) ∧
 R (hd Tryd.f24 0) { env:=[(1,.sl uB wl),(2,.ptr 2 0),(4,.ptr 4 0),(5,.sl syS s),(7,.ptr 7 0),(8,.int .i64 (IntKind.i64.wrap (a+(xO l i).2.2.1))),(9,.int .i64 (IntKind.i64.wrap ((i:Int)+(1:Int))))],blk:=[(2,.var [.bool li,.int .i64 m,.int .i64 o,.sl opS l]),(4,.var [.bool false,.int .i64 0,.int .i64 0,.nils]),(7,.var [.bool li,.int .i64 m,.int .i64 o,.win true opS 100 0 (q.length+(([(opK (4:Int) (Px.part s (some a) (some (IntKind.i64.wrap (a+(cutN l wl i))))))]:List opS.D)).length+(([(opK (xO l i).1 (Px.part s (some (IntKind.i64.wrap (a+(cutN l wl i)))) (some (IntKind.i64.wrap (a+(xO l i).2.2.1)))))]:List opS.D)).length)]),(100,.row 55 opS (q++([(opK (4:Int) (Px.part s (some a) (some (IntKind.i64.wrap (a+(cutN l wl i))))))]:List opS.D)++([(opK (xO l i).1 (Px.part s (some (IntKind.i64.wrap (a+(cutN l wl i)))) (some (IntKind.i64.wrap (a+(xO l i).2.2.1)))))]:List opS.D)))] }) ((0:Int)≤IntKind.i64.wrap (a+(cutN l wl i)) ∧
 IntKind.i64.wrap (a+(cutN l wl i))≤IntKind.i64.wrap (a+(xO l i).2.2.1) ∧
 IntKind.i64.wrap (a+(xO l i).2.2.1)≤(s.length:Int) ∧
 ctO8.pre ((xO l i).1,Px.part s (some (IntKind.i64.wrap (a+(cutN l wl i)))) (some (IntKind.i64.wrap (a+(xO l i).2.2.1))),()) ∧
 0+(1:Nat)≤([(opK (xO l i).1 (Px.part s (some (IntKind.i64.wrap (a+(cutN l wl i)))) (some (IntKind.i64.wrap (a+(xO l i).2.2.1)))))]:List opS.D).length ∧
 q.length=q.length ∧
 (0:Nat)=(0:Nat) ∧
 q.length+(([(opK (xO l i).1 (Px.part s (some (IntKind.i64.wrap (a+(cutN l wl i)))) (some (IntKind.i64.wrap (a+(xO l i).2.2.1)))))]:List opS.D)).length<(2:Nat) ^ (30:Nat) ∧
 (56:Nat)≤(2:Nat) ^ (10:Nat) ∧
 R (hd Tryd.f24 0) { env:=[(1,.sl uB wl),(2,.ptr 2 0),(4,.ptr 4 0),(5,.sl syS s),(7,.ptr 7 0),(8,.int .i64 (IntKind.i64.wrap (a+(xO l i).2.2.1))),(9,.int .i64 (IntKind.i64.wrap ((i:Int)+(1:Int))))],blk:=[(2,.var [.bool li,.int .i64 m,.int .i64 o,.sl opS l]),(4,.var [.bool false,.int .i64 0,.int .i64 0,.nils]),(7,.var [.bool li,.int .i64 m,.int .i64 o,.win true opS 100 0 (q.length+(([(opK (xO l i).1 (Px.part s (some (IntKind.i64.wrap (a+(cutN l wl i)))) (some (IntKind.i64.wrap (a+(xO l i).2.2.1)))))]:List opS.D)).length)]),(100,.row 55 opS (q++([(opK (xO l i).1 (Px.part s (some (IntKind.i64.wrap (a+(cutN l wl i)))) (some (IntKind.i64.wrap (a+(xO l i).2.2.1)))))]:List opS.D)))] })) (bc (decide ((0:Int)<(cutN l wl i))) ((0:Int)≤a ∧
 a≤IntKind.i64.wrap (a+(cutN l wl i)) ∧
 IntKind.i64.wrap (a+(cutN l wl i))≤(s.length:Int) ∧
 ctO8.pre ((xO l i).1,Px.part s (some a) (some (IntKind.i64.wrap (a+(cutN l wl i)))),()) ∧
 0+(1:Nat)≤([(opK (xO l i).1 (Px.part s (some a) (some (IntKind.i64.wrap (a+(cutN l wl i))))))]:List opS.D).length ∧
 q.length=q.length ∧
 (0:Nat)=(0:Nat) ∧
 q.length+(([(opK (xO l i).1 (Px.part s (some a) (some (IntKind.i64.wrap (a+(cutN l wl i))))))]:List opS.D)).length<(2:Nat) ^ (30:Nat) ∧
 (56:Nat)≤(2:Nat) ^ (10:Nat) ∧
 (0:Int)≤IntKind.i64.wrap (a+(cutN l wl i)) ∧
 IntKind.i64.wrap (a+(cutN l wl i))≤IntKind.i64.wrap (a+(xO l i).2.2.1) ∧
 IntKind.i64.wrap (a+(xO l i).2.2.1)≤(s.length:Int) ∧
 ctO8.pre ((xO l i).1,Px.part s (some (IntKind.i64.wrap (a+(cutN l wl i)))) (some (IntKind.i64.wrap (a+(xO l i).2.2.1))),()) ∧
 0+(1:Nat)≤([(opK (xO l i).1 (Px.part s (some (IntKind.i64.wrap (a+(cutN l wl i)))) (some (IntKind.i64.wrap (a+(xO l i).2.2.1)))))]:List opS.D).length ∧
 q.length+(([(opK (xO l i).1 (Px.part s (some a) (some (IntKind.i64.wrap (a+(cutN l wl i))))))]:List opS.D)).length=(q++([(opK (xO l i).1 (Px.part s (some a) (some (IntKind.i64.wrap (a+(cutN l wl i))))))]:List opS.D)).length ∧
 (0:Nat)=(0:Nat) ∧
 q.length+(([(opK (xO l i).1 (Px.part s (some a) (some (IntKind.i64.wrap (a+(cutN l wl i))))))]:List opS.D)).length+(([(opK (xO l i).1 (Px.part s (some (IntKind.i64.wrap (a+(cutN l wl i)))) (some (IntKind.i64.wrap (a+(xO l i).2.2.1)))))]:List opS.D)).length<(2:Nat) ^ (30:Nat) ∧
 (56:Nat)≤(2:Nat) ^ (10:Nat) ∧
 R (hd Tryd.f24 0) { env:=[(1,.sl uB wl),(2,.ptr 2 0),(4,.ptr 4 0),(5,.sl syS s),(7,.ptr 7 0),(8,.int .i64 (IntKind.i64.wrap (a+(xO l i).2.2.1))),(9,.int .i64 (IntKind.i64.wrap ((i:Int)+(1:Int))))],blk:=[(2,.var [.bool li,.int .i64 m,.int .i64 o,.sl opS l]),(4,.var [.bool false,.int .i64 0,.int .i64 0,.nils]),(7,.var [.bool li,.int .i64 m,.int .i64 o,.win true opS 100 0 (q.length+(([(opK (xO l i).1 (Px.part s (some a) (some (IntKind.i64.wrap (a+(cutN l wl i))))))]:List opS.D)).length+(([(opK (xO l i).1 (Px.part s (some (IntKind.i64.wrap (a+(cutN l wl i)))) (some (IntKind.i64.wrap (a+(xO l i).2.2.1)))))]:List opS.D)).length)]),(100,.row 55 opS (q++([(opK (xO l i).1 (Px.part s (some a) (some (IntKind.i64.wrap (a+(cutN l wl i))))))]:List opS.D)++([(opK (xO l i).1 (Px.part s (some (IntKind.i64.wrap (a+(cutN l wl i)))) (some (IntKind.i64.wrap (a+(xO l i).2.2.1)))))]:List opS.D)))] }) ((0:Int)≤IntKind.i64.wrap (a+(cutN l wl i)) ∧
 IntKind.i64.wrap (a+(cutN l wl i))≤IntKind.i64.wrap (a+(xO l i).2.2.1) ∧
 IntKind.i64.wrap (a+(xO l i).2.2.1)≤(s.length:Int) ∧
 ctO8.pre ((xO l i).1,Px.part s (some (IntKind.i64.wrap (a+(cutN l wl i)))) (some (IntKind.i64.wrap (a+(xO l i).2.2.1))),()) ∧
 0+(1:Nat)≤([(opK (xO l i).1 (Px.part s (some (IntKind.i64.wrap (a+(cutN l wl i)))) (some (IntKind.i64.wrap (a+(xO l i).2.2.1)))))]:List opS.D).length ∧
 q.length=q.length ∧
 (0:Nat)=(0:Nat) ∧
 q.length+(([(opK (xO l i).1 (Px.part s (some (IntKind.i64.wrap (a+(cutN l wl i)))) (some (IntKind.i64.wrap (a+(xO l i).2.2.1)))))]:List opS.D)).length<(2:Nat) ^ (30:Nat) ∧
 (56:Nat)≤(2:Nat) ^ (10:Nat) ∧
 R (hd Tryd.f24 0) { env:=[(1,.sl uB wl),(2,.ptr 2 0),(4,.ptr 4 0),(5,.sl syS s),(7,.ptr 7 0),(8,.int .i64 (IntKind.i64.wrap (a+(xO l i).2.2.1))),(9,.int .i64 (IntKind.i64.wrap ((i:Int)+(1:Int))))],blk:=[(2,.var [.bool li,.int .i64 m,.int .i64 o,.sl opS l]),(4,.var [.bool false,.int .i64 0,.int .i64 0,.nils]),(7,.var [.bool li,.int .i64 m,.int .i64 o,.win true opS 100 0 (q.length+(([(opK (xO l i).1 (Px.part s (some (IntKind.i64.wrap (a+(cutN l wl i)))) (some (IntKind.i64.wrap (a+(xO l i).2.2.1)))))]:List opS.D)).length)]),(100,.row 55 opS (q++([(opK (xO l i).1 (Px.part s (some (IntKind.i64.wrap (a+(cutN l wl i)))) (some (IntKind.i64.wrap (a+(xO l i).2.2.1)))))]:List opS.D)))] }))) (false=false ∧
 bc (decide ((0:Int)<(cutN l wl i))) ((0:Int)≤a ∧
 a≤IntKind.i64.wrap (a+(cutN l wl i)) ∧
 IntKind.i64.wrap (a+(cutN l wl i))≤(s.length:Int) ∧
 ctO8.pre ((xO l i).1,Px.part s (some a) (some (IntKind.i64.wrap (a+(cutN l wl i)))),()) ∧
 0+(1:Nat)≤([(opK (xO l i).1 (Px.part s (some a) (some (IntKind.i64.wrap (a+(cutN l wl i))))))]:List opS.D).length ∧
 q.length=q.length ∧
 (0:Nat)=(0:Nat) ∧
 q.length+(([(opK (xO l i).1 (Px.part s (some a) (some (IntKind.i64.wrap (a+(cutN l wl i))))))]:List opS.D)).length<(2:Nat) ^ (30:Nat) ∧
 (56:Nat)≤(2:Nat) ^ (10:Nat) ∧
 (0:Int)≤IntKind.i64.wrap (a+(cutN l wl i)) ∧
 IntKind.i64.wrap (a+(cutN l wl i))≤IntKind.i64.wrap (a+(xO l i).2.2.1) ∧
 IntKind.i64.wrap (a+(xO l i).2.2.1)≤(s.length:Int) ∧
 ctO8.pre ((xO l i).1,Px.part s (some (IntKind.i64.wrap (a+(cutN l wl i)))) (some (IntKind.i64.wrap (a+(xO l i).2.2.1))),()) ∧
 0+(1:Nat)≤([(opK (xO l i).1 (Px.part s (some (IntKind.i64.wrap (a+(cutN l wl i)))) (some (IntKind.i64.wrap (a+(xO l i).2.2.1)))))]:List opS.D).length ∧
 q.length+(([(opK (xO l i).1 (Px.part s (some a) (some (IntKind.i64.wrap (a+(cutN l wl i))))))]:List opS.D)).length=(q++([(opK (xO l i).1 (Px.part s (some a) (some (IntKind.i64.wrap (a+(cutN l wl i))))))]:List opS.D)).length ∧
 (0:Nat)=(0:Nat) ∧
 q.length+(([(opK (xO l i).1 (Px.part s (some a) (some (IntKind.i64.wrap (a+(cutN l wl i))))))]:List opS.D)).length+(([(opK (xO l i).1 (Px.part s (some (IntKind.i64.wrap (a+(cutN l wl i)))) (some (IntKind.i64.wrap (a+(xO l i).2.2.1)))))]:List opS.D)).length<(2:Nat) ^ (30:Nat) ∧
 (56:Nat)≤(2:Nat) ^ (10:Nat) ∧
 R (hd Tryd.f24 0) { env:=[(1,.sl uB wl),(2,.ptr 2 0),(4,.ptr 4 0),(5,.sl syS s),(7,.ptr 7 0),(8,.int .i64 (IntKind.i64.wrap (a+(xO l i).2.2.1))),(9,.int .i64 (IntKind.i64.wrap ((i:Int)+(1:Int))))],blk:=[(2,.var [.bool li,.int .i64 m,.int .i64 o,.sl opS l]),(4,.var [.bool false,.int .i64 0,.int .i64 0,.nils]),(7,.var [.bool li,.int .i64 m,.int .i64 o,.win true opS 100 0 (q.length+(([(opK (xO l i).1 (Px.part s (some a) (some (IntKind.i64.wrap (a+(cutN l wl i))))))]:List opS.D)).length+(([(opK (xO l i).1 (Px.part s (some (IntKind.i64.wrap (a+(cutN l wl i)))) (some (IntKind.i64.wrap (a+(xO l i).2.2.1)))))]:List opS.D)).length)]),(100,.row 55 opS (q++([(opK (xO l i).1 (Px.part s (some a) (some (IntKind.i64.wrap (a+(cutN l wl i))))))]:List opS.D)++([(opK (xO l i).1 (Px.part s (some (IntKind.i64.wrap (a+(cutN l wl i)))) (some (IntKind.i64.wrap (a+(xO l i).2.2.1)))))]:List opS.D)))] }) ((0:Int)≤IntKind.i64.wrap (a+(cutN l wl i)) ∧
 IntKind.i64.wrap (a+(cutN l wl i))≤IntKind.i64.wrap (a+(xO l i).2.2.1) ∧
 IntKind.i64.wrap (a+(xO l i).2.2.1)≤(s.length:Int) ∧
 ctO8.pre ((xO l i).1,Px.part s (some (IntKind.i64.wrap (a+(cutN l wl i)))) (some (IntKind.i64.wrap (a+(xO l i).2.2.1))),()) ∧
 0+(1:Nat)≤([(opK (xO l i).1 (Px.part s (some (IntKind.i64.wrap (a+(cutN l wl i)))) (some (IntKind.i64.wrap (a+(xO l i).2.2.1)))))]:List opS.D).length ∧
 q.length=q.length ∧
 (0:Nat)=(0:Nat) ∧
 q.length+(([(opK (xO l i).1 (Px.part s (some (IntKind.i64.wrap (a+(cutN l wl i)))) (some (IntKind.i64.wrap (a+(xO l i).2.2.1)))))]:List opS.D)).length<(2:Nat) ^ (30:Nat) ∧
 (56:Nat)≤(2:Nat) ^ (10:Nat) ∧
 R (hd Tryd.f24 0) { env:=[(1,.sl uB wl),(2,.ptr 2 0),(4,.ptr 4 0),(5,.sl syS s),(7,.ptr 7 0),(8,.int .i64 (IntKind.i64.wrap (a+(xO l i).2.2.1))),(9,.int .i64 (IntKind.i64.wrap ((i:Int)+(1:Int))))],blk:=[(2,.var [.bool li,.int .i64 m,.int .i64 o,.sl opS l]),(4,.var [.bool false,.int .i64 0,.int .i64 0,.nils]),(7,.var [.bool li,.int .i64 m,.int .i64 o,.win true opS 100 0 (q.length+(([(opK (xO l i).1 (Px.part s (some (IntKind.i64.wrap (a+(cutN l wl i)))) (some (IntKind.i64.wrap (a+(xO l i).2.2.1)))))]:List opS.D)).length)]),(100,.row 55 opS (q++([(opK (xO l i).1 (Px.part s (some (IntKind.i64.wrap (a+(cutN l wl i)))) (some (IntKind.i64.wrap (a+(xO l i).2.2.1)))))]:List opS.D)))] })))) ((0:Int)≤IntKind.i64.wrap (a+(0:Int)) ∧
 IntKind.i64.wrap (a+(0:Int))≤IntKind.i64.wrap (a+(xO l i).2.2.1) ∧
 IntKind.i64.wrap (a+(xO l i).2.2.1)≤(s.length:Int) ∧
 ctO8.pre ((xO l i).1,Px.part s (some (IntKind.i64.wrap (a+(0:Int)))) (some (IntKind.i64.wrap (a+(xO l i).2.2.1))),()) ∧
 0+(1:Nat)≤([(opK (xO l i).1 (Px.part s (some (IntKind.i64.wrap (a+(0:Int)))) (some (IntKind.i64.wrap (a+(xO l i).2.2.1)))))]:List opS.D).length ∧
 q.length=q.length ∧
 (0:Nat)=(0:Nat) ∧
 q.length+(([(opK (xO l i).1 (Px.part s (some (IntKind.i64.wrap (a+(0:Int)))) (some (IntKind.i64.wrap (a+(xO l i).2.2.1)))))]:List opS.D)).length<(2:Nat) ^ (30:Nat) ∧
 (56:Nat)≤(2:Nat) ^ (10:Nat) ∧
 R (hd Tryd.f24 0) { env:=[(1,.sl uB wl),(2,.ptr 2 0),(4,.ptr 4 0),(5,.sl syS s),(7,.ptr 7 0),(8,.int .i64 (IntKind.i64.wrap (a+(xO l i).2.2.1))),(9,.int .i64 (IntKind.i64.wrap ((i:Int)+(1:Int))))],blk:=[(2,.var [.bool li,.int .i64 m,.int .i64 o,.sl opS l]),(4,.var [.bool false,.int .i64 0,.int .i64 0,.nils]),(7,.var [.bool li,.int .i64 m,.int .i64 o,.win true opS 100 0 (q.length+(([(opK (xO l i).1 (Px.part s (some (IntKind.i64.wrap (a+(0:Int)))) (some (IntKind.i64.wrap (a+(xO l i).2.2.1)))))]:List opS.D)).length)]),(100,.row 55 opS (q++([(opK (xO l i).1 (Px.part s (some (IntKind.i64.wrap (a+(0:Int)))) (some (IntKind.i64.wrap (a+(xO l i).2.2.1)))))]:List opS.D)))] })) (Q [.agg [.bool li,.int .i64 m,.int .i64 o,.win true opS 100 0 q.length]] [(2,.var [.bool li,.int .i64 m,.int .i64 o,.sl opS l]),(4,.var [.bool li,.int .i64 m,.int .i64 o,.win true opS 100 0 q.length]),(7,.var [.bool li,.int .i64 m,.int .i64 o,.win true opS 100 0 q.length]),(100,.row 55 opS q)])):=by kernel_rfl
end Go.Proofs.YtkiicobbnllpkaaDoor
namespace Go.Proofs.YtkiicobbnllpkaaDoor
open Go.Px Go.Ax
def u8L (b:List Int):Prop:=∀ j,0≤gtB b j∧gtB b j<256
theorem u8_wf {n:Int} (h:wfD uB n):0≤n∧n<256:=by
 have h:(Lit.int IntKind.u8 n).wf=true:=h
 simp[Lit.wf,IntKind.min,IntKind.max,IntKind.signed,IntKind.bits] at h
 omega
theorem u8_of {l:List Int} (h:∀ x∈l,wfD uB x):u8L l:=fun j=>by
 by_cases hj:j<l.length
 ·rw[gtB_at hj];exact u8_wf (h _ (List.getElem_mem hj))
 ·have:gtB l j=0:=by
   show gt uB _ _=_
   unfold gt
   rw[List.getElem?_eq_none (by omega)];rfl
  rw[this];decide
theorem l4_of {l:List (List Int)} (h:∀ x∈l,wfD a4S x):preL4 l:=fun j=>by
 by_cases hj:j<l.length
 ·have e:gt a4S l j=l[j]:=gtE (e:=a4S) hj
  rw[e]
  exact u8_of (h _ (List.getElem_mem hj)).2
 ·have:gt a4S l j=List.replicate 4 (0:Int):=by
   unfold gt
   rw[List.getElem?_eq_none (by omega)];rfl
  rw[this]
  exact u8_of fun x hx=>by
   rw[List.eq_of_mem_replicate hx];rfl
theorem m6_of {x:Int × List (List Int)} (h:wfD raS x):preM6 x.1 x.2:=⟨u8_wf h.1,l4_of h.2.2,h.2.1⟩
theorem G_get {g:Nat} {x:ABlk} (h:rawG.get g=some x):g=0∧x=.cells costCells 111 2:=by
 unfold rawG T.get at h
 split at h
 ·rename_i e;cases h;exact ⟨e,rfl⟩
 ·split at h <;> (simp[T.get] at h)
theorem hG:Glob G0.raw:=⟨fun g x h=>by rw[(G_get h).1];decide,fun g x h=>by rw[(G_get h).2];decide⟩
abbrev H0:AHeap:=⟨nglob,G0.raw⟩
def Z0:Nat→Option ABlk:=fun g=>rawG.get g
theorem gz0:GZ Z0 G0:=by
 refine ⟨fun g x e=>?_,fun g x e=>e⟩
 simp only[G0,lk] at e
 split at e
 ·rename_i h;subst h;cases e
  refine ⟨by decide,fun ν=>⟨0,0,costCells,111,2,rfl,rfl,by decide,?_⟩⟩
  exact rv_of (.arr 5 coS) costsL ⟨rfl,fun x _=>⟨trivial,trivial⟩⟩
 ·cases e
theorem fro0:Px.Fro G0 H0:=⟨fun i x h=>by rw[(G_get h).2];rfl,fun i x h=>by rw[(G_get h).2];trivial,fun i x h=>by rw[(G_get h).1];decide,gz0⟩
end Go.Proofs.YtkiicobbnllpkaaDoor
namespace Go.Proofs.YtkiicobbnllpkaaDoor
open Go.Px Go.Ax
def nK (l:List OpT) (wl:List Int) (i:Nat):Nat:=if i<wl.length then (cutN l wl i).toNat else 0
def kK (l:List OpT) (wl:List Int) (i:Nat):Int:=if i<wl.length∧128≤gtB wl i∧(xO l i).1=1 then 2 else if i<wl.length∧128≤gtB wl i∧(xO l i).1=3 then 4 else (xO l i).1
def lnK (l:List OpT) (i:Nat):Nat:=(xO l i).2.2.1.toNat
def fstC (l:List OpT) (wl:List Int) (s:List SyT) (i a:Nat):OpT:=opK (kK l wl i) ((s.drop a).take (nK l wl i))
def sndC (l:List OpT) (wl:List Int) (s:List SyT) (i a:Nat):OpT:=opK (xO l i).1 ((s.drop (a+nK l wl i)).take (lnK l i-nK l wl i))
def stepC (l:List OpT) (wl:List Int) (s:List SyT) (i a:Nat):List OpT:=(if 0<nK l wl i then [fstC l wl s i a] else [])++[sndC l wl s i a]
def cuF (l:List OpT) (wl:List Int) (s:List SyT):Nat→Nat→Nat→List OpT
 | 0,_,_=>[]
 | f+1,i,a=>stepC l wl s i a++cuF l wl s f (i+1) (a+lnK l i)
def cuL (l:List OpT) (wl:List Int):List OpT:=cuF l wl (symF l) l.length 0 0
theorem xO_at {l:List OpT} {i:Nat} (h:i<l.length):xO l i=l[i]:=gtO_at h
section
variable {l:List OpT} {wl:List Int} {m:Int} (hr:∀ x∈l,isRB x m=true) (h0:0≤m) (hm:m<16777216) (hu:u8L wl)
include hr h0 hm hu
theorem nK_lt {i:Nat} (hi:i<l.length):(nK l wl i:Int)<(xO l i).2.2.1∧nK l wl i<lnK l i∧(i<wl.length→cutN l wl i=(nK l wl i:Int))∧(lnK l i:Int)=(xO l i).2.2.1∧(xO l i).2.2.1≤65536:=by
 have _:=And.intro h0 hm
 have hx:=isRB_len (hr _ (List.getElem_mem hi))
 unfold nK lnK
 rw[xO_at hi]
 have hb:=hu i
 have e1:IntKind.i64.wrap (Int.tmod (gtB wl i) 64)=gtB wl i % 64:=by rw[Int.tmod_eq_emod_of_nonneg hb.1,IntWalk.i64_in _ (by omega)]
 have e2:cutN l wl i=gtB wl i % 64 % l[i].2.2.1:=by
  unfold cutN
  rw[e1,xO_at hi,Int.tmod_eq_emod_of_nonneg (by omega)]
 have e3:0≤gtB wl i % 64 % l[i].2.2.1:=Int.emod_nonneg _ (by omega)
 have e4:gtB wl i % 64 % l[i].2.2.1<l[i].2.2.1:=Int.emod_lt_of_pos _ (by omega)
 split
 ·rw[e2];omega
 ·rename_i h
  exact ⟨by omega,by omega,fun q=>absurd q h,by omega,by omega⟩
theorem el_isK {x:OpT} (hx:isRB x m=true) {k:Int} (hk:k=x.1∨(x.1=1∧k=2)∨(x.1=3∧k=4)) {g:List SyT} {t:Nat} (ht:((t+g.length:Nat):Int)≤x.2.2.1) (hg:∀ j,j<g.length→gtY g j=elO x.1.toNat x (t+j)):isK k g g.length:=by
 have _:=And.intro hr hu
 have pp:=isRB_part hx ⟨h0,hm⟩
 have hlx:=isRB_len hx
 intro j hj
 rw[hg j hj,hg 0 (by omega)]
 have w:∀ q:Nat,x.1=1∨x.1=2→q<g.length→IntKind.i64.wrap (x.2.1+((t+q:Nat):Int))=x.2.1+((t+q:Nat):Int):=fun q hq h=>by
  have:=pp hq
  exact IntWalk.i64_in _ (by omega)
 rcases (isRB_kind hx).1 with e | e | e | e
 ·have w1:=w j (.inl e) hj
  have w0:=w 0 (.inl e) (by omega)
  rw[e]
  have e1:elO (Int.toNat 1) x (t+j)=(true,IntKind.i64.wrap (x.2.1+((t+j:Nat):Int)),0):=rfl
  have e0:elO (Int.toNat 1) x (t+0)=(true,IntKind.i64.wrap (x.2.1+((t+0:Nat):Int)),0):=rfl
  rw[e1,e0,w1,w0]
  refine ⟨?_,fun _=>by show x.2.1+((t+j:Nat):Int)=x.2.1+((t+0:Nat):Int)+j;omega,fun q=>by omega⟩
  rcases (show k=1∨k=2 by omega) with q | q <;> subst q <;> simp[canB]
 ·have w1:=w j (.inr e) hj
  have w0:=w 0 (.inr e) (by omega)
  rw[e]
  have e1:elO (Int.toNat 2) x (t+j)=(true,IntKind.i64.wrap (x.2.1+((t+j:Nat):Int)),gtB x.2.2.2.2 (t+j)):=rfl
  have e0:elO (Int.toNat 2) x (t+0)=(true,IntKind.i64.wrap (x.2.1+((t+0:Nat):Int)),gtB x.2.2.2.2 (t+0)):=rfl
  rw[e1,e0,w1,w0]
  refine ⟨?_,fun _=>by show x.2.1+((t+j:Nat):Int)=x.2.1+((t+0:Nat):Int)+j;omega,fun q=>by omega⟩
  have q:k=2:=by omega
  subst q;simp[canB]
 ·rw[e]
  have e1:∀ q,elO (Int.toNat 3) x q=(false,0,x.2.2.2.1):=fun _=>rfl
  rw[e1,e1]
  refine ⟨?_,fun q=>by omega,fun _=>rfl⟩
  rcases (show k=3∨k=4 by omega) with q | q <;> subst q <;> simp[canB]
 ·rw[e]
  have e1:∀ q,elO (Int.toNat 4) x q=(false,0,gtB x.2.2.2.2 q):=fun _=>rfl
  rw[e1,e1]
  have q:k=4:=by omega
  subst q
  exact ⟨by simp[canB],fun q=>by omega,fun q=>by omega⟩
theorem part_ok {i:Nat} (hi:i<l.length) {k:Int} (hk:k=(xO l i).1∨((xO l i).1=1∧k=2)∨((xO l i).1=3∧k=4)) {t c:Nat} (hc:1≤c) (ht:t+c≤lnK l i) (hl:lenS l≤65536) :
  opK k (((symF l).drop ((lenS (l.take i)).toNat+t)).take c)=mdK k (((symF l).drop ((lenS (l.take i)).toNat+t)).take c)∧isRB (opK k (((symF l).drop ((lenS (l.take i)).toNat+t)).take c)) m=true∧symsO k.toNat (opK k (((symF l).drop ((lenS (l.take i)).toNat+t)).take c))=((symF l).drop ((lenS (l.take i)).toNat+t)).take c∧kOK k∧(((symF l).drop ((lenS (l.take i)).toNat+t)).take c).length=c:=by
 have hx:=hr _ (List.getElem_mem hi)
 have hlx:=isRB_len hx
 have hln:(lnK l i:Int)=l[i].2.2.1:=by unfold lnK;rw[xO_at hi];omega
 rw[xO_at hi] at hk
 have hk4:kOK k:=by
  have:=(isRB_kind hx).1
  unfold kOK;omega
 have h1:=lenS_pos (m:=m) (l:=l.take i) fun y hy=>hr y (List.mem_of_mem_take hy)
 have h2:lenS l=lenS (l.take i)+l[i].2.2.1+lenS (l.drop (i+1)):=by
  have e:l=l.take i++l[i]::l.drop (i+1):=by rw[← dropc hi,List.take_append_drop]
  have e2:lenS l=lenS (l.take i++l[i]::l.drop (i+1)):=congrArg lenS e
  rw[e2,lenS_app,lenS_cons];omega
 have h3:=lenS_pos (m:=m) (l:=l.drop (i+1)) fun y hy=>hr y (List.mem_of_mem_drop hy)
 have sl:=symF_len hr
 generalize hA:(lenS (l.take i)).toNat=A at *
 have gl:(((symF l).drop (A+t)).take c).length=c:=by
  rw[List.length_take,List.length_drop];omega
 have hg:∀ j,j<(((symF l).drop (A+t)).take c).length→gtY (((symF l).drop (A+t)).take c) j=elO l[i].1.toNat l[i] (t+j):=fun j hj=>by
  rw[gl] at hj
  have hs:=sym_at hr i hi (t+j) (by omega)
  rw[hA] at hs
  show ((((symF l).drop (A+t)).take c)[j]?).getD _=_
  rw[List.getElem?_take,if_pos hj,List.getElem?_drop,show A+t+j=A+(t+j) by omega,hs];rfl
 have ik:=el_isK hr h0 hm hu hx hk (g:=((symF l).drop (A+t)).take c) (t:=t) (by rw[gl];omega) hg
 have sr:∀ s∈((symF l).drop (A+t)).take c,sOK m s=true:=fun s hs=>sym_sOK h0 hm hr s (List.mem_of_mem_drop (List.mem_of_mem_take hs))
 have eq:=opK_eq (k:=k) sr (by omega) ik
 rw[eq]
 exact ⟨rfl,mdK_right hm hk4 sr ik (by omega) (by omega),mdK_sym hm hk4 sr ik,hk4,gl⟩
theorem kK_ok (i:Nat):kK l wl i=(xO l i).1∨((xO l i).1=1∧kK l wl i=2)∨((xO l i).1=3∧kK l wl i=4):=by
 have _:=And.intro hr (And.intro h0 (And.intro hm hu))
 unfold kK
 split
 ·rename_i h;exact .inr (.inl ⟨h.2.2,rfl⟩)
 ·split
  ·rename_i h;exact .inr (.inr ⟨h.2.2,rfl⟩)
  ·exact .inl rfl
theorem cut_ok (hl:lenS l≤65536):∀ (f i:Nat),l.length-i=f→i≤l.length→(∀ x∈cuF l wl (symF l) f i (lenS (l.take i)).toNat,isRB x m=true)∧symF (cuF l wl (symF l) f i (lenS (l.take i)).toNat)=(symF l).drop (lenS (l.take i)).toNat∧(cuF l wl (symF l) f i (lenS (l.take i)).toNat).length≤2*f:=by
 intro f
 induction f with
 | zero=>
  intro i hf hi
  have e:l.take i=l:=List.take_of_length_le (by omega)
  have sl:=symF_len hr
  refine ⟨(fun x hx=>by cases hx),?_,Nat.zero_le _⟩
  rw[e,List.drop_eq_nil_of_le (by omega)];rfl
 | succ f ih=>
  intro i hf hi
  have hil:i<l.length:=by omega
  have hx:=hr _ (List.getElem_mem hil)
  have hlx:=isRB_len hx
  obtain ⟨i1,i2,i3⟩:=ih (i+1) (by omega) (by omega)
  have h1:=lenS_pos (m:=m) (l:=l.take i) fun y hy=>hr y (List.mem_of_mem_take hy)
  have hln:(lnK l i:Int)=l[i].2.2.1:=by unfold lnK;rw[xO_at hil];omega
  have ea:(lenS (l.take (i+1))).toNat=(lenS (l.take i)).toNat+lnK l i:=by
   rw[List.take_succ_eq_append_getElem hil,lenS_app]
   have:lenS [l[i]]=l[i].2.2.1:=by simp[lenS]
   omega
  rw[ea] at i1 i2 i3
  obtain ⟨n1,n2,_,n4,_⟩:=nK_lt hr h0 hm hu hil
  obtain ⟨_,s2,s3,s4,s5⟩:=part_ok hr h0 hm hu hil (.inl rfl) (t:=nK l wl i) (c:=lnK l i-nK l wl i) (by omega) (by omega) hl
  have hk:=kK_ok hr h0 hm hu (l:=l) (wl:=wl) i
  rw[cuF]
  have dd:(symF l).drop (lenS (l.take i)).toNat=((symF l).drop (lenS (l.take i)).toNat).take (nK l wl i)++(((symF l).drop ((lenS (l.take i)).toNat+nK l wl i)).take (lnK l i-nK l wl i)++(symF l).drop ((lenS (l.take i)).toNat+lnK l i)):=by
   have e2:(symF l).drop ((lenS (l.take i)).toNat+lnK l i)=((symF l).drop ((lenS (l.take i)).toNat+nK l wl i)).drop (lnK l i-nK l wl i):=by rw[List.drop_drop];congr 1;omega
   rw[e2,List.take_append_drop,← List.drop_drop,List.take_append_drop]
  have snd_sym:symF [sndC l wl (symF l) i (lenS (l.take i)).toNat]=((symF l).drop ((lenS (l.take i)).toNat+nK l wl i)).take (lnK l i-nK l wl i):=by
   show symsO (xO l i).1.toNat (sndC l wl (symF l) i (lenS (l.take i)).toNat)++[]=_
   rw[List.append_nil];exact s3
  unfold stepC
  by_cases hn:0<nK l wl i
  ·rw[if_pos hn]
   have p:=part_ok hr h0 hm hu hil hk (t:=0) (c:=nK l wl i) (by omega) (by omega) hl
   rw[Nat.add_zero] at p
   obtain ⟨_,p2,p3,p4,p5⟩:=p
   have fst_sym:symF [fstC l wl (symF l) i (lenS (l.take i)).toNat]=((symF l).drop (lenS (l.take i)).toNat).take (nK l wl i):=by
    show symsO (kK l wl i).toNat (fstC l wl (symF l) i (lenS (l.take i)).toNat)++[]=_
    rw[List.append_nil];exact p3
   refine ⟨fun x hx=>?_,?_,?_⟩
   ·simp only[List.mem_append,List.mem_singleton] at hx
    rcases hx with (hx | hx) | hx
    ·subst hx;exact p2
    ·subst hx;exact s2
    ·exact i1 x hx
   ·rw[symF_app,symF_app,fst_sym,snd_sym,i2,List.append_assoc,← dd]
   ·simp only[List.length_append,List.length_singleton];omega
  ·rw[if_neg hn,List.nil_append]
   have z:nK l wl i=0:=by omega
   refine ⟨fun x hx=>?_,?_,?_⟩
   ·simp only[List.mem_append,List.mem_singleton] at hx
    rcases hx with hx | hx
    ·subst hx;exact s2
    ·exact i1 x hx
   ·rw[symF_app,snd_sym,i2]
    rw[dd,z,List.take_zero,List.nil_append]
   ·simp only[List.length_append,List.length_singleton];omega
end
end Go.Proofs.YtkiicobbnllpkaaDoor
namespace Go.Proofs.YtkiicobbnllpkaaDoor
open Go.Px Go.Ax
set_option maxRecDepth 100000
attribute [local irreducible] Go.Px.sy Go.Px.syE
def preCu (p:PaT) (wl:List Int):Prop:=(chkV p).2=0∧p.2.2.2.length≤1000∧u8L wl
def ctCu:Ctr:=⟨[paS,.sl uB],fun x=>preCu x.1 x.2.1,fun x=>[paV (x.1.1,x.1.2.1,x.1.2.2.1,cuL x.1.2.2.2 x.2.1)],fun _=>[]⟩
section
variable (li:Bool) (m o:Int) (l:List OpT) (wl:List Int) (hr:∀ x∈l,isRB x m=true) (h0:0≤m) (hm:m<16777216) (hu:u8L wl) (hl:lenS l≤65536) (hll:l.length≤1000)
include hr h0 hm hu hl hll
set_option maxHeartbeats 2000000 in
theorem ct_A (i:Nat) (hi:i<l.length) (a:Nat) (ha:a=(lenS (l.take i)).toNat)
  (nx:GD 24 Tryd.f24 (QC ctCu ((li,m,o,l),wl,())) (hd Tryd.f24 0) ⟨[(1,.sl uB wl),(2,.ptr 2 0),(4,.ptr 4 0),(5,.sl syS (symF l)),(7,.ptr 7 0),(8,.int .i64 (a+lnK l i:Nat)),(9,.int .i64 (i+1:Nat))],[(2,.var [.bool li,.int .i64 m,.int .i64 o,.sl opS l]),(4,.var [.bool false,.int .i64 0,.int .i64 0,.nils]),(7,.var [.bool li,.int .i64 m,.int .i64 o,.win true opS 100 0 (stepC l wl (symF l) i a).length]),(100,.row 55 opS (stepC l wl (symF l) i a))]⟩) :
  GD 24 Tryd.f24 (QC ctCu ((li,m,o,l),wl,())) (hd Tryd.f24 0) ⟨[(1,.sl uB wl),(2,.ptr 2 0),(4,.ptr 4 0),(5,.sl syS (symF l)),(7,.ptr 7 0),(8,.int .i64 (a:Nat)),(9,.int .i64 (i:Nat))],[(2,.var [.bool li,.int .i64 m,.int .i64 o,.sl opS l]),(4,.var [.bool false,.int .i64 0,.int .i64 0,.nils]),(7,.var [.bool li,.int .i64 m,.int .i64 o,.nils])]⟩:=by
 have hx:=isRB_len (hr _ (List.getElem_mem hi))
 obtain ⟨n1,n2,n3,n4,n5⟩:=nK_lt hr h0 hm hu hi
 have hal:a+lnK l i≤(symF l).length∧(symF l).length≤65536:=by
  have h1:=lenS_pos (m:=m) (l:=l.take i) fun y hy=>hr y (List.mem_of_mem_take hy)
  have h2:lenS l=lenS (l.take i)+l[i].2.2.1+lenS (l.drop (i+1)):=by
   have e:l=l.take i++l[i]::l.drop (i+1):=by rw[← dropc hi,List.take_append_drop]
   have e2:lenS l=lenS (l.take i++l[i]::l.drop (i+1)):=congrArg lenS e
   rw[e2,lenS_app,lenS_cons];omega
  have h3:=lenS_pos (m:=m) (l:=l.drop (i+1)) fun y hy=>hr y (List.mem_of_mem_drop hy)
  have sl:=symF_len hr
  rw[xO_at hi] at n4
  omega
 have pk:=kK_ok hr h0 hm hu (l:=l) (wl:=wl) i
 have q2:=part_ok hr h0 hm hu hi (.inl rfl) (t:=nK l wl i) (c:=lnK l i-nK l wl i) (by omega) (by omega) hl
 rw[← ha] at q2
 have p2:preMk (xO l i).1 (((symF l).drop (a+nK l wl i)).take (lnK l i-nK l wl i)):=⟨q2.2.2.2.1,by omega,by omega⟩
 have q1:0<nK l wl i→preMk (kK l wl i) (((symF l).drop a).take (nK l wl i)):=fun hn=>by
  have q:=part_ok hr h0 hm hu hi pk (t:=0) (c:=nK l wl i) (by omega) (by omega) hl
  rw[← ha,Nat.add_zero] at q
  exact ⟨q.2.2.2.1,by omega,by omega⟩
 have fx:(xO l i).2.2.1=(lnK l i:Int):=n4.symm
 have wL:IntKind.i64.wrap ((a:Int)+(lnK l i:Int))=((a+lnK l i:Nat):Int):=by rw[IntWalk.i64_in _ (by omega)];omega
 have wI:IntKind.i64.wrap ((i:Int)+1)=((i+1:Nat):Int):=by rw[IntWalk.i64_in _ (by omega)];omega
 have wN:IntKind.i64.wrap ((a:Int)+(nK l wl i:Int))=((a+nK l wl i:Nat):Int):=by rw[IntWalk.i64_in _ (by omega)];omega
 have P1:Px.part (symF l) (some (a:Int)) (some ((a+nK l wl i:Nat):Int))=((symF l).drop a).take (nK l wl i):=part_at _ _ _
 have P2:Px.part (symF l) (some ((a+nK l wl i:Nat):Int)) (some ((a+lnK l i:Nat):Int))=((symF l).drop (a+nK l wl i)).take (lnK l i-nK l wl i):=by
  have e:a+lnK l i=a+nK l wl i+(lnK l i-nK l wl i):=by omega
  rw[e];exact part_at _ _ _
 unfold stepC fstC sndC at nx
 have nx2:0<nK l wl i→GD 24 Tryd.f24 (QC ctCu ((li,m,o,l),wl,())) (hd Tryd.f24 0) ⟨[(1,.sl uB wl),(2,.ptr 2 0),(4,.ptr 4 0),(5,.sl syS (symF l)),(7,.ptr 7 0),(8,.int .i64 (a+lnK l i:Nat)),(9,.int .i64 (i+1:Nat))],[(2,.var [.bool li,.int .i64 m,.int .i64 o,.sl opS l]),(4,.var [.bool false,.int .i64 0,.int .i64 0,.nils]),(7,.var [.bool li,.int .i64 m,.int .i64 o,.win true opS 100 0 ([opK (kK l wl i) (((symF l).drop a).take (nK l wl i))]++[opK (xO l i).1 (((symF l).drop (a+nK l wl i)).take (lnK l i-nK l wl i))]).length]),(100,.row 55 opS ([opK (kK l wl i) (((symF l).drop a).take (nK l wl i))]++[opK (xO l i).1 (((symF l).drop (a+nK l wl i)).take (lnK l i-nK l wl i))]))]⟩:=fun hn=>by
  rw[if_pos hn] at nx
  exact nx
 have nx1:¬ 0<nK l wl i→GD 24 Tryd.f24 (QC ctCu ((li,m,o,l),wl,())) (hd Tryd.f24 0) ⟨[(1,.sl uB wl),(2,.ptr 2 0),(4,.ptr 4 0),(5,.sl syS (symF l)),(7,.ptr 7 0),(8,.int .i64 (a+lnK l i:Nat)),(9,.int .i64 (i+1:Nat))],[(2,.var [.bool li,.int .i64 m,.int .i64 o,.sl opS l]),(4,.var [.bool false,.int .i64 0,.int .i64 0,.nils]),(7,.var [.bool li,.int .i64 m,.int .i64 o,.win true opS 100 0 ([opK (xO l i).1 (((symF l).drop (a+nK l wl i)).take (lnK l i-nK l wl i))]).length]),(100,.row 55 opS ([opK (xO l i).1 (((symF l).drop (a+nK l wl i)).take (lnK l i-nK l wl i))]))]⟩:=fun hn=>by
  rw[if_neg hn,List.nil_append] at nx
  exact nx
 clear nx q2 pk
 refine sy_goK cxCt (vc_ctA li m o l wl (symF l) a i _ _) ?_
 rw[decide_eq_true (show (i:Int)<(l.length:Int) by omega),bc_t]
 by_cases hw:i<wl.length
 ·have c3:=n3 hw
  rw[decide_eq_true (show (i:Int)<(wl.length:Int) by omega),bc_t,c3]
  simp only[fx,wN,wL,wI,P1,P2]
  by_cases h8:128≤gtB wl i
  ·have d8:decide ((128:Int)≤gtB wl i)=true:=decide_eq_true h8
   by_cases k1:(xO l i).1=1
   ·have d1:decide ((xO l i).1=1)=true:=decide_eq_true k1
    have ek:kK l wl i=2:=by unfold kK;rw[if_pos ⟨hw,h8,k1⟩]
    by_cases hn:0<nK l wl i
    ·have p1:=q1 hn
     rw[ek] at p1 nx2
     have dn:decide ((0:Int)<(nK l wl i:Int))=true:=decide_eq_true (by omega)
     simp only[d8,d1,dn,bc_t,bc_f]
     repeat' first
      | exact p2
      | exact p1
      | exact Nat.le_refl 1
      | exact trivial
      | decide
      | omega
      | (show (_:Nat)<1073741824;simp only[List.length_append,List.length_cons,List.length_nil];omega)
      | (simp only[List.length_append,List.length_cons,List.length_nil];done)
      | exact (nx2 hn).only ⟨rfl,rfl,rfl,rfl,rfl,rfl,rfl,trivial⟩ ⟨rfl,rfl,rfl,rfl,trivial⟩
      | refine And.intro ?_ ?_
    ·have dn:decide ((0:Int)<(nK l wl i:Int))=false:=decide_eq_false (by omega)
     simp only[d8,d1,dn,bc_t,bc_f]
     repeat' first
      | exact p2
      | exact p1
      | exact Nat.le_refl 1
      | exact trivial
      | decide
      | omega
      | (show (_:Nat)<1073741824;simp only[List.length_append,List.length_cons,List.length_nil];omega)
      | (simp only[List.length_append,List.length_cons,List.length_nil];done)
      | exact (nx1 hn).only ⟨rfl,rfl,rfl,rfl,rfl,rfl,rfl,trivial⟩ ⟨rfl,rfl,rfl,rfl,trivial⟩
      | refine And.intro ?_ ?_
   ·have d1:decide ((xO l i).1=1)=false:=decide_eq_false k1
    by_cases k3:(xO l i).1=3
    ·have d3:decide ((xO l i).1=3)=true:=decide_eq_true k3
     have ek:kK l wl i=4:=by unfold kK;rw[if_neg (fun q=>k1 q.2.2),if_pos ⟨hw,h8,k3⟩]
     by_cases hn:0<nK l wl i
     ·have p1:=q1 hn
      rw[ek] at p1 nx2
      have dn:decide ((0:Int)<(nK l wl i:Int))=true:=decide_eq_true (by omega)
      simp only[d8,d1,d3,dn,bc_t,bc_f]
      repeat' first
       | exact p2
       | exact p1
       | exact Nat.le_refl 1
       | exact trivial
       | decide
       | omega
       | (show (_:Nat)<1073741824;simp only[List.length_append,List.length_cons,List.length_nil];omega)
       | (simp only[List.length_append,List.length_cons,List.length_nil];done)
       | exact (nx2 hn).only ⟨rfl,rfl,rfl,rfl,rfl,rfl,rfl,trivial⟩ ⟨rfl,rfl,rfl,rfl,trivial⟩
       | refine And.intro ?_ ?_
     ·have dn:decide ((0:Int)<(nK l wl i:Int))=false:=decide_eq_false (by omega)
      simp only[d8,d1,d3,dn,bc_t,bc_f]
      repeat' first
       | exact p2
       | exact p1
       | exact Nat.le_refl 1
       | exact trivial
       | decide
       | omega
       | (show (_:Nat)<1073741824;simp only[List.length_append,List.length_cons,List.length_nil];omega)
       | (simp only[List.length_append,List.length_cons,List.length_nil];done)
       | exact (nx1 hn).only ⟨rfl,rfl,rfl,rfl,rfl,rfl,rfl,trivial⟩ ⟨rfl,rfl,rfl,rfl,trivial⟩
       | refine And.intro ?_ ?_
    ·have d3:decide ((xO l i).1=3)=false:=decide_eq_false k3
     have ek:kK l wl i=(xO l i).1:=by unfold kK;rw[if_neg (fun q=>k1 q.2.2),if_neg (fun q=>k3 q.2.2)]
     by_cases hn:0<nK l wl i
     ·have p1:=q1 hn
      rw[ek] at p1 nx2
      have dn:decide ((0:Int)<(nK l wl i:Int))=true:=decide_eq_true (by omega)
      simp only[d8,d1,d3,dn,bc_t,bc_f]
      repeat' first
       | exact p2
       | exact p1
       | exact Nat.le_refl 1
       | exact trivial
       | decide
       | omega
       | (show (_:Nat)<1073741824;simp only[List.length_append,List.length_cons,List.length_nil];omega)
       | (simp only[List.length_append,List.length_cons,List.length_nil];done)
       | exact (nx2 hn).only ⟨rfl,rfl,rfl,rfl,rfl,rfl,rfl,trivial⟩ ⟨rfl,rfl,rfl,rfl,trivial⟩
       | refine And.intro ?_ ?_
     ·have dn:decide ((0:Int)<(nK l wl i:Int))=false:=decide_eq_false (by omega)
      simp only[d8,d1,d3,dn,bc_t,bc_f]
      repeat' first
       | exact p2
       | exact p1
       | exact Nat.le_refl 1
       | exact trivial
       | decide
       | omega
       | (show (_:Nat)<1073741824;simp only[List.length_append,List.length_cons,List.length_nil];omega)
       | (simp only[List.length_append,List.length_cons,List.length_nil];done)
       | exact (nx1 hn).only ⟨rfl,rfl,rfl,rfl,rfl,rfl,rfl,trivial⟩ ⟨rfl,rfl,rfl,rfl,trivial⟩
       | refine And.intro ?_ ?_
  ·have d8:decide ((128:Int)≤gtB wl i)=false:=decide_eq_false h8
   have ek:kK l wl i=(xO l i).1:=by unfold kK;rw[if_neg (fun q=>h8 q.2.1),if_neg (fun q=>h8 q.2.1)]
   by_cases hn:0<nK l wl i
   ·have p1:=q1 hn
    rw[ek] at p1 nx2
    have dn:decide ((0:Int)<(nK l wl i:Int))=true:=decide_eq_true (by omega)
    simp only[d8,dn,bc_t,bc_f]
    repeat' first
     | exact p2
     | exact p1
     | exact Nat.le_refl 1
     | exact trivial
     | decide
     | omega
     | (show (_:Nat)<1073741824;simp only[List.length_append,List.length_cons,List.length_nil];omega)
     | (simp only[List.length_append,List.length_cons,List.length_nil];done)
     | exact (nx2 hn).only ⟨rfl,rfl,rfl,rfl,rfl,rfl,rfl,trivial⟩ ⟨rfl,rfl,rfl,rfl,trivial⟩
     | refine And.intro ?_ ?_
   ·have dn:decide ((0:Int)<(nK l wl i:Int))=false:=decide_eq_false (by omega)
    simp only[d8,dn,bc_t,bc_f]
    repeat' first
     | exact p2
     | exact p1
     | exact Nat.le_refl 1
     | exact trivial
     | decide
     | omega
     | (show (_:Nat)<1073741824;simp only[List.length_append,List.length_cons,List.length_nil];omega)
     | (simp only[List.length_append,List.length_cons,List.length_nil];done)
     | exact (nx1 hn).only ⟨rfl,rfl,rfl,rfl,rfl,rfl,rfl,trivial⟩ ⟨rfl,rfl,rfl,rfl,trivial⟩
     | refine And.intro ?_ ?_
 ·have hz:nK l wl i=0:=by unfold nK;rw[if_neg hw]
  have hn:¬ 0<nK l wl i:=by omega
  have wZ:IntKind.i64.wrap ((a:Int)+0)=((a+nK l wl i:Nat):Int):=by rw[IntWalk.i64_in _ (by omega)];omega
  rw[decide_eq_false (show ¬ (i:Int)<(wl.length:Int) by omega),bc_f]
  simp only[fx,wZ,wL,wI,P2]
  repeat' first
   | exact p2
   | exact p1
   | exact Nat.le_refl 1
   | exact trivial
   | decide
   | omega
   | (show (_:Nat)<1073741824;simp only[List.length_append,List.length_cons,List.length_nil];omega)
   | (simp only[List.length_append,List.length_cons,List.length_nil];done)
   | exact (nx1 hn).only ⟨rfl,rfl,rfl,rfl,rfl,rfl,rfl,trivial⟩ ⟨rfl,rfl,rfl,rfl,trivial⟩
   | refine And.intro ?_ ?_
set_option maxHeartbeats 2000000 in
theorem ct_C (i:Nat) (hi:i<l.length) (a:Nat) (ha:a=(lenS (l.take i)).toNat) (q:List OpT) (hq:q.length≤2000)
  (nx:GD 24 Tryd.f24 (QC ctCu ((li,m,o,l),wl,())) (hd Tryd.f24 0) ⟨[(1,.sl uB wl),(2,.ptr 2 0),(4,.ptr 4 0),(5,.sl syS (symF l)),(7,.ptr 7 0),(8,.int .i64 (a+lnK l i:Nat)),(9,.int .i64 (i+1:Nat))],[(2,.var [.bool li,.int .i64 m,.int .i64 o,.sl opS l]),(4,.var [.bool false,.int .i64 0,.int .i64 0,.nils]),(7,.var [.bool li,.int .i64 m,.int .i64 o,.win true opS 100 0 (q++stepC l wl (symF l) i a).length]),(100,.row 55 opS (q++stepC l wl (symF l) i a))]⟩) :
  GD 24 Tryd.f24 (QC ctCu ((li,m,o,l),wl,())) (hd Tryd.f24 0) ⟨[(1,.sl uB wl),(2,.ptr 2 0),(4,.ptr 4 0),(5,.sl syS (symF l)),(7,.ptr 7 0),(8,.int .i64 (a:Nat)),(9,.int .i64 (i:Nat))],[(2,.var [.bool li,.int .i64 m,.int .i64 o,.sl opS l]),(4,.var [.bool false,.int .i64 0,.int .i64 0,.nils]),(7,.var [.bool li,.int .i64 m,.int .i64 o,.win true opS 100 0 q.length]),(100,.row 55 opS q)]⟩:=by
 have hx:=isRB_len (hr _ (List.getElem_mem hi))
 obtain ⟨n1,n2,n3,n4,n5⟩:=nK_lt hr h0 hm hu hi
 have hal:a+lnK l i≤(symF l).length∧(symF l).length≤65536:=by
  have h1:=lenS_pos (m:=m) (l:=l.take i) fun y hy=>hr y (List.mem_of_mem_take hy)
  have h2:lenS l=lenS (l.take i)+l[i].2.2.1+lenS (l.drop (i+1)):=by
   have e:l=l.take i++l[i]::l.drop (i+1):=by rw[← dropc hi,List.take_append_drop]
   have e2:lenS l=lenS (l.take i++l[i]::l.drop (i+1)):=congrArg lenS e
   rw[e2,lenS_app,lenS_cons];omega
  have h3:=lenS_pos (m:=m) (l:=l.drop (i+1)) fun y hy=>hr y (List.mem_of_mem_drop hy)
  have sl:=symF_len hr
  rw[xO_at hi] at n4
  omega
 have pk:=kK_ok hr h0 hm hu (l:=l) (wl:=wl) i
 have q2:=part_ok hr h0 hm hu hi (.inl rfl) (t:=nK l wl i) (c:=lnK l i-nK l wl i) (by omega) (by omega) hl
 rw[← ha] at q2
 have p2:preMk (xO l i).1 (((symF l).drop (a+nK l wl i)).take (lnK l i-nK l wl i)):=⟨q2.2.2.2.1,by omega,by omega⟩
 have q1:0<nK l wl i→preMk (kK l wl i) (((symF l).drop a).take (nK l wl i)):=fun hn=>by
  have q:=part_ok hr h0 hm hu hi pk (t:=0) (c:=nK l wl i) (by omega) (by omega) hl
  rw[← ha,Nat.add_zero] at q
  exact ⟨q.2.2.2.1,by omega,by omega⟩
 have fx:(xO l i).2.2.1=(lnK l i:Int):=n4.symm
 have wL:IntKind.i64.wrap ((a:Int)+(lnK l i:Int))=((a+lnK l i:Nat):Int):=by rw[IntWalk.i64_in _ (by omega)];omega
 have wI:IntKind.i64.wrap ((i:Int)+1)=((i+1:Nat):Int):=by rw[IntWalk.i64_in _ (by omega)];omega
 have wN:IntKind.i64.wrap ((a:Int)+(nK l wl i:Int))=((a+nK l wl i:Nat):Int):=by rw[IntWalk.i64_in _ (by omega)];omega
 have P1:Px.part (symF l) (some (a:Int)) (some ((a+nK l wl i:Nat):Int))=((symF l).drop a).take (nK l wl i):=part_at _ _ _
 have P2:Px.part (symF l) (some ((a+nK l wl i:Nat):Int)) (some ((a+lnK l i:Nat):Int))=((symF l).drop (a+nK l wl i)).take (lnK l i-nK l wl i):=by
  have e:a+lnK l i=a+nK l wl i+(lnK l i-nK l wl i):=by omega
  rw[e];exact part_at _ _ _
 unfold stepC fstC sndC at nx
 have nx2:0<nK l wl i→GD 24 Tryd.f24 (QC ctCu ((li,m,o,l),wl,())) (hd Tryd.f24 0) ⟨[(1,.sl uB wl),(2,.ptr 2 0),(4,.ptr 4 0),(5,.sl syS (symF l)),(7,.ptr 7 0),(8,.int .i64 (a+lnK l i:Nat)),(9,.int .i64 (i+1:Nat))],[(2,.var [.bool li,.int .i64 m,.int .i64 o,.sl opS l]),(4,.var [.bool false,.int .i64 0,.int .i64 0,.nils]),(7,.var [.bool li,.int .i64 m,.int .i64 o,.win true opS 100 0 (q++[opK (kK l wl i) (((symF l).drop a).take (nK l wl i))]++[opK (xO l i).1 (((symF l).drop (a+nK l wl i)).take (lnK l i-nK l wl i))]).length]),(100,.row 55 opS (q++[opK (kK l wl i) (((symF l).drop a).take (nK l wl i))]++[opK (xO l i).1 (((symF l).drop (a+nK l wl i)).take (lnK l i-nK l wl i))]))]⟩:=fun hn=>by
  rw[if_pos hn] at nx
  exact nx
   |> fun h=>by rw[← List.append_assoc] at h;exact h
 have nx1:¬ 0<nK l wl i→GD 24 Tryd.f24 (QC ctCu ((li,m,o,l),wl,())) (hd Tryd.f24 0) ⟨[(1,.sl uB wl),(2,.ptr 2 0),(4,.ptr 4 0),(5,.sl syS (symF l)),(7,.ptr 7 0),(8,.int .i64 (a+lnK l i:Nat)),(9,.int .i64 (i+1:Nat))],[(2,.var [.bool li,.int .i64 m,.int .i64 o,.sl opS l]),(4,.var [.bool false,.int .i64 0,.int .i64 0,.nils]),(7,.var [.bool li,.int .i64 m,.int .i64 o,.win true opS 100 0 (q++[opK (xO l i).1 (((symF l).drop (a+nK l wl i)).take (lnK l i-nK l wl i))]).length]),(100,.row 55 opS (q++[opK (xO l i).1 (((symF l).drop (a+nK l wl i)).take (lnK l i-nK l wl i))]))]⟩:=fun hn=>by
  rw[if_neg hn,List.nil_append] at nx
  exact nx
 clear nx q2 pk
 refine sy_goK cxCt (vc_ctC li m o l wl (symF l) q a i _ _) ?_
 rw[decide_eq_true (show (i:Int)<(l.length:Int) by omega),bc_t]
 by_cases hw:i<wl.length
 ·have c3:=n3 hw
  rw[decide_eq_true (show (i:Int)<(wl.length:Int) by omega),bc_t,c3]
  simp only[fx,wN,wL,wI,P1,P2]
  by_cases h8:128≤gtB wl i
  ·have d8:decide ((128:Int)≤gtB wl i)=true:=decide_eq_true h8
   by_cases k1:(xO l i).1=1
   ·have d1:decide ((xO l i).1=1)=true:=decide_eq_true k1
    have ek:kK l wl i=2:=by unfold kK;rw[if_pos ⟨hw,h8,k1⟩]
    by_cases hn:0<nK l wl i
    ·have p1:=q1 hn
     rw[ek] at p1 nx2
     have dn:decide ((0:Int)<(nK l wl i:Int))=true:=decide_eq_true (by omega)
     simp only[d8,d1,dn,bc_t,bc_f]
     repeat' first
      | exact p2
      | exact p1
      | exact Nat.le_refl 1
      | exact trivial
      | decide
      | omega
      | (show (_:Nat)<1073741824;simp only[List.length_append,List.length_cons,List.length_nil];omega)
      | (simp only[List.length_append,List.length_cons,List.length_nil];done)
      | exact (nx2 hn).only ⟨rfl,rfl,rfl,rfl,rfl,rfl,rfl,trivial⟩ ⟨rfl,rfl,by rw[List.length_append,List.length_append];rfl,rfl,trivial⟩
      | refine And.intro ?_ ?_
    ·have dn:decide ((0:Int)<(nK l wl i:Int))=false:=decide_eq_false (by omega)
     simp only[d8,d1,dn,bc_t,bc_f]
     repeat' first
      | exact p2
      | exact p1
      | exact Nat.le_refl 1
      | exact trivial
      | decide
      | omega
      | (show (_:Nat)<1073741824;simp only[List.length_append,List.length_cons,List.length_nil];omega)
      | (simp only[List.length_append,List.length_cons,List.length_nil];done)
      | exact (nx1 hn).only ⟨rfl,rfl,rfl,rfl,rfl,rfl,rfl,trivial⟩ ⟨rfl,rfl,by rw[List.length_append];rfl,rfl,trivial⟩
      | refine And.intro ?_ ?_
   ·have d1:decide ((xO l i).1=1)=false:=decide_eq_false k1
    by_cases k3:(xO l i).1=3
    ·have d3:decide ((xO l i).1=3)=true:=decide_eq_true k3
     have ek:kK l wl i=4:=by unfold kK;rw[if_neg (fun q=>k1 q.2.2),if_pos ⟨hw,h8,k3⟩]
     by_cases hn:0<nK l wl i
     ·have p1:=q1 hn
      rw[ek] at p1 nx2
      have dn:decide ((0:Int)<(nK l wl i:Int))=true:=decide_eq_true (by omega)
      simp only[d8,d1,d3,dn,bc_t,bc_f]
      repeat' first
       | exact p2
       | exact p1
       | exact Nat.le_refl 1
       | exact trivial
       | decide
       | omega
       | (show (_:Nat)<1073741824;simp only[List.length_append,List.length_cons,List.length_nil];omega)
       | (simp only[List.length_append,List.length_cons,List.length_nil];done)
       | exact (nx2 hn).only ⟨rfl,rfl,rfl,rfl,rfl,rfl,rfl,trivial⟩ ⟨rfl,rfl,by rw[List.length_append,List.length_append];rfl,rfl,trivial⟩
       | refine And.intro ?_ ?_
     ·have dn:decide ((0:Int)<(nK l wl i:Int))=false:=decide_eq_false (by omega)
      simp only[d8,d1,d3,dn,bc_t,bc_f]
      repeat' first
       | exact p2
       | exact p1
       | exact Nat.le_refl 1
       | exact trivial
       | decide
       | omega
       | (show (_:Nat)<1073741824;simp only[List.length_append,List.length_cons,List.length_nil];omega)
       | (simp only[List.length_append,List.length_cons,List.length_nil];done)
       | exact (nx1 hn).only ⟨rfl,rfl,rfl,rfl,rfl,rfl,rfl,trivial⟩ ⟨rfl,rfl,by rw[List.length_append];rfl,rfl,trivial⟩
       | refine And.intro ?_ ?_
    ·have d3:decide ((xO l i).1=3)=false:=decide_eq_false k3
     have ek:kK l wl i=(xO l i).1:=by unfold kK;rw[if_neg (fun q=>k1 q.2.2),if_neg (fun q=>k3 q.2.2)]
     by_cases hn:0<nK l wl i
     ·have p1:=q1 hn
      rw[ek] at p1 nx2
      have dn:decide ((0:Int)<(nK l wl i:Int))=true:=decide_eq_true (by omega)
      simp only[d8,d1,d3,dn,bc_t,bc_f]
      repeat' first
       | exact p2
       | exact p1
       | exact Nat.le_refl 1
       | exact trivial
       | decide
       | omega
       | (show (_:Nat)<1073741824;simp only[List.length_append,List.length_cons,List.length_nil];omega)
       | (simp only[List.length_append,List.length_cons,List.length_nil];done)
       | exact (nx2 hn).only ⟨rfl,rfl,rfl,rfl,rfl,rfl,rfl,trivial⟩ ⟨rfl,rfl,by rw[List.length_append,List.length_append];rfl,rfl,trivial⟩
       | refine And.intro ?_ ?_
     ·have dn:decide ((0:Int)<(nK l wl i:Int))=false:=decide_eq_false (by omega)
      simp only[d8,d1,d3,dn,bc_t,bc_f]
      repeat' first
       | exact p2
       | exact p1
       | exact Nat.le_refl 1
       | exact trivial
       | decide
       | omega
       | (show (_:Nat)<1073741824;simp only[List.length_append,List.length_cons,List.length_nil];omega)
       | (simp only[List.length_append,List.length_cons,List.length_nil];done)
       | exact (nx1 hn).only ⟨rfl,rfl,rfl,rfl,rfl,rfl,rfl,trivial⟩ ⟨rfl,rfl,by rw[List.length_append];rfl,rfl,trivial⟩
       | refine And.intro ?_ ?_
  ·have d8:decide ((128:Int)≤gtB wl i)=false:=decide_eq_false h8
   have ek:kK l wl i=(xO l i).1:=by unfold kK;rw[if_neg (fun q=>h8 q.2.1),if_neg (fun q=>h8 q.2.1)]
   by_cases hn:0<nK l wl i
   ·have p1:=q1 hn
    rw[ek] at p1 nx2
    have dn:decide ((0:Int)<(nK l wl i:Int))=true:=decide_eq_true (by omega)
    simp only[d8,dn,bc_t,bc_f]
    repeat' first
     | exact p2
     | exact p1
     | exact Nat.le_refl 1
     | exact trivial
     | decide
     | omega
     | (show (_:Nat)<1073741824;simp only[List.length_append,List.length_cons,List.length_nil];omega)
     | (simp only[List.length_append,List.length_cons,List.length_nil];done)
     | exact (nx2 hn).only ⟨rfl,rfl,rfl,rfl,rfl,rfl,rfl,trivial⟩ ⟨rfl,rfl,by rw[List.length_append,List.length_append];rfl,rfl,trivial⟩
     | refine And.intro ?_ ?_
   ·have dn:decide ((0:Int)<(nK l wl i:Int))=false:=decide_eq_false (by omega)
    simp only[d8,dn,bc_t,bc_f]
    repeat' first
     | exact p2
     | exact p1
     | exact Nat.le_refl 1
     | exact trivial
     | decide
     | omega
     | (show (_:Nat)<1073741824;simp only[List.length_append,List.length_cons,List.length_nil];omega)
     | (simp only[List.length_append,List.length_cons,List.length_nil];done)
     | exact (nx1 hn).only ⟨rfl,rfl,rfl,rfl,rfl,rfl,rfl,trivial⟩ ⟨rfl,rfl,by rw[List.length_append];rfl,rfl,trivial⟩
     | refine And.intro ?_ ?_
 ·have hz:nK l wl i=0:=by unfold nK;rw[if_neg hw]
  have hn:¬ 0<nK l wl i:=by omega
  have wZ:IntKind.i64.wrap ((a:Int)+0)=((a+nK l wl i:Nat):Int):=by rw[IntWalk.i64_in _ (by omega)];omega
  rw[decide_eq_false (show ¬ (i:Int)<(wl.length:Int) by omega),bc_f]
  simp only[fx,wZ,wL,wI,P2]
  repeat' first
   | exact p2
   | exact p1
   | exact Nat.le_refl 1
   | exact trivial
   | decide
   | omega
   | (show (_:Nat)<1073741824;simp only[List.length_append,List.length_cons,List.length_nil];omega)
   | (simp only[List.length_append,List.length_cons,List.length_nil];done)
   | exact (nx1 hn).only ⟨rfl,rfl,rfl,rfl,rfl,rfl,rfl,trivial⟩ ⟨rfl,rfl,by rw[List.length_append];rfl,rfl,trivial⟩
   | refine And.intro ?_ ?_
abbrev ctC0 (i a:Nat) (q:List OpT):PS:=⟨[(1,.sl uB wl),(2,.ptr 2 0),(4,.ptr 4 0),(5,.sl syS (symF l)),(7,.ptr 7 0),(8,.int .i64 (a:Nat)),(9,.int .i64 (i:Nat))],[(2,.var [.bool li,.int .i64 m,.int .i64 o,.sl opS l]),(4,.var [.bool false,.int .i64 0,.int .i64 0,.nils]),(7,.var [.bool li,.int .i64 m,.int .i64 o,.win true opS 100 0 q.length]),(100,.row 55 opS q)]⟩
theorem ct_end (a i:Nat) (hi:i=l.length) (q:List OpT) (hq:q=cuL l wl):GD 24 Tryd.f24 (QC ctCu ((li,m,o,l),wl,())) (hd Tryd.f24 0) (ctC0 li m o l wl i a q):=by
 have _:=And.intro hr (And.intro h0 (And.intro hm (And.intro hu (And.intro hl hll))))
 subst hi
 refine Good.frz (i:=100) (e:=opS) (et:=55) (xs:=q) rfl (fun c hc=>?_) ?_
 ·have hc:c∈[0+q.length≤q.length]:=hc
  rw[List.mem_singleton] at hc;subst hc;omega
 ·have e:GD 24 Tryd.f24 (QC ctCu ((li,m,o,l),wl,())) (hd Tryd.f24 0) ⟨[(1,.sl uB wl),(2,.ptr 2 0),(4,.ptr 4 0),(7,.ptr 7 0),(8,.int .i64 (a:Nat)),(9,.int .i64 (l.length:Nat))],[(2,.var [.bool li,.int .i64 m,.int .i64 o,.sl opS l]),(4,.var [.bool false,.int .i64 0,.int .i64 0,.nils]),(7,.var [.bool li,.int .i64 m,.int .i64 o,.sl opS (winL opS 0 q.length q)])]⟩:=by
   refine sy_goK cxCt (vc_ctE li m o l wl [] (winL opS 0 q.length q) a l.length _ _) ?_
   rw[decide_eq_false (by omega),bc_f,winA,hq]
   exact QC.flat rfl rfl rfl
  exact e.only ⟨rfl,rfl,rfl,rfl,rfl,rfl,trivial⟩ ⟨rfl,rfl,rfl,trivial⟩
theorem ct_loop:∀ (f i a:Nat) (q:List OpT),l.length-i=f→i≤l.length→a=(lenS (l.take i)).toNat→q.length≤2*i→q++cuF l wl (symF l) f i a=cuL l wl→GD 24 Tryd.f24 (QC ctCu ((li,m,o,l),wl,())) (hd Tryd.f24 0) (ctC0 li m o l wl i a q):=by
 intro f
 induction f with
 | zero=>
  intro i a q hf hi ha hq hc
  rw[cuF,List.append_nil] at hc
  exact ct_end li m o l wl hr h0 hm hu hl hll a i (by omega) q hc
 | succ f ih=>
  intro i a q hf hi ha hq hc
  have hil:i<l.length:=by omega
  have hx:=isRB_len (hr _ (List.getElem_mem hil))
  have ea:a+lnK l i=(lenS (l.take (i+1))).toNat:=by
   have h1:=lenS_pos (m:=m) (l:=l.take i) fun y hy=>hr y (List.mem_of_mem_take hy)
   have hln:(lnK l i:Int)=l[i].2.2.1:=by unfold lnK;rw[xO_at hil];omega
   rw[List.take_succ_eq_append_getElem hil,lenS_app]
   have:lenS [l[i]]=l[i].2.2.1:=by simp[lenS]
   omega
  have sl:(stepC l wl (symF l) i a).length≤2:=by
   unfold stepC
   split <;> simp
  rw[cuF,← List.append_assoc] at hc
  exact ct_C li m o l wl hr h0 hm hu hl hll i hil a ha q (by omega) (ih (i+1) (a+lnK l i) (q++stepC l wl (symF l) i a) (by omega) (by omega) ea (by rw[List.length_append];omega) hc)
theorem ct_start:GD 24 Tryd.f24 (QC ctCu ((li,m,o,l),wl,())) (hd Tryd.f24 0) ⟨[(1,.sl uB wl),(2,.ptr 2 0),(4,.ptr 4 0),(5,.sl syS (symF l)),(7,.ptr 7 0),(8,.int .i64 ((0:Nat):Int)),(9,.int .i64 ((0:Nat):Int))],[(2,.var [.bool li,.int .i64 m,.int .i64 o,.sl opS l]),(4,.var [.bool false,.int .i64 0,.int .i64 0,.nils]),(7,.var [.bool li,.int .i64 m,.int .i64 o,.nils])]⟩:=by
 by_cases h:l.length=0
 ·have e:l=[]:=List.eq_nil_of_length_eq_zero h
  subst e
  refine sy_goK cxCt (vc_ctA li m o [] wl (symF []) 0 0 _ _) ?_
  rw[decide_eq_false (show ¬ ((0:Nat):Int)<(([]:List OpT).length:Int) by decide),bc_f]
  exact QC.mt (show MtL _ [paV (li,m,o,cuL [] wl)] _ from ⟨_,_,rfl,⟨_,rfl,_,_,rfl,rfl,_,_,rfl,rfl,_,_,rfl,rfl,_,_,rfl,.inr ⟨rfl,rfl⟩,rfl⟩,rfl⟩) rfl
 ·obtain ⟨f,hf⟩:∃ f,l.length=f+1:=⟨l.length-1,by omega⟩
  have hil:0<l.length:=by omega
  have hx:=isRB_len (hr _ (List.getElem_mem hil))
  have ea:0+lnK l 0=(lenS (l.take 1)).toNat:=by
   have hln:(lnK l 0:Int)=l[0].2.2.1:=by unfold lnK;rw[xO_at hil];omega
   rw[List.take_succ_eq_append_getElem hil,lenS_app]
   have:lenS [l[0]]=l[0].2.2.1:=by simp[lenS]
   have:lenS (l.take 0)=0:=rfl
   omega
  have sl:(stepC l wl (symF l) 0 0).length≤2:=by
   unfold stepC
   split <;> simp
  exact ct_A li m o l wl hr h0 hm hu hl hll 0 hil 0 rfl (ct_loop li m o l wl hr h0 hm hu hl hll f 1 (0+lnK l 0) (stepC l wl (symF l) 0 0) (by omega) (by omega) ea (by omega) (by show _=cuF l wl (symF l) l.length 0 0;rw[hf,cuF]))
end
theorem ct_run (li:Bool) (m o:Int) (l:List OpT) (wl:List Int) (hp:preCu (li,m,o,l) wl):GD 24 Tryd.f24 (QC ctCu ((li,m,o,l),wl,())) [.code (bodyOf Tryd.f24)] (entry [paS,.sl uB] ((li,m,o,l),wl,())):=by
 obtain ⟨hc,hll,hu⟩:=hp
 obtain ⟨hr,hs,ho,_⟩:=chkV_ok hc
 have hi:=chkV_in hc
 have hv:symV (li,m,o,l)=(symF l,0):=by unfold symV;rw[if_pos hc]
 have hs:lenS l=o:=hs
 have ho:0≤o∧o≤65536:=ho
 have hi:0≤m∧m≤65536:=hi
 have st:=ct_start li m o l wl hr hi.1 (by omega) hu (by omega) hll
 refine sy_goK cxCt (vc_ct li m o l wl _ _) ⟨trivial,?_⟩
 rw[hv]
 have w1:winL syS 0 (symF l).length (symF l)=symF l:=winA (e:=syS) _
 refine frzG (i:=1061440) (e:=syS) (et:=52) (xs:=symF l) rfl rfl ?_
 refine st.only ⟨rfl,rfl,rfl,?_,rfl,rfl,rfl,trivial⟩ ⟨rfl,rfl,rfl,trivial⟩
 show some (SV.sl syS (winL syS 0 (symF l).length (symF l)))=_
 rw[w1]
theorem ct_held:Held Tryd.prog G0 24 ctCu:=Held.of cxCt (fn:=Tryd.f24) rfl rfl ⟨by decide,by decide⟩ fun ⟨⟨li,m,o,l⟩,wl,_⟩ hp=>ct_run li m o l wl hp
end Go.Proofs.YtkiicobbnllpkaaDoor
namespace Go.Proofs.YtkiicobbnllpkaaDoor
open Go.Px Go.Ax
set_option maxRecDepth 100000
def COn:CV:=[(10,.inl ctSan),(11,.inl ctM6),(24,.inl ctCu),(13,.inl ctFo),(18,.inl ctSa),(17,.inl ctSm)]
theorem cxOn:CxOK Tryd.prog tt G0 COn:=(((((cx0.cons sm_held (fn:=Tryd.f17) rfl rfl rfl).cons sa_held (fn:=Tryd.f18) rfl rfl rfl).cons fo_held (fn:=Tryd.f13) rfl rfl rfl).cons ct_held (fn:=Tryd.f24) rfl rfl rfl).cons made6_held (fn:=Tryd.f11) rfl rfl rfl).cons san_held (fn:=Tryd.f10) rfl rfl rfl
abbrev gtP (l:List PaT) (i:Nat):PaT:=gt paS l i
set_option maxRecDepth 100000
def mem_o5_m0 (z:Int) (l4 k4:List (List Int)) (w:List Int):List (Nat × LB):=[(3,.var [.int .u8 z,.sl (Sh.arr (4:Nat) uB) l4]),(4,.var [.int .u8 z,.sl (Sh.arr (4:Nat) uB) k4]),(8,.var [.bool (szV l4 (z % (13:Int))).1,.int .i64 (szV l4 (z % (13:Int))).2.1,.int .i64 (szV l4 (z % (13:Int))).2.2.1,.sl opS (szV l4 (z % (13:Int))).2.2.2]),(10,.var [.bool (foV (szV l4 (z % (13:Int)))).1.1,.int .i64 (foV (szV l4 (z % (13:Int)))).1.2.1,.int .i64 (foV (szV l4 (z % (13:Int)))).1.2.2.1,.sl opS (foV (szV l4 (z % (13:Int)))).1.2.2.2]),(12,.var [.bool (foV ((foV (szV l4 (z % (13:Int)))).1)).1.1,.int .i64 (foV ((foV (szV l4 (z % (13:Int)))).1)).1.2.1,.int .i64 (foV ((foV (szV l4 (z % (13:Int)))).1)).1.2.2.1,.sl opS (foV ((foV (szV l4 (z % (13:Int)))).1)).1.2.2.2]),(28,.row 31 paS (((List.replicate (2:Nat) paS.dflt).set (0:Nat) (szV k4 (z % (13:Int)))).set (1:Nat) ((szV l4 (z % (13:Int))).1,(szV l4 (z % (13:Int))).2.1,(szV l4 (z % (13:Int))).2.2.1,cuL (szV l4 (z % (13:Int))).2.2.2 w)))]
theorem vc_o5 (z y:Int) (l4 k4:List (List Int)) (w:List Int) (Q:QT) (R:RT):sy tt G0 COn Tryd.f5.ntmps Tryd.f5.results.toList Q (fun it S=>R it (keepS [6,7,8,9,10,14] [8,10,28] S)) 1000 [.code (bodyOf Tryd.f5)] (entry [raS,raS,.sl uB] ((z,l4),(y,k4),w,())) =
  (ctSan.pre () ∧
 ctM6.pre ((z,l4),()) ∧
 ctM6.pre ((z,k4),()) ∧
 ctCu.pre ((szV l4 (z % (13:Int))),w,()) ∧
 ctFo.pre ((szV l4 (z % (13:Int))),()) ∧
 ctFo.pre (((foV (szV l4 (z % (13:Int)))).1),()) ∧
 bc (decide ((foV (szV l4 (z % (13:Int)))).2≠(0:Int))) (true=true ∧
 true=true ∧
 Q [.bool false] (mem_o5_m0 z l4 k4 w)) (bc (bif false then true else decide ((foV ((foV (szV l4 (z % (13:Int)))).1)).2≠(0:Int))) (true=true ∧
 Q [.bool false] (mem_o5_m0 z l4 k4 w)) (ctSm.pre (((foV (szV l4 (z % (13:Int)))).1),((foV ((foV (szV l4 (z % (13:Int)))).1)).1),()) ∧
 bc (bif false then true else !smB ((foV (szV l4 (z % (13:Int)))).1) ((foV ((foV (szV l4 (z % (13:Int)))).1)).1)) (Q [.bool false] (mem_o5_m0 z l4 k4 w)) (R (hd Tryd.f5 0) { env:=[(6,.bool false),(7,.bool true),(8,.ptr 8 0),(9,.win true paS 28 0 (2:Nat)),(10,.ptr 10 0),(14,.int .i64 0)],blk:=[(8,.var [.bool (szV l4 (z % (13:Int))).1,.int .i64 (szV l4 (z % (13:Int))).2.1,.int .i64 (szV l4 (z % (13:Int))).2.2.1,.sl opS (szV l4 (z % (13:Int))).2.2.2]),(10,.var [.bool (foV (szV l4 (z % (13:Int)))).1.1,.int .i64 (foV (szV l4 (z % (13:Int)))).1.2.1,.int .i64 (foV (szV l4 (z % (13:Int)))).1.2.2.1,.sl opS (foV (szV l4 (z % (13:Int)))).1.2.2.2]),(28,.row 31 paS (((List.replicate (2:Nat) paS.dflt).set (0:Nat) (szV k4 (z % (13:Int)))).set (1:Nat) ((szV l4 (z % (13:Int))).1,(szV l4 (z % (13:Int))).2.1,(szV l4 (z % (13:Int))).2.2.1,cuL (szV l4 (z % (13:Int))).2.2.2 w)))] })))):=by kernel_rfl
def mem_o5L_m0 (p a:PaT) (qs:List PaT) (i:Nat):List (Nat × LB):=[(8,.var [.bool p.1,.int .i64 p.2.1,.int .i64 p.2.2.1,.sl opS p.2.2.2]),(10,.var [.bool a.1,.int .i64 a.2.1,.int .i64 a.2.2.1,.sl opS a.2.2.2]),(15,.var [.bool (foV (gtP qs (0+(i:Int).toNat))).1.1,.int .i64 (foV (gtP qs (0+(i:Int).toNat))).1.2.1,.int .i64 (foV (gtP qs (0+(i:Int).toNat))).1.2.2.1,.sl opS (foV (gtP qs (0+(i:Int).toNat))).1.2.2.2]),(28,.row 31 paS qs)]
theorem vc_o5L (p a:PaT) (qs:List PaT) (i:Nat) (Q:QT) (R:RT):sy tt G0 COn Tryd.f5.ntmps Tryd.f5.results.toList Q (fun it S=>R it (keepS [6,7,8,9,10,14] [8,10,28] S)) 1000 (hd Tryd.f5 0) ⟨[(6,.bool false),(7,.bool true),(8,.ptr 8 0),(9,.win true paS 28 0 2),(10,.ptr 10 0),(14,.int .i64 (i:Nat))],[(8,.var [.bool p.1,.int .i64 p.2.1,.int .i64 p.2.2.1,.sl opS p.2.2.2]),(10,.var [.bool a.1,.int .i64 a.2.1,.int .i64 a.2.2.1,.sl opS a.2.2.2]),(28,.row 31 paS qs)]⟩ =
  (bc (decide ((i:Int)<(2:Int))) ((0:Int)≤(i:Int) ∧
 (i:Int)<(↑(2:Nat):Int) ∧
 0+(i:Int).toNat<qs.length ∧
 ctFo.pre ((gtP qs (0+(i:Int).toNat)),()) ∧
 bc (decide ((foV (gtP qs (0+(i:Int).toNat))).2≠(0:Int))) (true=true ∧
 Q [.bool false] (mem_o5L_m0 p a qs i)) (ctSm.pre (a,((foV (gtP qs (0+(i:Int).toNat))).1),()) ∧
 (0:Int)≤(i:Int) ∧
 (i:Int)<(↑(2:Nat):Int) ∧
 0+(i:Int).toNat<qs.length ∧
 ctSa.pre (p,(gtP qs (0+(i:Int).toNat)),()) ∧
 bc (bif false then true else !smB a ((foV (gtP qs (0+(i:Int).toNat))).1) == saV p (gtP qs (0+(i:Int).toNat))) (Q [.bool false] (mem_o5L_m0 p a qs i)) (R (hd Tryd.f5 0) { env:=[(6,.bool false),(7,.bool true),(8,.ptr 8 0),(9,.win true paS 28 0 (2:Nat)),(10,.ptr 10 0),(14,.int .i64 (IntKind.i64.wrap ((i:Int)+(1:Int))))],blk:=[(8,.var [.bool p.1,.int .i64 p.2.1,.int .i64 p.2.2.1,.sl opS p.2.2.2]),(10,.var [.bool a.1,.int .i64 a.2.1,.int .i64 a.2.2.1,.sl opS a.2.2.2]),(28,.row 31 paS qs)] }))) (Q [.bool true] [(8,.var [.bool p.1,.int .i64 p.2.1,.int .i64 p.2.2.1,.sl opS p.2.2.2]),(10,.var [.bool a.1,.int .i64 a.2.1,.int .i64 a.2.2.1,.sl opS a.2.2.2]),(28,.row 31 paS qs)])):=by kernel_rfl
end Go.Proofs.YtkiicobbnllpkaaDoor
namespace Go.Proofs.YtkiicobbnllpkaaDoor
open Go.Px Go.Ax
theorem fo_ok {p:PaT} (h:(chkV p).2=0) (hs:p.2.2.1≤4096):foV p=((p.1,p.2.1,p.2.2.1,chL (symF p.2.2.2)),0)∧(chkV (p.1,p.2.1,p.2.2.1,chL (symF p.2.2.2))).2=0∧symF (chL (symF p.2.2.2))=symF p.2.2.2∧costF 0 (chL (symF p.2.2.2))=cst (symF p.2.2.2)∧(chL (symF p.2.2.2)).length≤4096:=by
 obtain ⟨hr,hl,ho,hn⟩:=chkV_ok h
 have hi:=chkV_in h
 have sl:=symF_len hr
 have so:=sym_sOK hi.1 (by omega) hr
 obtain ⟨q1,q2,q3,q4,q5,q6⟩:=poV_ok so hi.1 hi.2 (by omega)
 have e:((symF p.2.2.2).length:Int)=p.2.2.1:=by omega
 rw[e] at q1 q6
 have hv:symV p=(symF p.2.2.2,0):=by unfold symV;rw[if_pos h]
 refine ⟨?_,q6,q2,cost_eq so hi.1 hi.2 (by omega),q5⟩
 unfold foV
 rw[hv]
 simp only[q1]
 rfl
theorem sy_ok {p:PaT} (h:(chkV p).2=0):symV p=(symF p.2.2.2,0):=by unfold symV;rw[if_pos h]
theorem sa_val {p q:PaT} (hp:(chkV p).2=0) (hq:(chkV q).2=0):saV p q=true↔p.1=q.1∧p.2.1=q.2.1∧symF p.2.2.2=symF q.2.2.2:=by
 unfold saV
 rw[sy_ok hp,sy_ok hq]
 simp
def byL (s:List SyT):Prop:=∀ x∈s,0≤x.2.2∧x.2.2<256
def byO (o:List OpT):Prop:=∀ x∈o,∀ v∈x.2.2.2.2,0≤v∧v<256
theorem ch_by:∀ (f:Nat) (l:List SyT),byL l→byO (chF f l)
 | 0,l,_=>fun x hx=>by cases hx
 | f+1,l,h=>fun x hx=>by
  rw[chF] at hx
  split at hx
  ·cases hx
  ·rcases List.mem_cons.1 hx with e | hx
   ·subst e
    intro v hv
    have hv:v∈(if (bst l).1=2∨(bst l).1=4 then (l.take (bst l).2.1.toNat).map (fun s=>s.2.2) else []):=hv
    split at hv
    ·obtain ⟨s,hs,e⟩:=List.mem_map.1 hv
     rw[← e];exact h s (List.mem_of_mem_take hs)
    ·cases hv
   ·exact ch_by f _ (fun s hs=>h s (List.mem_of_mem_drop hs)) x hx
theorem toB_inj {a b:Int} (ha:0≤a∧a<256) (hb:0≤b∧b<256) (h:toB a=toB b):a=b:=by
 unfold toB at h
 have h1:=congrArg UInt8.toNat h
 rw[UInt8.toNat_ofNat',UInt8.toNat_ofNat'] at h1
 omega
theorem mapB_inj:∀ {x y:List Int},(∀ v∈x,0≤v∧v<256)→(∀ v∈y,0≤v∧v<256)→x.map toB=y.map toB→x=y
 | [],[],_,_,_=>rfl
 | [],b::y,_,_,h=>by simp at h
 | a::x,[],_,_,h=>by simp at h
 | a::x,b::y,hx,hy,h=>by
  rw[List.map_cons,List.map_cons] at h
  injection h with h1 h2
  rw[toB_inj (hx a (by simp)) (hy b (by simp)) h1,mapB_inj (fun v hv=>hx v (by simp[hv])) (fun v hv=>hy v (by simp[hv])) h2]
theorem soB_eq {x y:OpT} (hx:∀ v∈x.2.2.2.2,0≤v∧v<256) (hy:∀ v∈y.2.2.2.2,0≤v∧v<256) (h:soB x y=true):x=y:=by
 obtain ⟨a,b,c,d,e⟩:=x
 obtain ⟨a',b',c',d',e'⟩:=y
 unfold soB at h
 simp only[Bool.and_eq_true,decide_eq_true_eq] at h
 obtain ⟨h1,h2,h3,h4,h5⟩:=h
 have h6:e=e':=mapB_inj hx hy h5
 rw[h1,h2,h3,h4,h6]
theorem smL_eq:∀ {x y:List OpT},x.length=y.length→byO x→byO y→smL x y=true→x=y
 | [],[],_,_,_,_=>rfl
 | [],b::y,h,_,_,_=>by simp at h
 | a::x,[],h,_,_,_=>by simp at h
 | a::x,b::y,hl,hx,hy,h=>by
  simp only[smL,Bool.and_eq_true] at h
  rw[soB_eq (hx a (by simp)) (hy b (by simp)) h.1,smL_eq (by simpa using hl) (fun v hv=>hx v (by simp[hv])) (fun v hv=>hy v (by simp[hv])) h.2]
theorem soR7 (x:OpT):soB x x=true:=by simp[soB]
theorem smR:∀ l:List OpT,smL l l=true
 | []=>rfl
 | x::l=>by
  have:=smR l
  simp[smL,soR7,this]
theorem smBR (p:PaT):smB p p=true:=by simp[smB,smR]
theorem sm_sa {p q:PaT} (hp:(chkV p).2=0) (hq:(chkV q).2=0) (lp:p.2.2.1≤4096) (lq:q.2.2.1≤4096) (bp:byL (symF p.2.2.2)) (bq:byL (symF q.2.2.2)):smB (foV p).1 (foV q).1=saV p q:=by
 obtain ⟨a1,_,a3,_,_⟩:=fo_ok hp lp
 obtain ⟨b1,_,b3,_,_⟩:=fo_ok hq lq
 rw[a1,b1]
 have hpl:=symF_len (chkV_ok hp).1
 have hql:=symF_len (chkV_ok hq).1
 have hps:=(chkV_ok hp).2.1
 have hqs:=(chkV_ok hq).2.1
 cases h:saV p q
 ·rcases hs:smB (p.1,p.2.1,p.2.2.1,chL (symF p.2.2.2)) (q.1,q.2.1,q.2.2.1,chL (symF q.2.2.2)) with _ | _
  ·rfl
  ·exfalso
   unfold smB at hs
   simp only[Bool.and_eq_true,decide_eq_true_eq,beq_iff_eq] at hs
   obtain ⟨h1,h2,h3,h4,h5⟩:=hs
   have e:=smL_eq h4 (ch_by _ _ bp) (ch_by _ _ bq) h5
   have es:symF p.2.2.2=symF q.2.2.2:=by rw[← a3,← b3,e]
   rw[(sa_val hp hq).2 ⟨h1,h2,es⟩] at h
   cases h
 ·obtain ⟨h1,h2,h3⟩:=(sa_val hp hq).1 h
  have h4:p.2.2.1=q.2.2.1:=by rw[← hps,← hqs,← hpl,← hql,h3]
  rw[h1,h2,h3,h4]
  exact smBR _
theorem gtB_rg {d:List Int} (h:∀ v∈d,0≤v∧v<256) (k:Nat):0≤gtB d k∧gtB d k<256:=by
 by_cases hk:k<d.length
 ·rw[gtB_at hk];exact h _ (List.getElem_mem hk)
 ·have:gtB d k=0:=by
   show gt uB _ _=_
   unfold gt
   rw[List.getElem?_eq_none (by omega)];rfl
  rw[this];decide
theorem datO_rg (x:List Int) (k n:Int):∀ v∈datO x k n,0≤v∧v<256:=fun v hv=>by
 unfold datO at hv
 split at hv
 ·unfold datA at hv
  obtain ⟨j,_,e⟩:=List.mem_map.1 hv
  rw[← e]
  unfold elA
  generalize gtB x 3*_=t
  simp[IntKind.wrap,IntKind.bits,IntKind.signed];omega
 ·cases hv
theorem opV_rg {x:List Int} (hx:preB4 x) (m:Int):(0≤(opV x m).2.2.2.1∧(opV x m).2.2.2.1<256)∧∀ v∈(opV x m).2.2.2.2,0≤v∧v<256:=by
 unfold opV
 split
 ·split
  ·exact ⟨⟨Int.le_refl 0,(show (0:Int)<256 by decide)⟩,fun v hv=>datO_rg x 4 (1+(gtB x 2).tmod 5) v hv⟩
  ·exact ⟨⟨Int.le_refl 0,(show (0:Int)<256 by decide)⟩,fun v hv=>datO_rg x (1+(gtB x 0).tmod 4) (1+((gtB x 2).tmod (m-(gtB x 1).tmod m)).tmod 5) v hv⟩
 ·refine ⟨?_,fun v hv=>datO_rg x (1+(gtB x 0).tmod 4) (1+(gtB x 2).tmod 5) v hv⟩
  show 0≤(if 1+(gtB x 0).tmod 4=3 then gtB x 3 else 0)∧(if 1+(gtB x 0).tmod 4=3 then gtB x 3 else 0)<256
  split
  ·exact hx 3
  ·decide
theorem szO_by {l:List (List Int)} {m:Int} (hl:preL4 l) (h0:0≤m) (h1:m≤65536):byL (symF (szO l m)):=fun s hs=>by
 obtain ⟨x,hx,k,hk,e⟩:=sym_mem (szO_right hl h0 h1) s hs
 have hk4:=(isRB_kind (szO_right hl h0 h1 x hx)).1
 unfold szO szL at hx
 obtain ⟨j,_,ex⟩:=List.mem_map.1 hx
 have r:=opV_rg (hl j) m
 rw[ex] at r
 rw[e]
 have z:(0:Int)≤0∧(0:Int)<256:=by decide
 rcases hk4 with q | q | q | q <;> rw[q]
 ·exact z
 ·exact gtB_rg r.2 k
 ·exact r.1
 ·exact gtB_rg r.2 k
theorem szV_ok {l:List (List Int)} {m:Int} (hl:preL4 l) (h0:0≤m) (h1:m≤65536):(chkV (szV l m)).2=0∧(szV l m).2.2.1≤30∧(szV l m).2.2.2.length≤6∧byL (symF (szV l m).2.2.2):=by
 rw[szV_chk hl h0 h1]
 exact ⟨rfl,(szO_sum hl h0).2,szO_len l m,szO_by hl h0 h1⟩
def cutV (p:PaT) (w:List Int):PaT:=(p.1,p.2.1,p.2.2.1,cuL p.2.2.2 w)
theorem cut_v {p:PaT} {w:List Int} (h:(chkV p).2=0) (hs:p.2.2.1≤4096) (hn:p.2.2.2.length≤1000) (hw:u8L w):(chkV (cutV p w)).2=0∧symF (cutV p w).2.2.2=symF p.2.2.2∧(∀ x∈(cutV p w).2.2.2,isRB x p.2.1=true)∧(cutV p w).2.2.2.length≤2000:=by
 obtain ⟨hr,hl,ho,_⟩:=chkV_ok h
 have hi:=chkV_in h
 have hc:=cut_ok hr hi.1 (by omega) hw (by omega) p.2.2.2.length 0 (by omega) (Nat.zero_le _)
 have e0:(lenS (p.2.2.2.take 0)).toNat=0:=rfl
 rw[e0,List.drop_zero] at hc
 obtain ⟨c1,c2,c3⟩:=hc
 have c1:∀ x∈cuL p.2.2.2 w,isRB x p.2.1=true:=c1
 have c2:symF (cuL p.2.2.2 w)=symF p.2.2.2:=c2
 have c3:(cuL p.2.2.2 w).length≤2*p.2.2.2.length:=c3
 have s1:=symF_len hr
 have s2:=symF_len c1
 rw[c2] at s2
 refine ⟨?_,c2,c1,by show (cuL p.2.2.2 w).length≤2000;omega⟩
 have:=chkV_of (li:=p.1) hi.1 hi.2 ho.2 (show (cuL p.2.2.2 w).length≤4096 by omega) c1 (show lenS (cuL p.2.2.2 w)=p.2.2.1 by omega)
 show (chkV (p.1,p.2.1,p.2.2.1,cuL p.2.2.2 w)).2=0
 rw[this]
end Go.Proofs.YtkiicobbnllpkaaDoor
namespace Go.Proofs.YtkiicobbnllpkaaDoor
open Go.Px Go.Ax
set_option maxRecDepth 100000
attribute [local irreducible] Go.Px.sy Go.Px.syE
abbrev TQ5:List SV→List (Nat × LB)→Prop:=fun rs _=>rs=[.bool true]
section
variable (p:PaT) (hp:(chkV p).2=0) (lp:p.2.2.1≤4096) (bp:byL (symF p.2.2.2)) (q0 q1:PaT) (h0:(chkV q0).2=0) (l0:q0.2.2.1≤4096) (b0:byL (symF q0.2.2.2)) (h1:(chkV q1).2=0) (l1:q1.2.2.1≤4096) (b1:byL (symF q1.2.2.2))
abbrev o5S (a:PaT) (i:Nat):PS:=⟨[(6,.bool false),(7,.bool true),(8,.ptr 8 0),(9,.win true paS 28 0 2),(10,.ptr 10 0),(14,.int .i64 (i:Nat))],[(8,.var [.bool p.1,.int .i64 p.2.1,.int .i64 p.2.2.1,.sl opS p.2.2.2]),(10,.var [.bool a.1,.int .i64 a.2.1,.int .i64 a.2.2.1,.sl opS a.2.2.2]),(28,.row 31 paS [q0,q1])]⟩
include hp lp bp h0 l0 b0 h1 l1 b1
theorem o5_loop (a:PaT) (ha:a=(foV p).1):∀ (c i:Nat),2-i=c→i≤2→GD 5 Tryd.f5 TQ5 (hd Tryd.f5 0) (o5S p q0 q1 a i):=by
 have al:a.2.2.2.length<1099511627776:=by
  obtain ⟨a1,_,_,_,a5⟩:=fo_ok hp lp
  rw[ha,a1]
  show (chL (symF p.2.2.2)).length<1099511627776
  omega
 have rnd:∀ (i:Nat) (q:PaT),i<2→gtP [q0,q1] (0+i)=q→(chkV q).2=0→q.2.2.1≤4096→byL (symF q.2.2.2)→GD 5 Tryd.f5 TQ5 (hd Tryd.f5 0) (o5S p q0 q1 a (i+1))→GD 5 Tryd.f5 TQ5 (hd Tryd.f5 0) (o5S p q0 q1 a i):=fun i q hi hg hq lq bq nx=>by
  have e0:(foV q).2=0:=by rw[(fo_ok hq lq).1]
  have es:smB a (foV q).1=saV p q:=by rw[ha];exact sm_sa hp hq lp lq bp bq
  have wi:IntKind.i64.wrap ((i:Int)+1)=((i+1:Nat):Int):=by rw[IntWalk.i64_in _ (by omega)];omega
  refine sy_goK cxOn (vc_o5L p a [q0,q1] i _ _) ?_
  rw[decide_eq_true (show (i:Int)<2 by omega),bc_t,Int.toNat_natCast,hg,e0,es,wi]
  refine ⟨by omega,by omega,(show 0+i<2 by omega),trivial,bc_of (fun h=>by simp at h) (fun _=>⟨al,by omega,by omega,(show 0+i<2 by omega),trivial,bc_of (fun h=>?_) (fun _=>?_)⟩)⟩
  ·have h:(!saV p q == saV p q)=true:=h
   simp at h
  ·exact nx.only ⟨rfl,rfl,rfl,rfl,rfl,rfl,trivial⟩ ⟨rfl,rfl,rfl,trivial⟩
 intro c
 induction c with
 | zero=>
  intro i hc hi
  refine sy_goK cxOn (vc_o5L p a [q0,q1] i _ _) ?_
  rw[decide_eq_false (show ¬ (i:Int)<2 by omega),bc_f]
 | succ c ih=>
  intro i hc hi
  rcases (show i=0∨i=1 by omega) with e | e
  ·subst e
   exact rnd 0 q0 (by omega) rfl h0 l0 b0 (ih 1 (by omega) (by omega))
  ·subst e
   exact rnd 1 q1 (by omega) rfl h1 l1 b1 (ih 2 (by omega) (by omega))
end
theorem o5_run (z y:Int) (l4 k4:List (List Int)) (w:List Int) (hx:preM6 z l4) (hy:preM6 y k4) (hw:u8L w):GD 5 Tryd.f5 TQ5 [.code (bodyOf Tryd.f5)] (entry [raS,raS,.sl uB] ((z,l4),(y,k4),w,())):=by
 have m0:0≤z % 13∧z % 13<13:=by omega
 obtain ⟨s1,s2,s3,s4⟩:=szV_ok (m:=z % 13) hx.2.1 m0.1 (by omega)
 obtain ⟨t1,t2,t3,t4⟩:=szV_ok (m:=z % 13) hy.2.1 m0.1 (by omega)
 have hz:preM6 z k4:=⟨hx.1,hy.2⟩
 refine sy_goK cxOn (vc_o5 z y l4 k4 w _ _) ?_
 have hcut:((szV l4 (z % 13)).1,(szV l4 (z % 13)).2.1,(szV l4 (z % 13)).2.2.1,cuL (szV l4 (z % 13)).2.2.2 w)=cutV (szV l4 (z % 13)) w:=rfl
 rw[hcut]
 generalize szV l4 (z % 13)=p at *
 generalize szV k4 (z % 13)=q0 at *
 obtain ⟨c1,c2,c3,c4⟩:=cut_v s1 (show p.2.2.1≤4096 by omega) (by omega) hw
 obtain ⟨a1,a2,a3,a4,a5⟩:=fo_ok s1 (show p.2.2.1≤4096 by omega)
 have f1:(foV p).2=0:=by rw[a1]
 have fp:(foV p).1=(p.1,p.2.1,p.2.2.1,chL (symF p.2.2.2)):=by rw[a1]
 have b1:=(fo_ok (p:=(foV p).1) (by rw[fp];exact a2) (by rw[fp];show p.2.2.1≤4096;omega)).1
 have fs:symF (foV p).1.2.2.2=symF p.2.2.2:=by rw[fp];exact a3
 have ff:foV (foV p).1=((foV p).1,0):=by
  rw[b1,fs,fp]
 have al:(foV p).1.2.2.2.length<1099511627776:=by
  rw[fp]
  show (chL (symF p.2.2.2)).length<1099511627776
  omega
 have lp:=o5_loop p s1 (by omega) s4 q0 (cutV p w) t1 (by omega) t4 c1 (show p.2.2.1≤4096 by omega) (by rw[c2];exact s4) (foV p).1 rfl _ 0 rfl (Nat.zero_le _)
 rw[ff,f1,smBR]
 refine ⟨trivial,hx,hz,(show preCu p w from ⟨s1,by omega,hw⟩),trivial,trivial,bc_of (fun h=>by simp at h) (fun _=>bc_of (fun h=>by simp at h) (fun _=>⟨al,bc_of (fun h=>by simp at h) (fun _=>?_)⟩))⟩
 exact lp.only ⟨rfl,rfl,rfl,rfl,rfl,rfl,trivial⟩ ⟨rfl,rfl,rfl,trivial⟩
def ctL5n:Ctr:=⟨[raS,raS,.sl uB],fun x=>preM6 x.1.1 x.1.2∧preM6 x.2.1.1 x.2.1.2∧u8L x.2.2.1,fun _=>[.bool true],fun _=>[]⟩
theorem o5_held:Held Tryd.prog G0 5 ctL5n:=
 Held.of cxOn (fn:=Tryd.f5) rfl rfl ⟨by decide,by decide⟩ fun ⟨⟨z,l4⟩,⟨y,k4⟩,w,_⟩ hp=>
  (o5_run z y l4 k4 w hp.1 hp.2.1 hp.2.2).post fun rs blk hq=>QC.flat (by rw[hq];rfl) rfl (by rw[hq];rfl)
end Go.Proofs.YtkiicobbnllpkaaDoor
