/-
  A part of the proof: a run over an abstract memory, its soundness and its rules; each theorem says its conditions.
-/
import Derived.Test.YtdlnmlepljepjaaGD
import Derived.LaidLaws
import Derived.MakeChecks
import Derived.OpenShut
import Derived.LaidHandle
import Derived.Deep.Fields
set_option linter.unusedVariables false
set_option linter.unusedSimpArgs false
namespace Go.Ax
section
variable {P:Program} {F:FuncId->Option Func} {md:Md P} {n:Nat} {ops:Array Oper} {i:Nat} {l:List Nat} {E:T Value} {H:AHeap} {Q:T Value->AHeap->Prop}
 {d:Nat} {ty:TypeId} {pos:String} {af:Array Edge} {g:Option (Nat × Bool)}
end
section
variable {P:Program} {F:FuncId->Option Func} {fs:FrS} {Q:Res->Prop}
end
section
variable {P:Program} {F:FuncId->Option Func} {fs:FrS} {Q:Res->Prop}
end
open Go.ChangeShapes Go.WideShapes Go.RowKit
def qz9 (P:Program) (g:TypeId->DataW Unit->Option (List Value)):List Field->List (DataW Unit)->Nat->Option (List Value)
 | [],[],_=>some []
 | fd::fs,d::ds,k=>if fd.offset=k then (g fd.type d).bind λ a=>if a.length=P.cellsOf fd.type then (qz9 P g fs ds (k+a.length)).map λ b=>a++b else none else none
 | _,_,_=>none
def q0a (P:Program) (g:TypeId->DataW Unit->Option (List Value)) (e:TypeId):List (DataW Unit)->Option (List Value)
 | []=>some []
 | d::ds=>(g e d).bind λ a=>if a.length=P.cellsOf e then (q0a P g e ds).map λ b=>a++b else none
def qdy (P:Program):Nat->TypeId->DataW Unit->Option (List Value)
 | 0,_,_=>none
 | f+1,t,d=>match P.underlying t,d with
  | some .bool,.lit (.bool b)=>some [.bool b]
  | some (.int _),.lit (.int k n)=>some [.int k n]
  | some .string,.lit (.string l)=>some [.string ⟨l.toArray⟩]
  | some (.struct fs),.agg parts=>(qz9 P (qdy P f) fs.toList parts 0).bind λ vs=>if vs.length=P.cellsOf t then some vs else none
  | some (.array n e),.agg parts=>if parts.length=n then (q0a P (qdy P f) e parts).bind λ vs=>if vs.length=P.cellsOf t then some vs else none else none
  | _,_=>none
section
variable {P:Program} {enc:TypeId × Value->Unit} {w:World} {base:Nat} {spare:Nat->Bool} {held:Bool}
end
section
variable {H:Type} {enc:TypeId × Value->H} {P:Program} {w:World} {base:Nat} {spare:Nat->Bool} {held:Bool}
end
theorem okWide_arr {P:Program} {w:World} {r:Reach} {base:Nat} {t e:TypeId} {n:Nat} {v:Value} (ht:P.underlying t=some (.array n e)) (h:Value.okWide P w r base t v):∃ cs:Array Value,v=.agg cs:=by
 simp only[Value.okWide,ht] at h;obtain ⟨cs,h1,_⟩:=h;exact ⟨cs,h1⟩
end Go.Ax
