/-
  A part of the proof: a run over an abstract memory, its soundness and its rules; each theorem says its conditions.
-/
import Derived.Test.YtdeacfammdjajaaDoorGD
import Derived.LaidLaws
import Derived.MakeChecks
import Derived.OpenShut
import Derived.LaidHandle
import Derived.Deep.Fields
set_option linter.unusedVariables false
set_option linter.unusedSimpArgs false
namespace Go.Ax
section
variable {P:Program} {F:FuncId->Option Func} {md:Md P} {n:Nat} {ops:Array Oper} {i:Nat} {l:List Nat} {E:T Value} {H:AHeap} {Q:T Value->AHeap->Prop}
 {d:Nat} {ty:TypeId} {pos:String} {af:Array Edge} {g:Option (Nat × Bool)}
end
section
variable {P:Program} {F:FuncId->Option Func} {fs:FrS} {Q:Res->Prop}
end
section
variable {P:Program} {F:FuncId->Option Func} {fs:FrS} {Q:Res->Prop}
end
open Go.ChangeShapes Go.WideShapes Go.RowKit
def qk7 (P:Program) (g:TypeId->DataW Unit->Option (List Value)):List Field->List (DataW Unit)->Nat->Option (List Value)
 | [],[],_=>some []
 | fd::fs,d::ds,k=>if fd.offset=k then (g fd.type d).bind λ a=>if a.length=P.cellsOf fd.type then (qk7 P g fs ds (k+a.length)).map λ b=>a++b else none else none
 | _,_,_=>none
def qpg (P:Program) (g:TypeId->DataW Unit->Option (List Value)) (e:TypeId):List (DataW Unit)->Option (List Value)
 | []=>some []
 | d::ds=>(g e d).bind λ a=>if a.length=P.cellsOf e then (qpg P g e ds).map λ b=>a++b else none
def qcx (P:Program):Nat->TypeId->DataW Unit->Option (List Value)
 | 0,_,_=>none
 | f+1,t,d=>match P.underlying t,d with
  | some .bool,.lit (.bool b)=>some [.bool b]
  | some (.int _),.lit (.int k n)=>some [.int k n]
  | some .string,.lit (.string l)=>some [.string ⟨l.toArray⟩]
  | some (.struct fs),.agg parts=>(qk7 P (qcx P f) fs.toList parts 0).bind λ vs=>if vs.length=P.cellsOf t then some vs else none
  | some (.array n e),.agg parts=>if parts.length=n then (qpg P (qcx P f) e parts).bind λ vs=>if vs.length=P.cellsOf t then some vs else none else none
  | _,_=>none
section
variable {P:Program} {enc:TypeId × Value->Unit} {w:World} {base:Nat} {spare:Nat->Bool} {held:Bool}
theorem qmq {cs a b:List Value} {k:Nat} (h1:(cs.drop k).take a.length=a) (h2:(cs.drop (k+a.length)).take b.length=b):(cs.drop k).take (a++b).length=a++b:=by
 rw[List.length_append,List.take_add,h1,List.drop_drop,h2]
theorem qpe {g:TypeId->DataW Unit->Option (List Value)} {n:Nat} {cs:List Value} (hg:∀ t d vs cs p,g t d=some vs->DataW.trod enc P w base spare held n t cs=some (d,p)->cs=vs) :
  ∀ (fs:List Field) (xs:List (DataW Unit × List MemPlace)) (k:Nat) (vs:List Value),qk7 P g fs (xs.map (·.1)) k=some vs ->
  (∀ (i:Nat) (f:Field),fs[i]?=some f->DataW.trod enc P w base spare held n f.type ((cs.drop f.offset).take (P.cellsOf f.type))=xs[i]?)->(cs.drop k).take vs.length=vs
 | [],[],k,vs,h,_=>by simp only[List.map_nil,qk7,Option.some.injEq] at h;subst h;simp
 | [],_::_,k,vs,h,_=>by simp[qk7] at h
 | _::_,[],k,vs,h,_=>by simp[qk7] at h
 | fd::fs,x::xs,k,vs,h,ht=>by
  simp only[List.map_cons,qk7] at h;split at h
  next ho=>
   rw[Option.bind_eq_some_iff] at h;obtain ⟨a,ha,h⟩:=h;split at h
   next hl=>
    rw[Option.map_eq_some_iff] at h;obtain ⟨b,hb,rfl⟩:=h;have h0:=ht 0 fd rfl;rw[ho] at h0;have e:=hg _ _ _ _ _ ha (h0.trans rfl);have ih:=qpe (cs:=cs) hg fs xs _ b hb λ i f hf=>ht (i+1) f (by simpa using hf)
    refine qmq ?_ ih;rw[hl];exact e
   ·cases h
  ·cases h
theorem qpf {g:TypeId->DataW Unit->Option (List Value)} {n:Nat} {e:TypeId} {cs:List Value} (hg:∀ t d vs cs p,g t d=some vs->DataW.trod enc P w base spare held n t cs=some (d,p)->cs=vs) :
  ∀ (xs:List (DataW Unit × List MemPlace)) (j:Nat) (vs:List Value),qpg P g e (xs.map (·.1))=some vs ->
  (∀ (i:Nat),i<xs.length->DataW.trod enc P w base spare held n e ((cs.drop ((j+i)*P.cellsOf e)).take (P.cellsOf e))=xs[i]?)->(cs.drop (j*P.cellsOf e)).take vs.length=vs
 | [],j,vs,h,_=>by simp only[List.map_nil,qpg,Option.some.injEq] at h;subst h;simp
 | x::xs,j,vs,h,ht=>by
  simp only[List.map_cons,qpg] at h;rw[Option.bind_eq_some_iff] at h;obtain ⟨a,ha,h⟩:=h;split at h
  next hl=>
   rw[Option.map_eq_some_iff] at h;obtain ⟨b,hb,rfl⟩:=h;have h0:=ht 0 (by simp);rw[Nat.add_zero] at h0;have e1:=hg _ _ _ _ _ ha (h0.trans rfl);have ih:=qpf (cs:=cs) hg xs (j+1) b hb λ i hi=>by
    have:=ht (i+1) (by simpa using hi);rw[show j+(i+1)=j+1+i by omega] at this;simpa using this
   refine qmq ?_ ?_
   ·rw[hl];exact e1
   ·rw[hl,show j*P.cellsOf e+P.cellsOf e=(j+1)*P.cellsOf e by rw[Nat.add_mul,Nat.one_mul]];exact ih
  ·cases h
theorem qnu:∀ (f:Nat) (t:TypeId) (d:DataW Unit) (vs:List Value) (fuel:Nat) (cs:List Value) (p:List MemPlace),qcx P f t d=some vs->DataW.trod enc P w base spare held fuel t cs=some (d,p)->cs=vs
 | 0,_,_,_,_,_,_,h,_=>by simp[qcx] at h
 | f+1,t,d,vs,fuel,cs,p,h,ht=>by
  unfold qcx at h;split at h
  next b hu=>
   cases h
   cases fuel with
   | zero=>simp[DataW.trod] at ht
   | succ n=>unfold DataW.trod at ht;rw[hu] at ht;split at ht <;> simp_all
  next k k' n' hu=>cases h;obtain ⟨m,rfl,hx,_⟩:=DataW.trod_int hu ht;simp only[Prod.mk.injEq,DataW.lit.injEq,Lit.int.injEq] at hx;obtain ⟨⟨rfl,rfl⟩,_⟩:=hx;rfl
  next l hu=>
   cases h
   cases fuel with
   | zero=>simp[DataW.trod] at ht
   | succ n=>
    unfold DataW.trod at ht;rw[hu] at ht;split at ht <;> simp_all
    all_goals (obtain ⟨_,h1,_⟩:=ht;subst h1;rfl)
  next fs parts hu=>
   rw[Option.bind_eq_some_iff] at h;obtain ⟨vs',hv,h⟩:=h;split at h
   next hl=>
    cases h;obtain ⟨xs,n,rfl,hx,hcl,hxl,hf⟩:=DataW.trod_struct hu ht;simp only[Prod.mk.injEq,DataW.agg.injEq] at hx;obtain ⟨rfl,_⟩:=hx;have:=qpe (cs:=cs) (g:=qcx P f) (n:=n) (λ t d vs cs p h1 h2=>qnu f t d vs n cs p h1 h2) fs.toList xs 0 vs hv λ i fd hi=>hf i fd (by simpa using hi)
    rw[List.drop_zero,hl,<- hcl,List.take_length] at this;exact this
   ·cases h
  next n e parts hu=>
   split at h
   next hpl=>
    rw[Option.bind_eq_some_iff] at h;obtain ⟨vs',hv,h⟩:=h;split at h
    next hl=>
     cases h;obtain ⟨xs,m,rfl,hx,hcl,hxl,hf⟩:=DataW.trod_array hu ht;simp only[Prod.mk.injEq,DataW.agg.injEq] at hx;obtain ⟨rfl,_⟩:=hx;have:=qpf (cs:=cs) (e:=e) (g:=qcx P f) (n:=m) (λ t d vs cs p h1 h2=>qnu f t d vs m cs p h1 h2) xs 0 vs hv λ i hi=>by rw[Nat.zero_add];exact hf i (by omega)
     rw[Nat.zero_mul,List.drop_zero,hl,<- hcl,List.take_length] at this;exact this
    ·cases h
   ·cases h
  ·cases h
end
theorem quh {P:Program} {w:World} {ps:List MemPlace} {n:String} {d:DataW Unit} {r:List (String × DataW Unit)} (h:DataW.LaidVars P w ((n,d)::r) ps) {g t f:Nat} {vs:List Value} (hg:P.globalNamed n=some g) (ht:(P.globals[g]?).map (·.type)=some t)
  (hf:qcx P f t d=some vs):(∃ c e2 fz,w.heap[g]?=some (.cells c e2 fz)/\c.toList.take vs.length=vs)/\∃ q,DataW.LaidVars P w r q:=by
 obtain ⟨g',t',cs,fuel,p,q,h1,h2,h3,h4,h5,_⟩:=h;obtain rfl:=Option.some.inj (hg.symm.trans h1);obtain rfl:=Option.some.inj (ht.symm.trans h2);refine ⟨?_,q,h5⟩;unfold World.var? at h3;rw[hg] at h3;simp only[Option.bind_some] at h3;split at h3
 next c e2 fz hc=>cases h3;exact ⟨cs,e2,fz,hc,by rw[qnu f t d vs fuel cs.toList p hf h4,List.take_length]⟩
 ·cases h3
section
variable {H:Type} {enc:TypeId × Value->H} {P:Program} {w:World} {base:Nat} {spare:Nat->Bool} {held:Bool}
end
theorem okWide_arr {P:Program} {w:World} {r:Reach} {base:Nat} {t e:TypeId} {n:Nat} {v:Value} (ht:P.underlying t=some (.array n e)) (h:Value.okWide P w r base t v):∃ cs:Array Value,v=.agg cs:=by
 simp only[Value.okWide,ht] at h;obtain ⟨cs,h1,_⟩:=h;exact ⟨cs,h1⟩
end Go.Ax
