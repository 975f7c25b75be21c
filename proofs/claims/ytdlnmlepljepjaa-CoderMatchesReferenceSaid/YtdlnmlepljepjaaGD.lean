/-
  A part of the proof: a run over an abstract memory, its soundness and its rules; each theorem says its conditions.
-/
import Derived.Test.YtdlnmlepljepjaaGB
import Derived.Test.YtdlnmlepljepjaaGC
import Derived.Laws.Strings
import Derived.OpenShut
set_option linter.unusedVariables false
set_option linter.unusedSimpArgs false
namespace Go.Ax
section
variable {P:Program} {F:FuncId->Bool} {ev:Req->Option Res} {ops:Array Oper} {n:Nat}
end
def EvS (P:Program) (r:Req) (res:Res):Prop:=∀ base,q0m P base r res
def q5r (P:Program) (ev:Req->Option Res):Prop:=∀ r res,ev r=some res->EvS P r res
abbrev noEv:Req->Option Res:=λ _=>none
section
variable {P:Program} {F:FuncId->Option Func} {fs:FrS} {Q:Res->Prop}
inductive Md (P:Program) where
 | str
 | drw (ev:Req->Option Res) (hev:q5r P ev) (L:List Nat)
 | clm (ev:Req->Option Res) (hev:q5r P ev) (Inv:AHeap->Prop)
end
section
variable {P:Program} {F:FuncId->Option Func} {md:Md P} {n:Nat} {ops:Array Oper} {i:Nat} {l:List Nat} {E:T Value} {H:AHeap} {Q:T Value->AHeap->Prop}
def qvp:BinOp->Bool
 | .eql | .neq | .lss | .leq | .gtr | .geq=>true
 | _=>false
def cmpP:BinOp->Int->Int->Prop
 | .eql,a,b=>a=b
 | .neq,a,b=>a≠b
 | .lss,a,b=>a<b
 | .leq,a,b=>a<=b
 | .gtr,a,b=>b<a
 | .geq,a,b=>b<=a
 | _,_,_=>False
theorem qw1 {op:BinOp} {t:TypeId} {xo yo:Operand} {k:IntKind} {a b:Int} (ho:qvp op=true) (h:cmpP op a b):aBin P op t xo yo (.int k a) (.int k b)=some (.bool true):=by
 cases op <;> simp[qvp] at ho <;> simp only[cmpP] at h <;> simp[aBin,flat,eqGuard,binOp,Op.intCmp,qac,h]
theorem qw2 {op:BinOp} {t:TypeId} {xo yo:Operand} {k:IntKind} {a b:Int} (ho:qvp op=true) (h:¬ cmpP op a b):aBin P op t xo yo (.int k a) (.int k b)=some (.bool false):=by
 cases op <;> simp[qvp] at ho <;> simp only[cmpP] at h <;> simp[aBin,flat,eqGuard,binOp,Op.intCmp,qac] <;> first | exact h | omega
theorem qzi {t:TypeId} {xo yo:Operand} {k:IntKind} {a b:Int}:aBin P .add t xo yo (.int k a) (.int k b)=some (.int k (k.wrap (a+b))):=by simp[aBin,flat,eqGuard,binOp,Op.intArith,qac]
theorem qy4 {t:TypeId} {xo yo:Operand} {k:IntKind} {a b:Int}:aBin P .sub t xo yo (.int k a) (.int k b)=some (.int k (k.wrap (a-b))):=by simp[aBin,flat,eqGuard,binOp,Op.intArith,qac]
theorem qy9 {t:TypeId} {xo yo:Operand} {k:IntKind} {a b:Int}:aBin P .mul t xo yo (.int k a) (.int k b)=some (.int k (k.wrap (a*b))):=by simp[aBin,flat,eqGuard,binOp,Op.intArith,qac]
theorem qy6 {t:TypeId} {xo yo:Operand} {k:IntKind} {a b:Int} (hb:b≠0):aBin P .quo t xo yo (.int k a) (.int k b)=some (.int k (k.wrap (a.tdiv b))):=by simp[aBin,flat,eqGuard,binOp,Op.intDiv,qac,hb]
theorem qy5 {t:TypeId} {xo yo:Operand} {k:IntKind} {a b:Int} (hb:b≠0):aBin P .rem t xo yo (.int k a) (.int k b)=some (.int k (a.tmod b)):=by simp[aBin,flat,eqGuard,binOp,Op.intDiv,qac,hb]
end
def bv (b:UInt8):Value:=.int .u8 (b.toNat:Int)
def bstr (l:List UInt8):Value:=.string ⟨l.toArray⟩
theorem qc8 (l:List UInt8):(⟨l.toArray⟩:ByteArray).size=l.length:=rfl
section
variable {P:Program} {F:FuncId->Option Func} {md:Md P} {n:Nat} {ops:Array Oper} {i:Nat} {l:List Nat} {E:T Value} {H:AHeap} {Q:T Value->AHeap->Prop}
 {d:Nat} {ty:TypeId} {pos:String} {af:Array Edge} {g:Option (Nat × Bool)}
end
section
variable {P:Program} {F:FuncId->Option Func} {md:Md P} {n:Nat} {ops:Array Oper} {i:Nat} {l:List Nat} {E:T Value} {H:AHeap} {Q:T Value->AHeap->Prop}
 {d:Nat} {ty:TypeId} {pos:String} {af:Array Edge} {g:Option (Nat × Bool)}
end
section
variable {P:Program} {F:FuncId->Option Func} {md:Md P} {n:Nat} {ops:Array Oper} {i:Nat} {l:List Nat} {E:T Value} {H:AHeap} {Q:T Value->AHeap->Prop}
 {d:Nat} {ty:TypeId} {pos:String} {af:Array Edge} {g:Option (Nat × Bool)}
theorem qzh {t:TypeId} {xo yo:Operand} {a b:List UInt8} (hl:a.length+b.length<2 ^ 62):aBin P .add t xo yo (bstr a) (bstr b)=some (bstr (a++b)):=by
 have:(⟨a.toArray⟩:ByteArray)++(⟨b.toArray⟩:ByteArray)=⟨(a++b).toArray⟩:=by
  apply ByteArray.ext;simp
 have h2:¬ ((9223372036854775807:Int)<((⟨a.toArray⟩:ByteArray).size:Int)+((⟨b.toArray⟩:ByteArray).size:Int)):=by rw[qc8,qc8];omega
 simp[aBin,bstr,flat,eqGuard,binOp,Op.stringOp,qac,this,h2]
theorem qzf {t:TypeId} {xo yo:Operand} {a b:List UInt8}:aBin P .eql t xo yo (bstr a) (bstr b)=some (.bool (decide (a=b))):=by
 simp[aBin,bstr,flat,eqGuard,binOp,Op.stringOp,qac,Go.ByteArray.toList_eq];exact Bool.beq_eq_decide_eq _ _
end
section
variable {P:Program} {F:FuncId->Option Func} {md:Md P} {n:Nat} {ops:Array Oper} {i:Nat} {l:List Nat} {E:T Value} {H:AHeap} {Q:T Value->AHeap->Prop}
 {d:Nat} {ty:TypeId} {pos:String} {af:Array Edge} {g:Option (Nat × Bool)}
end
section
variable {P:Program} {F:FuncId->Option Func} {md:Md P} {n:Nat} {ops:Array Oper} {i:Nat} {l:List Nat} {E:T Value} {H:AHeap} {Q:T Value->AHeap->Prop}
 {d:Nat} {ty:TypeId} {pos:String} {af:Array Edge} {g:Option (Nat × Bool)}
end
section
variable {P:Program} {F:FuncId->Option Func} {md:Md P} {n:Nat} {ops:Array Oper} {i:Nat} {l:List Nat} {E:T Value} {H:AHeap} {Q:T Value->AHeap->Prop}
 {d:Nat} {ty:TypeId} {pos:String} {af:Array Edge} {g:Option (Nat × Bool)}
end
def M0:Map:=(List.range qla).map λ g=>{ real:=g }
theorem qo8 {g:Nat} (h:g<qla):M0[g]?=some { real:=g }:=by simp[M0,h]
theorem q5s:M0.length=qla:=by simp[M0]
def qmm:ABlk->Bool
 | .cells vs _ k=>k == 2&&qbd vs
 | _=>false
structure Glob (G:T ABlk):Prop where
 lt:∀ g x,G.get g=some x->g<qla
 ro:∀ g x,G.get g=some x->qmm x=true
theorem qhc {x:ABlk} (h:qmm x=true):∃ vs e,x=.cells vs e 2/\qbd vs=true:=by
 cases x with
 | cells vs e k=>simp only[qmm,Bool.and_eq_true,beq_iff_eq] at h;obtain ⟨rfl,h⟩:=h;exact ⟨vs,e,rfl,h⟩
 | _=>simp[qmm] at h
theorem Glob.start {G:T ABlk} (hG:Glob G) {w:World} (hw:∀ g vs e,G.get g=some (.cells vs e 2)->∃ c e2 f,w.heap[g]?=some (.cells c e2 f)/\c.toList.take vs.length=vs):Rel (λ k=>k<w.heap.size) M0 ⟨qla,G⟩ w:=by
 refine ⟨q5s,λ _ h=>h,λ i x h=>hG.lt i x h,λ i b x hb hx=>?_,λ i b x hb hx=>?_,λ i j bi bj xi xj hi hj hxi hxj li lj lr er=>?_,λ g h=>qo8 h⟩
 ·obtain ⟨vs,e,rfl,hf⟩:=qhc (hG.ro i x hx);obtain ⟨c,e2,f,hc,_⟩:=hw i vs e hx;rw[qo8 (hG.lt i _ hx)] at hb;cases hb;exact (Array.getElem?_eq_some_iff.1 hc).1
 ·obtain ⟨vs,e,rfl,hf⟩:=qhc (hG.ro i x hx);obtain ⟨c,e2,⟨lo,hi⟩,hc,ht⟩:=hw i vs e hx;rw[qo8 (hG.lt i _ hx)] at hb;cases hb;exact ⟨c,lo,hi,_,hc,by rw[List.drop_zero,ht];exact VRL.self hf,λ h=>(by cases h),λ h=>by omega,λ h=>absurd rfl h⟩
 ·rw[qo8 (hG.lt i _ hxi)] at hi;cases hi;rw[qo8 (hG.lt j _ hxj)] at hj;cases hj;exact er
section
variable {P:Program} {F:FuncId->Option Func} {md:Md P} {n:Nat} {ops:Array Oper} {i:Nat} {l:List Nat} {E:T Value} {H:AHeap} {Q:T Value->AHeap->Prop}
 {d:Nat} {ty:TypeId} {pos:String} {af:Array Edge} {g:Option (Nat × Bool)}
theorem qy8 {t:TypeId} {xo yo:Operand} {a b:List UInt8}:aBin P .neq t xo yo (bstr a) (bstr b)=some (.bool (decide (a≠b))):=by
 simp[aBin,bstr,flat,eqGuard,binOp,Op.stringOp,qac,Go.ByteArray.toList_eq];rw[Bool.beq_eq_decide_eq]
end
theorem Rel.read {w:World} {M:Map} {H:AHeap} (h:Rel (λ k=>k<w.heap.size) M H w) (hr:∀ i x,H.t.get i=some x->x.ro=true) (hid:idOK H.next) {b off:Nat} {c:Array Value} {e:TypeId} {f:Nat × Nat} {vs:List Value} (hb:w.heap[b]?=some (.cells c e f)) (hv:VRL (M++[{ real:=b,sh:=off }]) vs ((c.toList.drop off).take vs.length)) :
  Rel (λ k=>k<w.heap.size) (M++[{ real:=b,sh:=off }]) (H.add (.cells vs e 2)) w where
 len:=by simp[h.len,AHeap.add]
 base_le:=h.base_le
 dom:=λ i y hy=>by
  by_cases e:i=H.next
  ·subst e;simp[AHeap.add]
  ·rw[AHeap.get_add_other e] at hy;have:=h.dom i y hy;simp[AHeap.add];omega
 lt:=λ i c x hc hx=>by
  rcases qas hc with ⟨hl,hc⟩ | ⟨_,rfl⟩
  ·rw[AHeap.get_add_other (by rw[<- h.len];omega)] at hx;exact h.lt i c x hc hx
  ·exact (Array.getElem?_eq_some_iff.1 hb).1
 blk:=λ i c y hc hy=>by
  rcases qas hc with ⟨hl,hc⟩ | ⟨rfl,rfl⟩
  ·rw[AHeap.get_add_other (by rw[<- h.len];omega)] at hy;exact (h.blk i c y hc hy).keep (Ext.snoc M _) rfl
  ·rw[h.len,AHeap.get_add hid] at hy;cases hy;obtain ⟨lo,hi⟩:=f;exact ⟨_,lo,hi,_,hb,hv,λ h=>(by cases h),λ h=>by omega,λ h=>absurd rfl h⟩
 inj:=λ i j bi bj xi xj hi hj hxi hxj li lj lr er=>by
  have ro:∀ i x,(H.add (.cells vs e 2)).t.get i=some x->x.ro=true:=λ i x hx=>by
   by_cases e:i=H.next
   ·subst e;rw[AHeap.get_add hid] at hx;cases hx;rfl
   ·rw[AHeap.get_add_other e] at hx;exact hr i x hx
  rw[ro i xi hxi,ro j xj hxj] at lr;cases lr
 glob:=λ g hg=>Ext.snoc M _ _ _ (h.glob g hg)
end Go.Ax
