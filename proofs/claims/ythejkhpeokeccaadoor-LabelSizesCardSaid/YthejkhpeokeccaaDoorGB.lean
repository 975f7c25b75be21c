/-
  A part of the proof: a run over an abstract memory, its soundness and its rules; each theorem says its conditions.
-/
import Derived.Test.YthejkhpeokeccaaDoorGA
import Derived.Orders
set_option linter.unusedVariables false
set_option linter.unusedSimpArgs false
namespace Go.Ax
def qf9 (P:Program) (s:TypeId):Bool:=match qaa P (underlying s) with
 | some (.int _)=>true
 | _=>false
def qze (P:Program) (s d:TypeId) (a:Value):Option Value:=match qaa P (convert s d a) with
 | some v=>if flat a/\flat v then some v else none
 | none=>none
def qde (P:Program) (H:AHeap) (b:Builtin) (ts:Array TypeId) (type:TypeId) (args:List Value):Option (ANext × AHeap):=
 match b,args with
 | .append,[s,x]=>(qbb P H ts s x).map fun r=>(.val r.1,r.2)
 | .copy,[s,x]=>(qqo P H ts s x).map fun r=>(.val r.1,r.2)
 | .clear,[s]=>(qkg P H ts s).map fun r=>(.val r.1,r.2)
 | .len,args=>(aLen P ts type args.toArray).map fun v=>(.val v,H)
 | .min,args=>if qbm args then match qaa P (Builtin.min_ ts type args.toArray) with
  | some v=>if flat v then some (.val v,H) else none
  | none=>none else none
 | .max,args=>if qbm args then match qaa P (Builtin.max_ ts type args.toArray) with
  | some v=>if flat v then some (.val v,H) else none
  | none=>none else none
 | _,_=>none
def qkf (F:FuncId->Bool) (H:AHeap) (f:Option Value) (args:List Value):Option (ANext × AHeap):=
 match f with
 | some (.func (.func g) first captured)=>if F g then some (.enter g (first++args.toArray++captured),H) else none
 | some (.func (.yield l) first _)=>some (.yld l (first++args.toArray),H)
 | _=>none
def qts:TypeDesc->Bool
 | .pointer _=>true
 | _=>false
def qxu (P:Program) (t:TypeId) (name:String):Option FuncId:=
 match qaa P (typeInfo t),qaa P (underlying t) with
 | some i,some d=>match i.methods.find? (·.name == name) with
  | some m=>match m.path.toList,m.func with
   | [],some (f,pr)=>if pr=qts d then some f else none
   | _,_=>none
  | none=>none
 | _,_=>none
def qgg (P:Program) (F:FuncId->Bool) (ρ:Operand->Option Value) (H:AHeap) (c:Call) (type:TypeId):Option (ANext × AHeap):=
 match c.callee with
 | .builtin b=>(qkm ρ c.args).bind fun args=>qde P H b c.argTypes type args
 | .value f=>(qkm ρ c.args).bind fun args=>qkf F H (ρ f) args
 | .invoke x name=>match ρ x with
  | some (.iface t v)=>match qxu P t name with
   | some f=>(qkm ρ c.args).bind fun args=>qkf F H (some (.func (.func f) #[v] #[])) args
   | none=>none
  | _=>none
def aOpt (ρ:Operand->Option Value):Option Operand->Option (Option Value)
 | none=>some none
 | some x=>match ρ x with
  | some v=>if flat v then some (some v) else none
  | none=>none
def aOp (P:Program) (F:FuncId->Bool) (ρ:Operand->Option Value) (H:AHeap) (o:Oper):Option (ANext × AHeap):=
 let v (r:Option Value):Option (ANext × AHeap):=r.map fun v=>(.val v,H)
 let vh (r:Option (Value × AHeap)):Option (ANext × AHeap):=r.map fun r=>(.val r.1,r.2)
 match o.op with
 | .move x | .assign x=>v (ρ x)
 | .pick c a b=>match ρ c with
  | some (.bool true)=>v (ρ a)
  | some (.bool false)=>v (ρ b)
  | _=>none
 | .alloc e=>vh (qqs P H e)
 | .box e x=>(ρ x).bind fun x=>vh (aNew H e x.cells.toList)
 | .build t parts=>(qi8 ρ parts).bind fun l=>v (qmg P t l.toArray)
 | .buildSlice t n parts=>(qi8 ρ parts).bind fun l=>vh (qfc P H t n l.toArray)
 | .load t a=>(ρ a).bind fun a=>v (qgf P H t a)
 | .store t a x=>(ρ a).bind fun a=>(ρ x).bind fun x=>(qcs P H t a x).map fun H=>(.skip,H)
 | .nilCheck x=>match ρ x with
  | some (.pointer (some a))=>some (.val (.pointer (some a)),H)
  | some (.func (.func f) x y)=>some (.val (.func (.func f) x y),H)
  | _=>none
 | .binOp op t x y _=>(ρ x).bind fun a=>(ρ y).bind fun b=>v (aBin P op t x y a b)
 | .unOp op _ x=>(ρ x).bind fun a=>if flat a then match qaa P (Op.unary op a) with
  | some r=>if flat r then some (.val r,H) else none
  | none=>none else none
 | .convert s d x=>(ρ x).bind fun a=>if qf9 P s then v (qze P s d a) else vh (qcc P H s d a)
 | .makeInterface t x=>(ρ x).bind fun a=>match qaa P (underlying t) with
  | some (.interface _)=>none
  | some _=>some (.val (.iface t a),H)
  | none=>none
 | .makeFunc fn first captured=>match fn with
  | .func f=>(qkm ρ first).bind fun x=>(qkm ρ captured).bind fun y=>some (.val (.func (.func f) x.toArray y.toArray),H)
  | _=>none
 | .makeSlice t l c=>(ρ l).bind fun l=>(ρ c).bind fun c=>vh (qg1 P H t l c)
 | .slice t x lo hi mx=>(ρ x).bind fun x=>(aOpt ρ lo).bind fun lo=>(aOpt ρ hi).bind fun hi=>(aOpt ρ mx).bind fun mx=>v (qbv P H t x lo hi mx)
 | .fieldAddr s x f=>(ρ x).bind fun x=>v (qer P s f x)
 | .field t x f=>(ρ x).bind fun x=>v (qqn P t f x)
 | .indexAddr t x i=>(ρ x).bind fun x=>(ρ i).bind fun i=>v (qby P t x i)
 | .index t x i=>(ρ x).bind fun x=>(ρ i).bind fun i=>v (qnn P t x i)
 | .range t x=>(ρ x).bind fun x=>vh (qud P H t x)
 | .next it s=>(ρ it).bind fun x=>vh (qzd H s x)
 | .extract t i=>match ρ t with
  | some (.tuple vs)=>v vs[i]?
  | _=>none
 | .call c=>qgg P F ρ H c o.type
 | .makeMap t r=>(aOpt ρ r).bind fun r=>vh (qkw P H t r)
 | .lookup t x k ok=>(ρ x).bind fun x=>(ρ k).bind fun k=>v (qge P H t x k ok)
 | .mapUpdate t m k x | .insert t m k x=>(ρ m).bind fun m=>(ρ k).bind fun k=>(ρ x).bind fun x=>(qc0 P H t m k x).map fun H=>(.skip,H)
 | _=>none
def OpSnd (P:Program) (base:Prot) (M:Map) (w:World) (s:Sem Next):ANext->AHeap->Prop
 | .val v,H'=>∃ M' w' r,s.run P w=.ok (.value r) w'/\Ext M M'/\VR M' v r/\Rel base M' H' w'/\Below base w w'
 | .skip,H'=>∃ w',s.run P w=.ok .skip w'/\Rel base M H' w'/\Below base w w'
 | .enter f args,H'=>∃ args',s.run P w=.ok (.enter f args') w/\VRA M args args'/\Rel base M H' w
 | .yld l args,H'=>∃ b args',M[l]?=some b/\VRA M args args'/\Rel base M H' w/\s.run P w=(Instr.yield b.real args').run P w
section
variable {P:Program} {base:Prot} {M:Map} {H H':AHeap} {w:World}
theorem OpSnd.of_snd {s:Sem Value} {v:Value} (h:Snd P base M w s v H') {t:Sem Next} (ht:t=(do pure (.value (<- s)))):OpSnd P base M w t (.val v) H':=by
 obtain ⟨M',w',r,hr,rest⟩:=h;exact ⟨M',w',r,by rw[ht];simp[hr],rest⟩
theorem VRL.toArray {l r:List Value} (h:VRL M l r):VRA M l.toArray r.toArray:=VRA.iff.2 (by simpa using h)
theorem qgz {ρ:Operand->Option Value} {ρ':Operand->Value} (hρ:∀ x v,ρ x=some v->VR M v (ρ' x)) {x:Option Operand} {v:Option Value} (h:aOpt ρ x=some v):x.map ρ'=v:=by
 cases x with
 | none=>simp only[aOpt,Option.some.injEq] at h;subst h;rfl
 | some x=>
  simp only[aOpt] at h;split at h
  ·rename_i v0 hv;split at h
   ·rename_i hf;cases h;rw[Option.map_some,(VR.flat_iff _ hf _).1 (hρ x v0 hv)]
   ·cases h
  ·cases h
theorem q6h {t:TypeId} {name:String} {f:FuncId} (h:qxu P t name=some f) (k:Nat) (v:Value) (w:World):(method (k+1) t v name).run P w=.ok (f,v) w:=by
 unfold qxu at h;split at h
 ·rename_i i d hi hd;split at h
  ·rename_i m hm;split at h
   ·rename_i f' pr hp hf;split at h
    ·rename_i hpr;cases h;unfold method;simp only[Sem.run_bind,qab hi,Result.andThen_ok,hm,hp,follow,Sem.run_pure,hf];unfold receiverAt;simp only[Sem.run_bind,qab hd,Result.andThen_ok]
     cases hpr':qts d with
     | true=>
      rw[hpr'] at hpr;subst hpr
      cases d <;> simp[qts] at hpr' <;> simp[Place.get]
     | false=>
      rw[hpr'] at hpr;subst hpr
      cases d <;> simp[qts] at hpr' <;> simp[Place.get]
    ·cases h
   ·cases h
  ·cases h
 ·cases h
theorem qsc (h:Rel base M H w) {F:FuncId->Bool} (hF:∀ f,F f=true->∀ args w,(callFunc f args).run P w=.ok (.enter f args) w) {ρ:Operand->Option Value} {ρ':Operand->Value} (hρ:∀ x v,ρ x=some v->VR M v (ρ' x))
  {c:Call} {type:TypeId} {n:ANext} (ha:qgg P F ρ H c type=some (n,H')):OpSnd P base M w (do let d <- resolve ρ' c type;invoke d.target d.args) n H':=by
 unfold qgg at ha;split at ha
 ·rename_i b hc;rw[Option.bind_eq_some_iff] at ha;obtain ⟨args,hargs,ha⟩:=ha;have hal:=qdx hρ hargs;unfold qde at ha;split at ha
  ·rename_i s x;rw[Option.map_eq_some_iff] at ha;obtain ⟨⟨v,H2⟩,hr,he⟩:=ha;cases he;refine OpSnd.of_snd (qd8 (P:=P) (t:=type) h hr hal) ?_;simp[resolve,hc,invoke,builtin]
  ·rename_i s x;rw[Option.map_eq_some_iff] at ha;obtain ⟨⟨v,H2⟩,hr,he⟩:=ha;cases he;refine OpSnd.of_snd (qeo (P:=P) (t:=type) h hr hal) ?_;simp[resolve,hc,invoke,builtin]
  ·rename_i s;rw[Option.map_eq_some_iff] at ha;obtain ⟨⟨v,H2⟩,hr,he⟩:=ha;cases he;refine OpSnd.of_snd (qdv (P:=P) (t:=type) h hr hal) ?_;simp[resolve,hc,invoke,builtin]
  ·rw[Option.map_eq_some_iff] at ha;obtain ⟨v,hr,he⟩:=ha;cases he;refine OpSnd.of_snd (qyf (P:=P) (t:=type) (args':=c.args.map ρ') h hr (by simpa using hal)) ?_;simp[resolve,hc,invoke,builtin]
  ·split at ha
   ·rename_i hf;split at ha
    ·rename_i v0 hv0;split at ha
     ·rename_i hfv;cases ha;have he:=(VRL.flat_iff _ hf _).1 hal;have he:c.args.map ρ'=args.toArray:=by rw[<- he,Array.toArray_toList]
      refine OpSnd.of_snd (s:=Builtin.min_ c.argTypes type args.toArray) (Snd.still h (qab hv0 w) (VR.self hfv)) ?_;simp[resolve,hc,invoke,builtin,he]
     ·cases ha
    ·cases ha
   ·cases ha
  ·split at ha
   ·rename_i hf;split at ha
    ·rename_i v0 hv0;split at ha
     ·rename_i hfv;cases ha;have he:=(VRL.flat_iff _ hf _).1 hal;have he:c.args.map ρ'=args.toArray:=by rw[<- he,Array.toArray_toList]
      refine OpSnd.of_snd (s:=Builtin.max_ c.argTypes type args.toArray) (Snd.still h (qab hv0 w) (VR.self hfv)) ?_;simp[resolve,hc,invoke,builtin,he]
     ·cases ha
    ·cases ha
   ·cases ha
  ·cases ha
 ·rename_i f hc;rw[Option.bind_eq_some_iff] at ha;obtain ⟨args,hargs,ha⟩:=ha;have hal:=qdx hρ hargs;unfold qkf at ha;split at ha
  ·rename_i g first captured hf;have hv:=hρ _ _ hf;simp only[VR] at hv;obtain ⟨fn',x',y',hfn,hx,hy,hv⟩:=hv;simp only[FnR] at hfn;subst hfn;split at ha
   ·rename_i hg;cases ha;refine ⟨x'++c.args.map ρ'++y',?_,?_,h⟩
    ·simp[resolve,hc,hv,Deferred.ofValue,invoke,hF g hg]
    ·rw[VRA.iff] at hx hy |-;simp only[Array.toList_append];exact (hx.append hal).append hy
   ·cases ha
  ·rename_i l first captured hf;cases ha;have hv:=hρ _ _ hf;simp only[VR] at hv;obtain ⟨fn',x',y',hfn,hx,hy,hv⟩:=hv;simp only[FnR] at hfn;obtain ⟨b,hb,rfl⟩:=hfn;refine ⟨b,x'++c.args.map ρ',hb,?_,h,?_⟩
   ·rw[VRA.iff] at hx |-;simp only[Array.toList_append];exact hx.append hal
   ·simp[resolve,hc,hv,Deferred.ofValue,invoke]
  ·cases ha
 ·rename_i x name hc;split at ha
  ·rename_i t v hx;split at ha
   ·rename_i f hm;rw[Option.bind_eq_some_iff] at ha;obtain ⟨args,hargs,ha⟩:=ha;have hal:=qdx hρ hargs;have hv:=hρ _ _ hx;simp only[VR] at hv;obtain ⟨v',hvr,hv⟩:=hv;simp only[qkf] at ha;split at ha
    ·rename_i hg;cases ha;refine ⟨#[v']++c.args.map ρ',?_,?_,h⟩
     ·have hex:(#[Value.iface t v']++c.args.map ρ').extract 1 (#[Value.iface t v']++c.args.map ρ').size=c.args.map ρ':=by
       apply Array.ext';simp only[Array.toList_extract,Array.toList_append,List.extract_eq_take_drop];simp;exact List.take_of_length_le (by simp)
      obtain ⟨k,hk⟩:∃ k,P.types.size+Made.depth=k+1:=⟨P.types.size+(Made.depth-1),by
       have h9:Made.depth=(Made.depth-1)+1:=by decide
       omega⟩
      simp only[resolve,hc,hv,invoke,Sem.run_bind,Sem.run_pure,Result.andThen_ok];have h0:(#[Value.iface t v']++c.args.map ρ')[0]?=some (.iface t v'):=by
       rw[<- Array.getElem?_toList,Array.toList_append];rfl
      rw[h0];simp only[hex,callMethod,Sem.run_bind];have hpg:(program:Sem Program).run P w=.ok P w:=rfl;simp only[hpg,Result.andThen_ok,hk,q6h hm,hF f hg]
     ·rw[VRA.iff] at *;have:=VRL.cons hvr hal;simpa using this
    ·cases ha
   ·cases ha
  ·cases ha
end
section
variable {P:Program} {base:Prot} {M:Map} {H H':AHeap} {w:World}
set_option maxHeartbeats 4000000 in
theorem qgd (h:Rel base M H w) {F:FuncId->Bool} (hF:∀ f,F f=true->∀ args w,(callFunc f args).run P w=.ok (.enter f args) w) {ρ:Operand->Option Value} {ρ':Operand->Value} (hρ:∀ x v,ρ x=some v->VR M v (ρ' x))
  {o:Oper} {n:ANext} (ha:aOp P F ρ H o=some (n,H')):OpSnd P base M w (execOp ρ' o) n H':=by
 obtain ⟨dst,op,type,pos,after,guard⟩:=o;have mv:∀ {v:Option Value},(v.map fun v=>(ANext.val v,H))=some (n,H')->∃ x,v=some x/\n=.val x/\H'=H:=by
  intro v hv;rw[Option.map_eq_some_iff] at hv;obtain ⟨x,hx,he⟩:=hv
  cases he;exact ⟨x,hx,rfl,rfl⟩
 have mh:∀ {r:Option (Value × AHeap)},(r.map fun r=>(ANext.val r.1,r.2))=some (n,H')->∃ x,r=some (x,H')/\n=.val x:=by
  intro r hr;rw[Option.map_eq_some_iff] at hr;obtain ⟨⟨x,H2⟩,hx,he⟩:=hr
  cases he;exact ⟨x,hx,rfl⟩
 cases op <;> simp only[aOp] at ha
 case move x=>
  obtain ⟨v,hv,rfl,rfl⟩:=mv ha;exact ⟨M,w,_,rfl,Ext.refl M,hρ _ _ hv,h,Below.refl _ _⟩
 case assign x=>
  obtain ⟨v,hv,rfl,rfl⟩:=mv ha;exact ⟨M,w,_,rfl,Ext.refl M,hρ _ _ hv,h,Below.refl _ _⟩
 case pick c a b=>
  split at ha
  ·rename_i hc;obtain ⟨v,hv,rfl,rfl⟩:=mv ha;have hc':=hρ _ _ hc;simp only[VR] at hc';exact ⟨M,w,_,by simp[execOp,hc',asBool],Ext.refl M,hρ _ _ hv,h,Below.refl _ _⟩
  ·rename_i hc;obtain ⟨v,hv,rfl,rfl⟩:=mv ha;have hc':=hρ _ _ hc;simp only[VR] at hc';exact ⟨M,w,_,by simp[execOp,hc',asBool],Ext.refl M,hρ _ _ hv,h,Below.refl _ _⟩
  ·cases ha
 case alloc e=>
  obtain ⟨v,hv,rfl⟩:=mh ha;exact OpSnd.of_snd (qsa h hv) rfl
 case box e x=>
  rw[Option.bind_eq_some_iff] at ha;obtain ⟨vx,hx,ha⟩:=ha;obtain ⟨v,hv,rfl⟩:=mh ha;exact OpSnd.of_snd (qy9 h hv (hρ _ _ hx)) rfl
 case build t parts=>
  rw[Option.bind_eq_some_iff] at ha;obtain ⟨l,hl,ha⟩:=ha;obtain ⟨v,hv,rfl,rfl⟩:=mv ha;exact OpSnd.of_snd (qr8 (parts':=parts.map fun (i,x)=>(i,ρ' x)) h hv (by simpa using qkb hρ hl)) rfl
 case buildSlice t k parts=>
  rw[Option.bind_eq_some_iff] at ha;obtain ⟨l,hl,ha⟩:=ha;obtain ⟨v,hv,rfl⟩:=mh ha;exact OpSnd.of_snd (qkk (parts':=parts.map fun (i,x)=>(i,ρ' x)) h hv (by simpa using qkb hρ hl)) rfl
 case load t a=>
  rw[Option.bind_eq_some_iff] at ha;obtain ⟨va,hva,ha⟩:=ha;obtain ⟨v,hv,rfl,rfl⟩:=mv ha;exact OpSnd.of_snd (qgv h hv (hρ _ _ hva)) rfl
 case store t a x=>
  rw[Option.bind_eq_some_iff] at ha;obtain ⟨va,hva,ha⟩:=ha;rw[Option.bind_eq_some_iff] at ha;obtain ⟨vx,hvx,ha⟩:=ha;rw[Option.map_eq_some_iff] at ha;obtain ⟨H2,hs,he⟩:=ha;cases he;obtain ⟨w',hr,hrel,hb⟩:=qdi h hs (hρ _ _ hva) (hρ _ _ hvx);exact ⟨w',by simp[execOp,hr],hrel,hb⟩
 case nilCheck x=>
  split at ha
  ·rename_i a hx;cases ha;have hv:=hρ _ _ hx;have hv':=hv;simp only[VR] at hv';obtain ⟨b,hb,e⟩:=hv';exact ⟨M,w,_,by simp only[execOp,e];rfl,Ext.refl M,by rw[<- e];exact hv,h,Below.refl _ _⟩
  ·rename_i f a b hx;cases ha;have hv:=hρ _ _ hx;have hv':=hv;simp only[VR] at hv';obtain ⟨fn',x',y',hfn,_,_,e⟩:=hv';simp only[FnR] at hfn;subst hfn;exact ⟨M,w,_,by simp only[execOp,e];rfl,Ext.refl M,by rw[<- e];exact hv,h,Below.refl _ _⟩
  ·cases ha
 case binOp op t x y yt=>
  rw[Option.bind_eq_some_iff] at ha;obtain ⟨vx,hx,ha⟩:=ha;rw[Option.bind_eq_some_iff] at ha;obtain ⟨vy,hy,ha⟩:=ha;obtain ⟨v,hv,rfl,rfl⟩:=mv ha;exact OpSnd.of_snd (qza h hv (hρ _ _ hx) (hρ _ _ hy)) rfl
 case unOp op t x=>
  rw[Option.bind_eq_some_iff] at ha;obtain ⟨vx,hx,ha⟩:=ha;split at ha
  ·rename_i hf;split at ha
   ·rename_i r hr;split at ha
    ·rename_i hfr;cases ha;have e:=(VR.flat_iff _ hf _).1 (hρ _ _ hx);refine OpSnd.of_snd (s:=Op.unary op (ρ' x)) ?_ rfl;rw[e];exact Snd.still h (qab hr w) (VR.self hfr)
    ·cases ha
   ·cases ha
  ·cases ha
 case convert s d x=>
  rw[Option.bind_eq_some_iff] at ha;obtain ⟨vx,hx,ha⟩:=ha;by_cases hi:qf9 P s=true
  ·simp only[hi,if_true,Option.map_eq_some_iff] at ha;obtain ⟨v,hv,ha⟩:=ha;cases ha;unfold qze at hv;split at hv
   ·rename_i r hr;split at hv
    ·rename_i hf;cases hv;refine OpSnd.of_snd (s:=convert s d (ρ' x)) ?_ rfl;rw[(VR.flat_iff _ hf.1 _).1 (hρ _ _ hx)];exact Snd.still h (qab hr w) (VR.self hf.2)
    ·cases hv
   ·cases hv
  ·simp only[hi,Bool.false_eq_true,if_false] at ha;obtain ⟨v,hv,rfl⟩:=mh ha;exact OpSnd.of_snd (qom h hv (hρ _ _ hx)) rfl
 case makeInterface t x=>
  rw[Option.bind_eq_some_iff] at ha;obtain ⟨vx,hx,ha⟩:=ha;split at ha
  ·cases ha
  ·rename_i d hni hd;cases ha;refine OpSnd.of_snd (s:=Instr.makeInterface t (ρ' x)) (Snd.still h (r:=.iface t (ρ' x)) ?_ (by simp only[VR];exact ⟨_,hρ _ _ hx,rfl⟩)) rfl;simp only[Instr.makeInterface,Sem.run_bind,qab hd,Result.andThen_ok];rfl
  ·cases ha
 case makeFunc fn first captured=>
  split at ha
  ·rename_i f;rw[Option.bind_eq_some_iff] at ha;obtain ⟨lx,hx,ha⟩:=ha;rw[Option.bind_eq_some_iff] at ha;obtain ⟨ly,hy,ha⟩:=ha;cases ha;refine OpSnd.of_snd (s:=Instr.makeFunc (.func f) (first.map ρ') (captured.map ρ')) (Snd.still h (r:=.func (.func f) (first.map ρ') (captured.map ρ')) rfl ?_) rfl;simp only[VR];exact ⟨_,_,_,rfl,VRA.iff.2 (by simpa using qdx hρ hx),VRA.iff.2 (by simpa using qdx hρ hy),rfl⟩
  ·cases ha
 case makeSlice t l c=>
  rw[Option.bind_eq_some_iff] at ha;obtain ⟨vx,hx,ha⟩:=ha;rw[Option.bind_eq_some_iff] at ha;obtain ⟨vy,hy,ha⟩:=ha;obtain ⟨v,hv,rfl⟩:=mh ha;exact OpSnd.of_snd (qls h hv (hρ _ _ hx) (hρ _ _ hy)) rfl
 case slice t x lo hi mx=>
  rw[Option.bind_eq_some_iff] at ha;obtain ⟨vx,hx,ha⟩:=ha;rw[Option.bind_eq_some_iff] at ha;obtain ⟨vlo,hlo,ha⟩:=ha;rw[Option.bind_eq_some_iff] at ha;obtain ⟨vhi,hhi,ha⟩:=ha;rw[Option.bind_eq_some_iff] at ha;obtain ⟨vmx,hmx,ha⟩:=ha;obtain ⟨v,hv,rfl,rfl⟩:=mv ha;exact OpSnd.of_snd (qhg h hv (hρ _ _ hx) (qgz hρ hlo) (qgz hρ hhi) (qgz hρ hmx)) rfl
 case fieldAddr s x f=>
  rw[Option.bind_eq_some_iff] at ha;obtain ⟨vx,hx,ha⟩:=ha;obtain ⟨v,hv,rfl,rfl⟩:=mv ha;exact OpSnd.of_snd (ql5 h hv (hρ _ _ hx)) rfl
 case field t x f=>
  rw[Option.bind_eq_some_iff] at ha;obtain ⟨vx,hx,ha⟩:=ha;obtain ⟨v,hv,rfl,rfl⟩:=mv ha;exact OpSnd.of_snd (qrz h hv (hρ _ _ hx)) rfl
 case indexAddr t x i=>
  rw[Option.bind_eq_some_iff] at ha;obtain ⟨vx,hx,ha⟩:=ha;rw[Option.bind_eq_some_iff] at ha;obtain ⟨vy,hy,ha⟩:=ha;obtain ⟨v,hv,rfl,rfl⟩:=mv ha;exact OpSnd.of_snd (qdp h hv (hρ _ _ hx) (hρ _ _ hy)) rfl
 case index t x i=>
  rw[Option.bind_eq_some_iff] at ha;obtain ⟨vx,hx,ha⟩:=ha;rw[Option.bind_eq_some_iff] at ha;obtain ⟨vy,hy,ha⟩:=ha;obtain ⟨v,hv,rfl,rfl⟩:=mv ha;exact OpSnd.of_snd (qhu h hv (hρ _ _ hx) (hρ _ _ hy)) rfl
 case range t x=>
  rw[Option.bind_eq_some_iff] at ha;obtain ⟨vx,hx,ha⟩:=ha;obtain ⟨v,hv,rfl⟩:=mh ha;exact OpSnd.of_snd (qq7 h hv (hρ _ _ hx)) rfl
 case next it s=>
  rw[Option.bind_eq_some_iff] at ha;obtain ⟨vx,hx,ha⟩:=ha;obtain ⟨v,hv,rfl⟩:=mh ha;exact OpSnd.of_snd (qu7 (t:=type) h hv (hρ _ _ hx)) rfl
 case makeMap t r=>
  rw[Option.bind_eq_some_iff] at ha;obtain ⟨vr,hvr,ha⟩:=ha;obtain ⟨v,hv,rfl⟩:=mh ha;refine OpSnd.of_snd (qoa h hv) ?_;rw[<- qgz hρ hvr];rfl
 case lookup t x k ok=>
  rw[Option.bind_eq_some_iff] at ha;obtain ⟨vx,hvx,ha⟩:=ha;rw[Option.bind_eq_some_iff] at ha;obtain ⟨vk,hvk,ha⟩:=ha;obtain ⟨v,hv,rfl,rfl⟩:=mv ha;exact OpSnd.of_snd (qpp h hv (hρ _ _ hvx) (hρ _ _ hvk)) rfl
 case mapUpdate t m k x=>
  rw[Option.bind_eq_some_iff] at ha;obtain ⟨vm,hvm,ha⟩:=ha;rw[Option.bind_eq_some_iff] at ha;obtain ⟨vk,hvk,ha⟩:=ha;rw[Option.bind_eq_some_iff] at ha;obtain ⟨vx,hvx,ha⟩:=ha;rw[Option.map_eq_some_iff] at ha;obtain ⟨H2,hH,he⟩:=ha;cases he;obtain ⟨w',hr,h1,h2⟩:=qf3 (P:=P) h hH (hρ _ _ hvm) (hρ _ _ hvk) (hρ _ _ hvx);exact ⟨w',by simp[execOp,hr],h1,h2⟩
 case insert t m k x=>
  rw[Option.bind_eq_some_iff] at ha;obtain ⟨vm,hvm,ha⟩:=ha;rw[Option.bind_eq_some_iff] at ha;obtain ⟨vk,hvk,ha⟩:=ha;rw[Option.bind_eq_some_iff] at ha;obtain ⟨vx,hvx,ha⟩:=ha;rw[Option.map_eq_some_iff] at ha;obtain ⟨H2,hH,he⟩:=ha;cases he;obtain ⟨w',hr,h1,h2⟩:=qf3 (P:=P) h hH (hρ _ _ hvm) (hρ _ _ hvk) (hρ _ _ hvx);exact ⟨w',by simp[execOp,hr],h1,h2⟩
 case extract t i=>
  split at ha
  ·rename_i vs ht;obtain ⟨v,hv,rfl,rfl⟩:=mv ha;have hv':=hρ _ _ ht;simp only[VR] at hv';obtain ⟨cs,hcs,e⟩:=hv';obtain ⟨r,hr,hvr⟩:=(VRA.iff.1 hcs).get i v (by simpa using hv);have hr:cs[i]?=some r:=by simpa using hr
   refine OpSnd.of_snd (s:=Instr.extract (ρ' t) i) (Snd.still h ?_ hvr) rfl;simp[Instr.extract,e,hr]
  ·cases ha
 case call c=>exact qsc h hF hρ ha
 all_goals cases ha
end
def Fr (b:Frame) (a:Act) (todo:List Item):Frame:={ fn:=b.fn,tmps:=a.tmps,todo,defers:=a.defers,mode:=.run,kind:=b.kind,roundOf:=b.roundOf }
theorem Fr.eval (b:Frame) (a:Act) (todo:List Item) (x:Operand):(Fr b a todo).eval x=a.eval x:=by cases x <;> rfl
theorem Fr.eval' (b:Frame) (a:Act) (todo:List Item):(Fr b a todo).eval=a.eval:=funext (Fr.eval b a todo)
section
variable {P:Program} {b:Frame} {a:Act} {k:List Item} {cs:List Frame} {w:World}
theorem qwh:step P (lone (Fr b a (.code .skip::k)) cs w)=.next (lone (Fr b a k) cs w):=step_lone_go (by simp[stepG,stepG.exec,Fr])
theorem qsv {l:Nat}:step P (lone (Fr b a (.code (.label l)::k)) cs w)=.next (lone (Fr b a k) cs w):=step_lone_go (by simp[stepG,stepG.exec,Fr])
theorem qmx {id:Nat}:step P (lone (Fr b a (.inBlock id::k)) cs w)=.next (lone (Fr b a k) cs w):=step_lone_go (by simp[stepG,stepG.exec,Fr])
theorem qmw {c:Code}:step P (lone (Fr b a (.inScope c::k)) cs w)=.next (lone (Fr b a k) cs w):=step_lone_go (by simp[stepG,stepG.exec,Fr])
theorem qss {x y:Code}:step P (lone (Fr b a (.code (.seq x y)::k)) cs w)=.next (lone (Fr b a (.code x::.code y::k)) cs w):=step_lone_go (by simp[stepG,stepG.exec,Fr])
theorem qwk {c:Operand} {x y:Code} {t:Bool} (h:a.eval c=.bool t):step P (lone (Fr b a (.code (.cond c x y)::k)) cs w)=.next (lone (Fr b a (.code (if t then x else y)::k)) cs w):=
 step_lone_go (by
  have:=Fr.eval b a (.code (.cond c x y)::k) c;simp only[Fr] at this
  simp[stepG,stepG.exec,Fr,this,h])
theorem qkn {id:Nat} {c:Code}:step P (lone (Fr b a (.code (.block id c)::k)) cs w)=.next (lone (Fr b a (.code c::.inBlock id::k)) cs w):=step_lone_go (by simp[stepG,stepG.exec,Fr])
theorem qst {c:Code}:step P (lone (Fr b a (.code (.scope c)::k)) cs w)=.next (lone (Fr b a (.code c::.inScope c::k)) cs w):=step_lone_go (by simp[stepG,stepG.exec,Fr])
theorem qnu {c:Code}:step P (lone (Fr b a (.code (.loop c)::k)) cs w)=.next (lone (Fr b a (.code c::.inLoop c::k)) cs w):=step_lone_go (by simp[stepG,stepG.exec,Fr])
theorem qfk {c:Code}:step P (lone (Fr b a (.inLoop c::k)) cs w)=.next (lone (Fr b a (.code c::.inLoop c::k)) cs w):=step_lone_go (by simp[stepG,stepG.exec,Fr])
theorem qwj {id:Nat} {k':List Item} (h:exitTo id k=some k'):step P (lone (Fr b a (.code (.exit id)::k)) cs w)=.next (lone (Fr b a k') cs w):=step_lone_go (by simp[stepG,stepG.exec,Fr,h])
theorem qwi {l:Nat} {k':List Item} (h:gotoIn l k=some k'):step P (lone (Fr b a (.code (.goto l)::k)) cs w)=.next (lone (Fr b a k') cs w):=step_lone_go (by simp[stepG,stepG.exec,Fr,h])
theorem qk6 {id:Nat} {ops:Array Oper}:step P (lone (Fr b a (.code (.region id ops false)::k)) cs w)=.next (lone (Fr b a (.inRegion ops (List.range ops.size)::k)) cs w):=step_lone_go (by simp[stepG,stepG.exec,Fr])
theorem qea {id:Nat} {ops:Array Oper}:step P (lone (Fr b a (.code (.region id ops true)::k)) cs w) =
  .next (lone (Fr b a (.inRegion ops (Region.schedule (P.follows .mixedOrders) ops (w.tape w.drawn (.order b.fn id)))::k)) cs { w with drawn:=w.drawn+1 }):=
 step_lone_go (by simp[stepG,stepG.exec,Fr,choose,Sem.run,Question.forced,Question.cut])
theorem qdb {ops:Array Oper}:step P (lone (Fr b a (.inRegion ops []::k)) cs w)=.next (lone (Fr b a k) cs w):=step_lone_go (by simp[stepG,stepG.exec,Fr])
theorem Fr.finish {ops:Array Oper} {i:Nat} {rest:List Nat} (v:Value):(Fr b a (.inRegion ops (i::rest)::k)).finish v=Fr b (a.put ((ops[i]?).bind (·.dst)) v) (.inRegion ops rest::k):=by
 cases h:(ops[i]?).bind (·.dst) <;> simp[Frame.finish,Fr,Act.put,h]
theorem qut {ops:Array Oper} {i:Nat} {rest:List Nat} (h:((ops[i]?).map (Region.wanted · (yielded ops a.tmps))).getD false=false) :
  step P (lone (Fr b a (.inRegion ops (i::rest)::k)) cs w)=.next (lone (Fr b (a.put ((ops[i]?).bind (·.dst)) undef) (.inRegion ops rest::k)) cs w):=by
 rw[<- Fr.finish]
 exact step_lone_go (by
  have h':=h;simp only[Fr] at *
  simp[stepG,stepG.exec,h'])
theorem qh5 {ops:Array Oper} {i:Nat} {rest:List Nat} {o:Oper} (ho:ops[i]?=some o) (hw:Region.wanted o (yielded ops a.tmps)=true) (hd:∀ c,o.op≠.defer c) :
  stepG P true { frame:=Fr b a (.inRegion ops (i::rest)::k),callers:=cs,status:=.running,dying:=none } w =
   stepG.apply P true (Fr b a (.inRegion ops (i::rest)::k)) cs none (execOp a.eval o) w:=by
 have he:=Fr.eval' b a (.inRegion ops (i::rest)::k);simp only[Fr] at he;simp only[stepG,stepG.exec,Fr,ho,Option.map_some,Option.getD_some,hw,if_true,stepG.oper,Frame.oper?,he];split
 ·rename_i c _ hc;exact absurd hc (hd _)
 ·rfl
theorem st_op {ops:Array Oper} {i:Nat} {rest:List Nat} {o:Oper} {v:Value} {w':World} (ho:ops[i]?=some o) (hw:Region.wanted o (yielded ops a.tmps)=true) (hd:∀ c,o.op≠.defer c)
  (hr:(execOp a.eval o).run P w=.ok (.value v) w'):step P (lone (Fr b a (.inRegion ops (i::rest)::k)) cs w)=.next (lone (Fr b (a.put o.dst v) (.inRegion ops rest::k)) cs w'):=by
 have hf:(Fr b a (.inRegion ops (i::rest)::k)).finish v=Fr b (a.put o.dst v) (.inRegion ops rest::k):=by rw[Fr.finish,ho];rfl
 rw[<- hf];exact step_lone_go (by rw[qh5 ho hw hd];simp[stepG.apply,hr])
theorem qus {ops:Array Oper} {i:Nat} {rest:List Nat} {o:Oper} {w':World} (ho:ops[i]?=some o) (hw:Region.wanted o (yielded ops a.tmps)=true) (hd:∀ c,o.op≠.defer c)
  (hr:(execOp a.eval o).run P w=.ok .skip w'):step P (lone (Fr b a (.inRegion ops (i::rest)::k)) cs w)=.next (lone (Fr b (a.put o.dst undef) (.inRegion ops rest::k)) cs w'):=by
 have hf:(Fr b a (.inRegion ops (i::rest)::k)).finish undef=Fr b (a.put o.dst undef) (.inRegion ops rest::k):=by rw[Fr.finish,ho];rfl
 rw[<- hf];exact step_lone_go (by rw[qh5 ho hw hd];simp[stepG.apply,hr])
theorem qeu {ops:Array Oper} {i:Nat} {rest:List Nat} {o:Oper} {f:FuncId} {args:Array Value} {w':World} (ho:ops[i]?=some o) (hw:Region.wanted o (yielded ops a.tmps)=true) (hd:∀ c,o.op≠.defer c)
  (hr:(execOp a.eval o).run P w=.ok (.enter f args) w'):step P (lone (Fr b a (.inRegion ops (i::rest)::k)) cs w)=.next (lone (Frame.enter P f args .normal) (Fr b a (.inRegion ops (i::rest)::k)::cs) w'):=
 step_lone_go (by rw[qh5 ho hw hd];simp[stepG.apply,hr,Fr])
theorem qk7 {ops:Array Oper} {i:Nat} {rest:List Nat} {o:Oper} {l f:Nat} {tmps:Array Value} {assign body:Code} {w':World} (ho:ops[i]?=some o) (hw:Region.wanted o (yielded ops a.tmps)=true) (hd:∀ c,o.op≠.defer c)
  (hr:(execOp a.eval o).run P w=.ok (.round l f tmps assign body) w'):step P (lone (Fr b a (.inRegion ops (i::rest)::k)) cs w)=.next (lone (Frame.round l f tmps assign body .normal) (Fr b a (.inRegion ops (i::rest)::k)::cs) w'):=
 step_lone_go (by rw[qh5 ho hw hd];simp[stepG.apply,hr,Fr])
theorem qsw (hb:b.roundOf=none):step P (lone (Fr b a []) cs w)=.next (lone { Fr b a [] with mode:=.returning } cs w):=step_lone_go (by simp[stepG,stepG.exec,Fr,hb])
theorem qsu (hb:b.roundOf=none):step P (lone (Fr b a (.code .ret::k)) cs w)=.next (lone { Fr b a (.code .ret::k) with mode:=.returning } cs w):=step_lone_go (by simp[stepG,stepG.exec,Fr,hb])
theorem qo2 {r:Nat} {ds:List Deferred} {w':World} (hr:(Instr.takeDeferred r).run P w=.ok [] w') :
  step P (lone { Fr b { a with defers:={ target:=.collected r,args:=#[] }::ds } k with mode:=.returning } cs w)=.next (lone { Fr b { a with defers:=ds } k with mode:=.returning } cs w'):=
 step_lone_go (by simp[stepG,Fr,unwind,Sem.runT_eq,hr])
theorem qjx {l:Nat} {c:Frame} {v:Value} {w':World} (hb:b.roundOf=some l) (hk:b.kind=.normal) (hr:(Instr.endRound l none).run P w=.ok v w') :
  step P (lone (Fr b a []) (c::cs) w)=.next (lone (c.finish v) cs w'):=step_lone_go (by simp[stepG,stepG.exec,Fr,hb,hk,Sem.runT_eq,hr,doReturn])
theorem qjw {l:Nat} {c:Frame} {v:Value} {w':World} (hb:b.roundOf=some l) (hk:b.kind=.normal) (hr:(Instr.endRound l (some .ret)).run P w=.ok v w') :
  step P (lone (Fr b a (.code .ret::k)) (c::cs) w)=.next (lone (c.finish v) cs w'):=step_lone_go (by simp[stepG,stepG.exec,Fr,hb,hk,Sem.runT_eq,hr,doReturn])
theorem qh7 {l id:Nat} {c:Frame} {v:Value} {w':World} (hb:b.roundOf=some l) (hk:b.kind=.normal) (he:exitTo id k=none) (hr:(Instr.endRound l (some (.exit id))).run P w=.ok v w') :
  step P (lone (Fr b a (.code (.exit id)::k)) (c::cs) w)=.next (lone (c.finish v) cs w'):=step_lone_go (by simp[stepG,stepG.exec,Fr,hb,hk,he,Sem.runT_eq,hr,doReturn])
theorem qh6 {l id:Nat} {c:Frame} {v:Value} {w':World} (hb:b.roundOf=some l) (hk:b.kind=.normal) (he:gotoIn id k=none) (hr:(Instr.endRound l (some (.goto id))).run P w=.ok v w') :
  step P (lone (Fr b a (.code (.goto id)::k)) (c::cs) w)=.next (lone (c.finish v) cs w'):=step_lone_go (by simp[stepG,stepG.exec,Fr,hb,hk,he,Sem.runT_eq,hr,doReturn])
theorem qh8 {l:Nat} {w':World} (hb:b.roundOf=some l) (hr:(Instr.beginRound l).run P w=.ok () w') :
  step P (lone (Fr b a (.beginRound::k)) cs w)=.next (lone (Fr b a k) cs w'):=step_lone_go (by simp[stepG,stepG.exec,stepG.apply,Fr,hb,Sem.runT_eq,hr,Frame.finish])
theorem qd0 {f:Operand} {ps:Array Tmp} {assign body:Code} {l:Nat} {mark:List Deferred} {w1:World} {g:FuncId} {first captured:Array Value}
  (hr:(Instr.enterLoop b.fn a.tmps ps assign body b.roundOf).run P w=.ok (l,mark) w1) (hf:a.eval f=.func (.func g) first captured)
  (hg:∀ args w,(callFunc g args).run P w=.ok (.enter g args) w) :
  step P (lone (Fr b a (.code (.rangeFunc f ps assign body)::k)) cs w) =
   .next (lone (Frame.enter P g (first++#[.func (.yield l) #[] #[]]++captured) .normal) (Fr b { a with defers:=mark++a.defers } (.inRangeFunc l::k)::cs) w1):=by
 have he:=Fr.eval b { a with defers:=mark++a.defers } (.inRangeFunc l::k) f;simp only[Fr] at he;have hf':({ a with defers:=mark++a.defers }:Act).eval f=.func (.func g) first captured:=by rw[<- hf];cases f <;> rfl
 rw[hf'] at he;have hx:∀ y,(Frame.eval { fn:=b.fn,tmps:=a.tmps,todo:=Item.inRangeFunc l::k,defers:=mark++a.defers,mode:=FrameMode.run,kind:=b.kind,roundOf:=b.roundOf } (.const y))=y:=fun _=>rfl
 exact step_lone_go (by simp[stepG,stepG.exec,stepG.apply,Fr,Sem.runT_eq,hr,resolve,he,hx,Deferred.ofValue,invoke,hg])
theorem qfl {l:Nat} {jump:Option Code} {w1:World} (hr:(Instr.endLoop l).run P w=.ok jump w1) :
  step P (lone (Fr b a (.endRangeFunc l::k)) cs w)=.next (lone (Fr b a ((jump.map Item.code).toList++k)) cs w1):=step_lone_go (by simp[stepG,stepG.exec,Fr,Sem.runT_eq,hr])
end
structure FrS where
 fn:FuncId
 rd:Option Nat
 n:Nat
structure AS where
 env:T Value
 defs:List Nat
 H:AHeap
inductive AExit where
 | normal
 | exit (id:Nat)
 | goto (l:Nat)
 | ret
inductive Req where
 | code (fs:FrS) (c:Code) (s:AS)
 | again (fs:FrS) (c:Code) (s:AS)
 | scope (fs:FrS) (body rest:Code) (s:AS)
 | call (f:FuncId) (args:Array Value) (H:AHeap)
 | round (l:Nat) (args:Array Value) (H:AHeap)
inductive Res where
 | exit (e:AExit) (s:AS)
 | value (v:Value) (H:AHeap)
def qan (E:T Value):Operand->Option Value
 | .tmp t=>E.get t
 | .const v=>if flat v then some v else none
 | .global g=>if g<qjj then some (.pointer (some ⟨g,0,none⟩)) else none
 | .func f=>some (.func (.func f) #[] #[])
def qi5 (ops:Array Oper) (E:T Value) (j:Nat):Option (Option Bool):=
 match (ops[j]?).bind (·.dst) with
 | some d=>match E.get d with
  | some (.bool b)=>some (some b)
  | some (.tuple _)=>some none
  | _=>none
 | none=>none
def qaj (ops:Array Oper) (o:Oper) (E:T Value):Option Bool:=
 match o.guard with
 | none=>some true
 | some (j,want)=>(qi5 ops E j).map fun y=>y == some want
def qba (P:Program) (F:FuncId->Bool) (ev:Req->Option Res) (ops:Array Oper) (o:Oper) (E:T Value) (H:AHeap):Option (Value × AHeap):=
 match qaj ops o E with
 | none=>none
 | some false=>some (undef,H)
 | some true=>
  match aOp P F (qan E) H o with
  | none=>none
  | some (.val v,H')=>some (v,H')
  | some (.skip,H')=>some (undef,H')
  | some (.enter f args,H')=>match ev (.call f args H') with
   | some (.value v H2)=>some (v,H2)
   | _=>none
  | some (.yld l args,H')=>match ev (.round l args H') with
   | some (.value v H2)=>some (v,H2)
   | _=>none
def putE (n:Nat) (dst:Option Tmp) (v:Value) (E:T Value):Option (T Value):=
 match dst with
 | none=>some E
 | some d=>if d<n/\d<500000 then some (T.set 20 E d v) else none
def qa7 (P:Program) (F:FuncId->Bool) (ev:Req->Option Res) (n:Nat) (ops:Array Oper) (i:Nat) (x:T Value × AHeap):Option (T Value × AHeap):=
 match ops[i]? with
 | none=>none
 | some o=>(qba P F ev ops o x.1 x.2).bind fun r=>(putE n o.dst r.1 x.1).map fun E=>(E,r.2)
def qfx (P:Program) (F:FuncId->Bool) (ev:Req->Option Res) (n:Nat) (ops:Array Oper):List Nat->T Value × AHeap->Option (T Value × AHeap)
 | [],x=>some x
 | i::l,x=>(qa7 P F ev n ops i x).bind (qfx P F ev n ops l)
def qb0 (P:Program):Op->Bool
 | .convert s _ _=>qf9 P s
 | .move _ | .assign _ | .pick _ _ _ | .build _ _ | .nilCheck _ | .binOp _ _ _ _ _ | .unOp _ _ _ | .makeInterface _ _ | .makeFunc _ _ _ | .fieldAddr _ _ _ | .field _ _ _ | .indexAddr _ _ _ | .index _ _ _ | .extract _ _=>true
 | .call c=>match c.callee with
  | .builtin .len | .builtin .min | .builtin .max=>true
  | _=>false
 | _=>false
def qbz:Op->Bool
 | .load _ _ | .slice _ _ _ _ _=>true
 | _=>false
section
variable {P:Program} {F:FuncId->Bool} {ev:Req->Option Res} {ops:Array Oper} {n:Nat}
theorem qhz {ρ ρ':Operand->Option Value} {xs:Array Operand} (h:∀ x∈xs,ρ x=ρ' x):qkm ρ xs=qkm ρ' xs:=by
 unfold qkm;rw[List.map_congr_left fun x hx=>h x (by simpa using hx)]
theorem qkc {ρ ρ':Operand->Option Value} {xs:Array (Nat × Operand)} (h:∀ p∈xs,ρ p.2=ρ' p.2):qi8 ρ xs=qi8 ρ' xs:=by
 unfold qi8;rw[List.map_congr_left fun p hp=>by rw[h p (by simpa using hp)]]
theorem qg0 {ρ ρ':Operand->Option Value} {x:Option Operand} (h:∀ y,x=some y->ρ y=ρ' y):aOpt ρ x=aOpt ρ' x:=by
 cases x with
 | none=>rfl
 | some y=>simp only[aOpt,h y rfl]
theorem qsd {ρ ρ':Operand->Option Value} {H:AHeap} {c:Call} {t:TypeId} (h:∀ x∈c.operands,ρ x=ρ' x):qgg P F ρ H c t=qgg P F ρ' H c t:=by
 unfold qgg;rw[qhz (ρ:=ρ) (ρ':=ρ') fun x hx=>h x (by simp[Call.operands,hx])]
 cases hc:c.callee with
 | value f=>simp only;rw[h f (by simp[Call.operands,hc])]
 | invoke x name=>simp only;rw[h x (by simp[Call.operands,hc])]
 | _=>rfl
set_option maxHeartbeats 1000000 in
theorem qzc {ρ ρ':Operand->Option Value} {H:AHeap} {o:Oper} (h:∀ x∈o.op.operands,ρ x=ρ' x):aOp P F ρ H o=aOp P F ρ' H o:=by
 obtain ⟨dst,op,type,pos,after,guard⟩:=o
 cases op <;> simp only[Op.operands] at h <;> simp only[aOp]
 case build t ps=>rw[qkc fun p hp=>h p.2 (by simp;exact ⟨p.1,hp⟩)]
 case buildSlice t k ps=>rw[qkc fun p hp=>h p.2 (by simp;exact ⟨p.1,hp⟩)]
 case makeFunc fn x y=>rw[qhz (xs:=x) fun z hz=>h z (by simp[hz]),qhz (xs:=y) fun z hz=>h z (by simp[hz])]
 case call c=>exact qsd h
 case makeMap t r=>rw[qg0 (x:=r) fun y hy=>h y (by simp[hy])]
 case slice t x lo hi mx=>
  rw[h x (by simp),qg0 (x:=lo) fun y hy=>h y (by simp[hy]),qg0 (x:=hi) fun y hy=>h y (by simp[hy]),qg0 (x:=mx) fun y hy=>h y (by simp[hy])]
 all_goals (first | rfl | (simp_all;done))
theorem qrb {ρ:Operand->Option Value} {H H':AHeap} {o:Oper} {r:ANext} (hp:qb0 P o.op=true) (h:aOp P F ρ H o=some (r,H')):∃ v,r=.val v/\H'=H/\∀ H2,aOp P F ρ H2 o=some (.val v,H2):=by
 obtain ⟨dst,op,type,pos,after,guard⟩:=o;have mv:∀ {v:Option Value},(v.map fun v=>(ANext.val v,H))=some (r,H')->∃ x,v=some x/\r=.val x/\H'=H:=by
  intro v hv;rw[Option.map_eq_some_iff] at hv;obtain ⟨x,hx,he⟩:=hv
  cases he;exact ⟨x,hx,rfl,rfl⟩
 cases op <;> simp only[qb0] at hp <;> first | (cases hp;done) | skip
 all_goals simp only[aOp] at h |-
 case move x=>obtain ⟨v,hv,rfl,rfl⟩:=mv h;exact ⟨v,rfl,rfl,fun H2=>by rw[hv];rfl⟩
 case assign x=>obtain ⟨v,hv,rfl,rfl⟩:=mv h;exact ⟨v,rfl,rfl,fun H2=>by rw[hv];rfl⟩
 case pick c a b=>
  split at h
  ·rename_i hc;obtain ⟨v,hv,rfl,rfl⟩:=mv h;exact ⟨v,rfl,rfl,fun H2=>by rw[hv];rfl⟩
  ·rename_i hc;obtain ⟨v,hv,rfl,rfl⟩:=mv h;exact ⟨v,rfl,rfl,fun H2=>by rw[hv];rfl⟩
  ·cases h
 case build t ps=>
  rw[Option.bind_eq_some_iff] at h;obtain ⟨l,hl,h⟩:=h;obtain ⟨v,hv,rfl,rfl⟩:=mv h;exact ⟨v,rfl,rfl,fun H2=>by rw[hl];simp[hv]⟩
 case nilCheck x=>
  split at h
  ·rename_i hx;cases h;exact ⟨_,rfl,rfl,fun H2=>rfl⟩
  ·rename_i hx;cases h;exact ⟨_,rfl,rfl,fun H2=>rfl⟩
  ·cases h
 case binOp op t x y yt=>
  rw[Option.bind_eq_some_iff] at h;obtain ⟨a,ha,h⟩:=h;rw[Option.bind_eq_some_iff] at h;obtain ⟨b,hb,h⟩:=h;obtain ⟨v,hv,rfl,rfl⟩:=mv h;exact ⟨v,rfl,rfl,fun H2=>by rw[ha,hb];simp[hv]⟩
 case unOp op t x=>
  rw[Option.bind_eq_some_iff] at h;obtain ⟨a,ha,h⟩:=h;rw[ha];simp only[Option.bind_some];split at h
  ·rename_i hf;split at h
   ·rename_i v0 hv0;split at h
    ·rename_i hfv;cases h;exact ⟨v0,rfl,rfl,fun H2=>by simp[hf,hfv]⟩
    ·cases h
   ·cases h
  ·cases h
 case makeInterface t x=>
  rw[Option.bind_eq_some_iff] at h;obtain ⟨a,ha,h⟩:=h;rw[ha];simp only[Option.bind_some];split at h
  ·cases h
  ·rename_i d hni hd;cases h;exact ⟨_,rfl,rfl,fun H2=>rfl⟩
  ·cases h
 case convert s d x=>
  rw[Option.bind_eq_some_iff] at h;obtain ⟨a,ha,h⟩:=h;rw[if_pos hp] at h;obtain ⟨v,hv,rfl,rfl⟩:=mv h;exact ⟨v,rfl,rfl,fun H2=>by rw[ha];simp[hp,hv]⟩
 case makeFunc fn x y=>
  split at h
  ·rename_i f;rw[Option.bind_eq_some_iff] at h;obtain ⟨a,ha,h⟩:=h;rw[Option.bind_eq_some_iff] at h;obtain ⟨b,hb,h⟩:=h;cases h;exact ⟨_,rfl,rfl,fun H2=>by rw[ha,hb];rfl⟩
  ·cases h
 case fieldAddr t x f=>
  rw[Option.bind_eq_some_iff] at h;obtain ⟨a,ha,h⟩:=h;obtain ⟨v,hv,rfl,rfl⟩:=mv h;exact ⟨v,rfl,rfl,fun H2=>by rw[ha];simp[hv]⟩
 case field t x f=>
  rw[Option.bind_eq_some_iff] at h;obtain ⟨a,ha,h⟩:=h;obtain ⟨v,hv,rfl,rfl⟩:=mv h;exact ⟨v,rfl,rfl,fun H2=>by rw[ha];simp[hv]⟩
 case indexAddr t x y=>
  rw[Option.bind_eq_some_iff] at h;obtain ⟨a,ha,h⟩:=h;rw[Option.bind_eq_some_iff] at h;obtain ⟨b,hb,h⟩:=h;obtain ⟨v,hv,rfl,rfl⟩:=mv h;exact ⟨v,rfl,rfl,fun H2=>by rw[ha,hb];simp[hv]⟩
 case index t x y=>
  rw[Option.bind_eq_some_iff] at h;obtain ⟨a,ha,h⟩:=h;rw[Option.bind_eq_some_iff] at h;obtain ⟨b,hb,h⟩:=h;obtain ⟨v,hv,rfl,rfl⟩:=mv h;exact ⟨v,rfl,rfl,fun H2=>by rw[ha,hb];simp[hv]⟩
 case extract t i=>
  split at h
  ·rename_i vs ht;obtain ⟨v,hv,rfl,rfl⟩:=mv h;exact ⟨v,rfl,rfl,fun H2=>by simp[hv]⟩
  ·cases h
 case call c=>
  unfold qgg at h |-
  cases hc:c.callee with
  | value f=>rw[hc] at hp;cases hp
  | invoke x m=>rw[hc] at hp;cases hp
  | builtin b=>
   rw[hc] at hp h;simp only at h |-;rw[Option.bind_eq_some_iff] at h;obtain ⟨args,hargs,h⟩:=h;rw[hargs];simp only[Option.bind_some]
   cases b <;> simp only at hp <;> first | (cases hp;done) | skip
   all_goals simp only[qde] at h |-
   ·obtain ⟨v,hv,rfl,rfl⟩:=mv h;exact ⟨v,rfl,rfl,fun H2=>by rw[hv];rfl⟩
   ·split at h
    ·rename_i hf;split at h
     ·rename_i v0 hv0;split at h
      ·rename_i hfv;cases h;exact ⟨v0,rfl,rfl,fun H2=>by simp[hf,hfv]⟩
      ·cases h
     ·cases h
    ·cases h
   ·split at h
    ·rename_i hf;split at h
     ·rename_i v0 hv0;split at h
      ·rename_i hfv;cases h;exact ⟨v0,rfl,rfl,fun H2=>by simp[hf,hfv]⟩
      ·cases h
     ·cases h
    ·cases h
theorem qhj {ρ:Operand->Option Value} {H H':AHeap} {o:Oper} {r:ANext} (hp:qbz o.op=true) (h:aOp P F ρ H o=some (r,H')):∃ v,r=.val v/\H'=H:=by
 obtain ⟨dst,op,type,pos,after,guard⟩:=o;have mv:∀ {v:Option Value},(v.map fun v=>(ANext.val v,H))=some (r,H')->∃ x,v=some x/\r=.val x/\H'=H:=by
  intro v hv;rw[Option.map_eq_some_iff] at hv;obtain ⟨x,hx,he⟩:=hv
  cases he;exact ⟨x,hx,rfl,rfl⟩
 cases op <;> simp only[qbz] at hp <;> first | (cases hp;done) | skip
 all_goals simp only[aOp] at h
 case load t a=>
  rw[Option.bind_eq_some_iff] at h;obtain ⟨a,ha,h⟩:=h;obtain ⟨v,hv,rfl,rfl⟩:=mv h;exact ⟨v,rfl,rfl⟩
 case slice t x lo hi mx=>
  simp only[Option.bind_eq_some_iff] at h;obtain ⟨a,_,b,_,c,_,d,_,h⟩:=h;obtain ⟨v,hv,rfl,rfl⟩:=mv h;exact ⟨v,rfl,rfl⟩
end
mutual
def eqV:Value->Value->Bool
 | .bool a,.bool b=>a == b
 | .int k a,.int k' b=>decide (k=k')&&decide (a=b)
 | .string a,.string b=>decide (a.data.toList=b.data.toList)
 | .pointer a,.pointer b=>decide (a=b)
 | .slice a l c,.slice b l' c'=>decide (a=b)&&decide (l=l')&&decide (c=c')
 | .map a,.map b=>decide (a=b)
 | .func fn x y,.func fn' x' y'=>decide (fn=fn')&&eqA x x'&&eqA y y'
 | .nilFunc,.nilFunc=>true
 | .iface t v,.iface t' v'=>decide (t=t')&&eqV v v'
 | .nilIface,.nilIface=>true
 | .agg x,.agg y=>eqA x y
 | .tuple x,.tuple y=>eqA x y
 | _,_=>false
def eqA:Array Value->Array Value->Bool
 | ⟨l⟩,⟨l'⟩=>eqL l l'
def eqL:List Value->List Value->Bool
 | [],[]=>true
 | v::l,v'::l'=>eqV v v'&&eqL l l'
 | _,_=>false
end
mutual
theorem q3r:∀ (a b:Value),eqV a b=true->a=b
 | .bool a,b,h=>by cases b <;> simp[eqV] at h;subst h;rfl
 | .int k a,b,h=>by cases b <;> simp[eqV] at h;obtain ⟨rfl,rfl⟩:=h;rfl
 | .string a,b,h=>by
  cases b <;> simp[eqV] at h
  rename_i c
  cases a;cases c;simp at h;subst h;rfl
 | .pointer a,b,h=>by cases b <;> simp[eqV] at h;subst h;rfl
 | .slice a l c,b,h=>by cases b <;> simp[eqV] at h;obtain ⟨⟨rfl,rfl⟩,rfl⟩:=h;rfl
 | .map a,b,h=>by cases b <;> simp[eqV] at h;subst h;rfl
 | .chan a,b,h=>by cases b <;> simp[eqV] at h
 | .float a c,b,h=>by cases b <;> simp[eqV] at h
 | .complex a c d,b,h=>by cases b <;> simp[eqV] at h
 | .func fn x y,b,h=>by
  cases b <;> simp[eqV] at h
  obtain ⟨⟨rfl,hx⟩,hy⟩:=h;rw[qt2 x _ hx,qt2 y _ hy]
 | .nilFunc,b,h=>by cases b <;> simp[eqV] at h;rfl
 | .iface t v,b,h=>by cases b <;> simp[eqV] at h;obtain ⟨rfl,hv⟩:=h;rw[q3r v _ hv]
 | .nilIface,b,h=>by cases b <;> simp[eqV] at h;rfl
 | .agg x,b,h=>by cases b <;> simp[eqV] at h;rw[qt2 x _ h]
 | .tuple x,b,h=>by cases b <;> simp[eqV] at h;rw[qt2 x _ h]
theorem qt2:∀ (a b:Array Value),eqA a b=true->a=b
 | ⟨l⟩,⟨l'⟩,h=>by simp only[eqA] at h;rw[qiz l l' h]
theorem qiz:∀ (a b:List Value),eqL a b=true->a=b
 | [],b,h=>by cases b <;> simp[eqL] at h;rfl
 | v::l,b,h=>by
  cases b <;> simp[eqL] at h
  obtain ⟨hv,hl⟩:=h;rw[q3r v _ hv,qiz l _ hl]
end
def qlc (H H':AHeap) (b:Nat):Bool:=
 match H.t.get b,H'.t.get b with
 | some (.cells vs e k),some (.cells vs' e' k')=>eqL vs vs'&&decide (e=e')&&decide (k=k')
 | _,_=>false
theorem quw {H H':AHeap} {b:Nat} (h:qlc H H' b=true):H'.t.get b=H.t.get b:=by
 unfold qlc at h;split at h
 ·rename_i h1 h2;simp only[Bool.and_eq_true,decide_eq_true_eq] at h;obtain ⟨⟨hv,rfl⟩,rfl⟩:=h;rw[h1,h2,qiz _ _ hv]
 ·cases h
section
variable {P:Program} {F:FuncId->Bool} {ev:Req->Option Res} {ops:Array Oper} {n:Nat}
def qc7 (ρ:Operand->Option Value) (o:Oper):Option Nat:=
 match o.op with
 | .load _ a=>match ρ a with
  | some (.pointer (some a))=>some a.block
  | _=>none
 | .slice _ x _ _ _=>match ρ x with
  | some (.slice (some a) _ _)=>some a.block
  | _=>none
 | _=>none
theorem qqp {H H2:AHeap} {a:Addr} {k:Nat} (h:H2.t.get a.block=H.t.get a.block):qb9 H2 a k=qb9 H a k:=by unfold qb9;rw[h]
theorem qjz {ρ:Operand->Option Value} {H H' H2:AHeap} {o:Oper} {r:ANext} (hp:qbz o.op=true) (h:aOp P F ρ H o=some (r,H')) (hs:∀ b,qc7 ρ o=some b->H2.t.get b=H.t.get b) :
  ∃ v,r=.val v/\aOp P F ρ H2 o=some (.val v,H2):=by
 obtain ⟨dst,op,type,pos,after,guard⟩:=o;have mv:∀ {v:Option Value},(v.map fun v=>(ANext.val v,H))=some (r,H')->∃ x,v=some x/\r=.val x/\H'=H:=by
  intro v hv;rw[Option.map_eq_some_iff] at hv;obtain ⟨x,hx,he⟩:=hv
  cases he;exact ⟨x,hx,rfl,rfl⟩
 cases op <;> simp only[qbz] at hp <;> first | (cases hp;done) | skip
 all_goals simp only[aOp] at h |-
 case load t a=>
  rw[Option.bind_eq_some_iff] at h;obtain ⟨va,ha,h⟩:=h;obtain ⟨v,hv,rfl,rfl⟩:=mv h;refine ⟨v,rfl,?_⟩;rw[ha];simp only[Option.bind_some]
  cases va with
  | pointer p=>
   cases p with
   | none=>simp[qgf] at hv
   | some p=>
    have:=hs p.block (by simp[qc7,ha]);have e:qgf P H2 t (.pointer (some p))=qgf P H' t (.pointer (some p)):=by
     simp only[qgf,qqp this]
    rw[e,hv];rfl
  | _=>simp[qgf] at hv
 case slice t x lo hi mx=>
  rw[Option.bind_eq_some_iff] at h;obtain ⟨vx,hx,h⟩:=h;rw[Option.bind_eq_some_iff] at h;obtain ⟨vlo,hlo,h⟩:=h;rw[Option.bind_eq_some_iff] at h;obtain ⟨vhi,hhi,h⟩:=h;rw[Option.bind_eq_some_iff] at h;obtain ⟨vmx,hmx,h⟩:=h;obtain ⟨v,hv,rfl,rfl⟩:=mv h;refine ⟨v,rfl,?_⟩;rw[hx,hlo,hhi,hmx];simp only[Option.bind_some];have e:qbv P H2 t vx vlo vhi vmx=qbv P H' t vx vlo vhi vmx:=by
   cases vx with
   | slice a l c=>
    cases a with
    | none=>rfl
    | some a=>
     have:=hs a.block (by simp[qc7,hx]);simp only[qbv,this]
   | pointer a=>cases a <;> rfl
   | _=>rfl
  rw[e,hv];rfl
end
section
variable {P:Program} {F:FuncId->Bool} {ev:Req->Option Res} {ops:Array Oper} {n:Nat}
def Agree (ops:Array Oper) (o:Oper) (E E':T Value):Prop:=∀ d∈o.looksAt ops,E.get d=E'.get d
theorem qhp {o:Oper} {E E':T Value} {H:AHeap} (h:Agree ops o E E'):qba P F ev ops o E H=qba P F ev ops o E' H:=by
 have hw:qaj ops o E=qaj ops o E':=by
  unfold qaj
  cases hg:o.guard with
  | none=>rfl
  | some jw=>
   obtain ⟨j,want⟩:=jw;simp only
   congr 1
   unfold qi5
   cases hd:(ops[j]?).bind (·.dst) with
   | none=>rfl
   | some d=>
    simp only;rw[h d (by simp[Oper.looksAt,hg,hd])]
 have ha:aOp P F (qan E) H o=aOp P F (qan E') H o:=by
  refine qzc fun x hx=>?_
  cases x with
  | tmp t=>exact h t (by simp only[Oper.looksAt];exact List.mem_append_left _ (List.mem_filterMap.2 ⟨.tmp t,by simpa using hx,rfl⟩))
  | _=>rfl
 unfold qba;rw[hw,ha]
noncomputable def qbd (P:Program) (F:FuncId->Bool) (ev:Req->Option Res) (L:List Nat) (ops:Array Oper) (o:Oper) (E:T Value) (H:AHeap):Option (Value × AHeap):=
 match qba P F ev ops o E H with
 | none=>none
 | some (v,H')=>
  if qb0 P o.op then some (v,H')
  else if qbz o.op then
   match qaj ops o E with
   | some true=>match qc7 (qan E) o with
    | some b=>if L.contains b then some (v,H') else none
    | none=>some (v,H')
   | _=>some (v,H')
  else by classical exact if ∀ b∈L,H'.t.get b=H.t.get b then some (v,H') else none
theorem Agree.wanted {o:Oper} {E E':T Value} (h:Agree ops o E E'):qaj ops o E=qaj ops o E':=by
 unfold qaj
 cases hg:o.guard with
 | none=>rfl
 | some jw=>
  obtain ⟨j,want⟩:=jw;simp only
  congr 1
  unfold qi5
  cases hd:(ops[j]?).bind (·.dst) with
  | none=>rfl
  | some d=>
   simp only;rw[h d (by simp[Oper.looksAt,hg,hd])]
theorem Agree.eval {o:Oper} {E E':T Value} (h:Agree ops o E E') {x:Operand} (hx:x∈o.op.operands):qan E x=qan E' x:=by
 cases x with
 | tmp t=>exact h t (by simp only[Oper.looksAt];exact List.mem_append_left _ (List.mem_filterMap.2 ⟨.tmp t,by simpa using hx,rfl⟩))
 | _=>rfl
theorem qfy {L:List Nat} {o:Oper} {E E':T Value} {H:AHeap} (h:Agree ops o E E'):qbd P F ev L ops o E H=qbd P F ev L ops o E' H:=by
 have hb:qc7 (qan E) o=qc7 (qan E') o:=by
  have he:∀ x∈o.op.operands,qan E x=qan E' x:=fun x hx=>h.eval hx
  obtain ⟨dst,op,type,pos,after,guard⟩:=o
  cases op <;> simp only[qc7]
  case load t a=>rw[he a (by simp[Op.operands])]
  case slice t x lo hi mx=>rw[he x (by simp[Op.operands])]
 unfold qbd;rw[qhp h,h.wanted,hb]
theorem qgs {L:List Nat} {o:Oper} {E:T Value} {H:AHeap} {r:Value × AHeap} (h:qbd P F ev L ops o E H=some r):qba P F ev ops o E H=some r:=by
 unfold qbd at h;split at h
 ·cases h
 ·rename_i v H' he;rw[he];split at h
  ·exact h
  ·split at h
   ·split at h
    ·split at h
     ·split at h
      ·exact h
      ·cases h
     ·exact h
    ·exact h
   ·split at h
    ·exact h
    ·cases h
theorem qei {o:Oper} {E:T Value} {H H':AHeap} {v:Value} (hp:qb0 P o.op=true) (h:qba P F ev ops o E H=some (v,H')):H'=H/\∀ H2,qba P F ev ops o E H2=some (v,H2):=by
 unfold qba at h |-
 cases hw:qaj ops o E with
 | none=>rw[hw] at h;cases h
 | some b=>
  rw[hw] at h
  cases b with
  | false=>cases h;exact ⟨rfl,fun _=>rfl⟩
  | true=>
   simp only at h |-
   cases ha:aOp P F (qan E) H o with
   | none=>rw[ha] at h;cases h
   | some r=>
    obtain ⟨r,H1⟩:=r;obtain ⟨v0,rfl,rfl,hall⟩:=qrb hp ha;rw[ha] at h;cases h;exact ⟨rfl,fun H2=>by rw[hall H2]⟩
theorem qhr {L:List Nat} {o:Oper} {E:T Value} {H H':AHeap} {v:Value} (hp:qb0 P o.op=true) (h:qbd P F ev L ops o E H=some (v,H')):H'=H/\∀ H2,qbd P F ev L ops o E H2=some (v,H2):=by
 obtain ⟨h1,h2⟩:=qei hp (qgs h);exact ⟨h1,fun H2=>by unfold qbd;rw[h2 H2];simp[hp]⟩
theorem qif {P:Program} {o:Op} (h:qbz o=true):qb0 P o=false:=by cases o <;> simp_all [qbz,qb0]
theorem qhq {L:List Nat} {o:Oper} {E:T Value} {H H':AHeap} {v:Value} (hp:qbz o.op=true) (h:qbd P F ev L ops o E H=some (v,H')) :
  H'=H/\∀ H2:AHeap,(∀ b∈L,H2.t.get b=H.t.get b)->qbd P F ev L ops o E H2=some (v,H2):=by
 have he:=qgs h;have hnp:=qif (P:=P) hp;unfold qba at he
 cases hw:qaj ops o E with
 | none=>rw[hw] at he;cases he
 | some b=>
  rw[hw] at he
  cases b with
  | false=>
   cases he;refine ⟨rfl,fun H2 _=>?_⟩
   unfold qbd qba;rw[hw];simp[hnp,hp]
  | true=>
   simp only at he
   cases ha:aOp P F (qan E) H o with
   | none=>rw[ha] at he;cases he
   | some r=>
    obtain ⟨r,H1⟩:=r;obtain ⟨v0,rfl,rfl⟩:=qhj hp ha;rw[ha] at he;cases he;refine ⟨rfl,fun H2 hs=>?_⟩;have hL:∀ b,qc7 (qan E) o=some b->b∈L:=by
     intro b hb;unfold qbd qba at h;rw[hw] at h;simp only[ha,hnp,hp,hb,Bool.false_eq_true,if_false,if_true] at h;split at h
     ·rename_i hc;simpa using hc
     ·cases h
    obtain ⟨v1,hv1,h2⟩:=qjz (H2:=H2) hp ha fun b hb=>hs b (hL b hb)
    cases hv1;unfold qbd qba
    rw[hw];simp only[h2,hnp,hp,Bool.false_eq_true,if_false,if_true]
    cases hb:qc7 (qan E) o with
    | none=>rfl
    | some b=>simp[hL b hb]
theorem qpf {L:List Nat} {o:Oper} {E:T Value} {H H':AHeap} {v:Value} (hp:qb0 P o.op=false) (hr:qbz o.op=false) (h:qbd P F ev L ops o E H=some (v,H')):∀ b∈L,H'.t.get b=H.t.get b:=by
 have he:=qgs h;unfold qbd at h;rw[he] at h;simp only[hp,hr,Bool.false_eq_true,if_false] at h;split at h
 ·rename_i hall;exact hall
 ·cases h
theorem qkq {dst:Option Tmp} {v:Value} {E E':T Value} (h:putE n dst v E=some E') {d:Nat} (hd:dst≠some d):E'.get d=E.get d:=by
 cases dst with
 | none=>cases h;rfl
 | some t=>
  simp only[putE] at h;split at h
  ·cases h;exact T.get_set_other _ _ _ _ _ (fun e=>hd (by rw[e]))
  ·cases h
theorem qo7 {dst:Option Tmp} {v:Value} {E E':T Value} (h:putE n dst v E=some E') (E2:T Value):∃ E3,putE n dst v E2=some E3:=by
 cases dst with
 | none=>exact ⟨E2,rfl⟩
 | some t=>
  simp only[putE] at h |-;split at h
  ·rename_i hc;exact ⟨_,by rw[if_pos hc]⟩
  ·cases h
theorem qo8 {d1 d2:Option Tmp} {v1 v2:Value} {E E1 E2 E3:T Value} (h1:putE n d1 v1 E=some E1) (h2:putE n d2 v2 E1=some E2) (h3:putE n d2 v2 E=some E3) (hne:∀ d,d1=some d->d2≠some d):putE n d1 v1 E3=some E2:=by
 cases d1 with
 | none=>cases h1;rw[h2] at h3;cases h3;rfl
 | some a=>
  cases d2 with
  | none=>cases h3;cases h2;exact h1
  | some b=>
   simp only[putE] at h1 h2 h3 |-;split at h1
   ·rename_i hc1;cases h1;split at h2
    ·cases h2;rename_i hc2
     rw[if_pos hc2] at h3;cases h3;rw[if_pos hc1,T.set_comm _ _ _ _ _ _ (fun e=>hne a rfl (by rw[e]))]
    ·cases h2
   ·cases h1
def qo1 (P:Program) (ops:Array Oper) (x y:Oper):Bool:=x.apart ops y&&(qb0 P x.op || qb0 P y.op || qbz x.op || qbz y.op)
noncomputable def qbs (P:Program) (F:FuncId->Bool) (ev:Req->Option Res) (L:List Nat) (n:Nat) (ops:Array Oper) (i:Nat) (x:T Value × AHeap):Option (T Value × AHeap):=
 match ops[i]? with
 | none=>none
 | some o=>(qbd P F ev L ops o x.1 x.2).bind fun r=>(putE n o.dst r.1 x.1).map fun E=>(E,r.2)
noncomputable def qa4 (P:Program) (F:FuncId->Bool) (ev:Req->Option Res) (L:List Nat) (n:Nat) (ops:Array Oper):List Nat->T Value × AHeap->Option (T Value × AHeap)
 | [],x=>some x
 | i::l,x=>(qbs P F ev L n ops i x).bind (qa4 P F ev L n ops l)
theorem qpe {L:List Nat} {i:Nat} {x y:T Value × AHeap} (h:qbs P F ev L n ops i x=some y):qa7 P F ev n ops i x=some y:=by
 unfold qbs at h;unfold qa7
 cases ho:ops[i]? with
 | none=>rw[ho] at h;cases h
 | some o=>
  rw[ho] at h;simp only at h |-;rw[Option.bind_eq_some_iff] at h;obtain ⟨r,hr,h⟩:=h;rw[qgs hr];exact h
theorem qho {L:List Nat}:∀ (l:List Nat) (x y:T Value × AHeap),qa4 P F ev L n ops l x=some y->qfx P F ev n ops l x=some y
 | [],_,_,h=>h
 | i::l,x,y,h=>by
  simp only[qa4] at h;simp only[qfx];rw[Option.bind_eq_some_iff] at h |-;obtain ⟨z,hz,h⟩:=h;exact ⟨z,qpe hz,qho l z y h⟩
theorem qpd {L:List Nat} {i j:Nat} {oi oj:Oper} (hi:ops[i]?=some oi) (hj:ops[j]?=some oj) (hs:qo1 P ops oj oi=true) {x x1 x2:T Value × AHeap}
  (h1:qbs P F ev L n ops j x=some x1) (h2:qbs P F ev L n ops i x1=some x2):∃ x3,qbs P F ev L n ops i x=some x3/\qbs P F ev L n ops j x3=some x2:=by
 simp only[qo1,Bool.and_eq_true,Bool.or_eq_true] at hs;obtain ⟨hap,hk⟩:=hs;obtain ⟨a1,a2,a3⟩:=Oper.apart_spec hap;obtain ⟨E,H⟩:=x;simp only[qbs,hi,hj] at h1 h2 |-;rw[Option.bind_eq_some_iff] at h1;obtain ⟨⟨vj,Hj⟩,hej,h1⟩:=h1;rw[Option.map_eq_some_iff] at h1;obtain ⟨E1,hpj,rfl⟩:=h1;rw[Option.bind_eq_some_iff] at h2;obtain ⟨⟨vi,Hi⟩,hei,h2⟩:=h2;rw[Option.map_eq_some_iff] at h2;obtain ⟨E2,hpi,rfl⟩:=h2;simp only at hej hei hpj hpi;have agi:Agree ops oi E1 E:=fun d hd=>qkq hpj fun e=>a1 d e hd
 rw[qfy agi] at hei;obtain ⟨E3,hp3⟩:=qo7 hpi E;have agj:Agree ops oj E3 E:=fun d hd=>qkq hp3 fun e=>a3 d e hd
 have hfin:putE n oj.dst vj E3=some E2:=qo8 hpj hpi hp3 a2;have keeps:∀ {o:Oper} {E:T Value} {H H':AHeap} {v:Value},qbd P F ev L ops o E H=some (v,H')->∀ b∈L,H'.t.get b=H.t.get b:=by
  intro o E H H' v h b hb;by_cases hp:qb0 P o.op=true
  ·rw[(qhr hp h).1]
  ·by_cases hr:qbz o.op=true
   ·rw[(qhq hr h).1]
   ·exact qpf (by simpa using hp) (by simpa using hr) h b hb
 -- where one of them leaves the memory and gives the same over what the other leaves
 have caseJ:Hj=H->(∀ H2:AHeap,(∀ b∈L,H2.t.get b=H.t.get b)->qbd P F ev L ops oj E H2=some (vj,H2))->∃ x3,(qbd P F ev L ops oi E H).bind (fun r=>(putE n oi.dst r.1 E).map fun E=>(E,r.2))=some x3 /\
   (qbd P F ev L ops oj x3.1 x3.2).bind (fun r=>(putE n oj.dst r.1 x3.1).map fun E=>(E,r.2))=some (E2,Hi):=by
  rintro rfl hall;refine ⟨(E3,Hi),by rw[hei];simp[hp3],?_⟩;simp only;rw[qfy agj,hall Hi (keeps hei)];simp[hfin]
 have caseI:Hi=Hj->qbd P F ev L ops oi E H=some (vi,H)->∃ x3,(qbd P F ev L ops oi E H).bind (fun r=>(putE n oi.dst r.1 E).map fun E=>(E,r.2))=some x3 /\
   (qbd P F ev L ops oj x3.1 x3.2).bind (fun r=>(putE n oj.dst r.1 x3.1).map fun E=>(E,r.2))=some (E2,Hi):=by
  rintro rfl hall;refine ⟨(E3,H),by rw[hall];simp[hp3],?_⟩;simp only;rw[qfy agj,hej];simp[hfin]
 rcases hk with ((hk | hk) | hk) | hk
 ·obtain ⟨e,hall⟩:=qhr hk hej;exact caseJ e fun H2 _=>hall H2
 ·obtain ⟨e,hall⟩:=qhr hk hei;exact caseI e (hall H)
 ·obtain ⟨e,hall⟩:=qhq hk hej;exact caseJ e hall
 ·obtain ⟨e,hall⟩:=qhq hk hei;exact caseI e (hall H fun b hb=>(keeps hej b hb).symm)
theorem qg8 {L:List Nat} (l l2:List Nat) (x:T Value × AHeap):qa4 P F ev L n ops (l++l2) x=(qa4 P F ev L n ops l x).bind (qa4 P F ev L n ops l2):=by
 induction l generalizing x with
 | nil=>rfl
 | cons i l ih=>
  simp only[List.cons_append,qa4]
  cases qbs P F ev L n ops i x with
  | none=>rfl
  | some y=>simp only[Option.bind_some];exact ih y
theorem qil {L:List Nat} {i:Nat} {oi:Oper} (hi:ops[i]?=some oi):∀ (l:List Nat) (x y:T Value × AHeap),(∀ j∈l,∃ oj,ops[j]?=some oj/\qo1 P ops oj oi=true) ->
  qa4 P F ev L n ops (l++[i]) x=some y->qa4 P F ev L n ops (i::l) x=some y
 | [],x,y,_,h=>h
 | j::l,x,y,hl,h=>by
  simp only[List.cons_append,qa4] at h;rw[Option.bind_eq_some_iff] at h;obtain ⟨x1,h1,h⟩:=h;have h':=qil hi l x1 y (fun k hk=>hl k (List.mem_cons_of_mem _ hk)) h;simp only[qa4] at h';rw[Option.bind_eq_some_iff] at h';obtain ⟨x2,h2,h'⟩:=h';obtain ⟨oj,hj,hs⟩:=hl j (List.mem_cons_self ..);obtain ⟨x3,h3,h4⟩:=qpd hi hj hs h1 h2;simp only[qa4];rw[h3];simp only[Option.bind_some];rw[h4];exact h'
def reach (ops:Array Oper):Nat->Nat->Nat->Bool
 | 0,_,_=>false
 | f+1,i,j=>match ops[i]? with
  | some o=>o.after.toList.any fun e=>Region.binds .any e&&(e.on == j || reach ops f e.on j)
  | none=>false
def qng (P:Program) (ops:Array Oper):Bool:=
 (List.range ops.size).all fun i=>match ops[i]? with
  | some oi=>(oi.after.toList.all fun e => !Region.binds .any e || decide (e.on<i)) &&
    (List.range i).all fun j=>match ops[j]? with
     | some oj=>qo1 P ops oj oi || reach ops 12 i j
     | none=>false
  | none=>false
def Closed (ops:Array Oper) (listed:Array Bool):Prop:=
 ∀ i o,ops[i]?=some o->listed.getD i true=true->∀ e∈o.after,Region.binds .any e=true->i<ops.size->listed.getD e.on false=true
theorem qfs {listed:Array Bool} (hsz:listed.size=ops.size) (hc:Closed ops listed):∀ (f i j:Nat) (o:Oper),ops[i]?=some o->(∀ e∈o.after,Region.binds .any e=true->listed.getD e.on false=true)->reach ops f i j=true->listed.getD j false=true
 | 0,i,j,o,_,_,h=>by simp[reach] at h
 | f+1,i,j,o,ho,hr,h=>by
  simp only[reach,ho,List.any_eq_true,Bool.and_eq_true,Bool.or_eq_true,beq_iff_eq] at h;obtain ⟨e,he,hb,h⟩:=h;have hl:=hr e (by simpa using he) hb;rcases h with rfl | h
  ·exact hl
  ·have hlt:e.on<ops.size:=by
    rw[Array.getD_eq_getD_getElem?] at hl;rcases Nat.lt_or_ge e.on listed.size with h1 | h1
    ·omega
    ·simp[Array.getElem?_eq_none h1] at hl
   have ho':ops[e.on]?=some ops[e.on]:=by simp[hlt]
   refine qfs hsz hc f e.on j _ ho' (fun e' he' hb'=>?_) h;refine hc e.on _ ho' ?_ e' he' hb' hlt;rw[Array.getD_eq_getD_getElem?] at hl |-;have:e.on<listed.size:=by omega
   simp[this] at hl |-;exact hl
end
section
variable {P:Program} {F:FuncId->Bool} {ev:Req->Option Res} {ops:Array Oper} {n:Nat}
def unl (k:Nat) (listed:Array Bool):List Nat:=(List.range k).filter fun i => !listed.getD i true
theorem qtu {listed:Array Bool} {i j:Nat} (hi:i<listed.size) (d:Bool):(listed.setIfInBounds i true).getD j d=if j=i then true else listed.getD j d:=by
 simp only[Array.getD_eq_getD_getElem?,Array.getElem?_setIfInBounds];by_cases h:j=i
 ·subst h;simp[hi]
 ·rw[if_neg (by omega),if_neg h]
theorem qow {listed:Array Bool} {i:Nat} (hm:i∈unl ops.size listed) (hsz:listed.size=ops.size) :
  ∃ c1 c2,unl ops.size listed=c1++i::c2/\(∀ j∈c1,j<i/\listed.getD j true=false)/\unl ops.size (listed.setIfInBounds i true)=c1++c2:=by
 obtain ⟨c1,c2,he⟩:=List.append_of_mem hm;have hp:(unl ops.size listed).Pairwise (·<·):=(List.pairwise_lt_range).filter _;rw[he,List.pairwise_append] at hp;obtain ⟨_,hp2,hp3⟩:=hp;have hlt:i<listed.size:=by
  have:=List.mem_filter.1 hm;simpa [hsz] using this.1
 refine ⟨c1,c2,he,fun j hj=>⟨hp3 j hj i (List.mem_cons_self ..),?_⟩,?_⟩
 ·have:j∈unl ops.size listed:=by rw[he];exact List.mem_append_left _ hj
  simpa using (List.mem_filter.1 this).2
 ·have e1:unl ops.size (listed.setIfInBounds i true)=(unl ops.size listed).filter fun j => !(decide (j=i)):=by
   unfold unl;rw[List.filter_filter];refine List.filter_congr fun j _=>?_
   rw[qtu hlt];by_cases h:j=i
   ·simp[h]
   ·simp[h]
  rw[e1,he,List.filter_append,List.filter_cons];have f1:c1.filter (fun j => !(decide (j=i)))=c1:=List.filter_eq_self.2 fun j hj=>by
   have:=hp3 j hj i (List.mem_cons_self ..);simp;omega
  have f2:c2.filter (fun j => !(decide (j=i)))=c2:=List.filter_eq_self.2 fun j hj=>by
   have:=(List.pairwise_cons.1 hp2).1 j hj;simp;omega
  rw[f1,f2];simp
theorem mem_ready {listed:Array Bool} {i:Nat}:i∈Region.ready .any ops listed↔i<ops.size/\listed.getD i true=false/\∃ o,ops[i]?=some o/\∀ e∈o.after,Region.binds .any e=true->listed.getD e.on false=true:=by
 unfold Region.ready;simp only[List.mem_filter,List.mem_range,Bool.and_eq_true,Bool.not_eq_true'];constructor
 ·rintro ⟨h1,h2,h3⟩;have ho:ops[i]?=some ops[i]:=by simp[h1]
  rw[ho] at h3;simp only[Option.map_some,Option.getD_some,Array.all_eq_true_iff_forall_mem] at h3;refine ⟨h1,h2,_,ho,fun e he hb=>?_⟩;have:=h3 e he;simpa [hb] using this
 ·rintro ⟨h1,h2,o,ho,h3⟩;refine ⟨h1,h2,?_⟩;rw[ho];simp only[Option.map_some,Option.getD_some,Array.all_eq_true_iff_forall_mem];intro e he;by_cases hb:Region.binds .any e=true
  ·simp[h3 e he hb]
  ·simp[hb]
theorem qqd (h:qng P ops=true) {i:Nat} (hi:i<ops.size):∃ o,ops[i]?=some o/\(∀ e∈o.after,Region.binds .any e=true->e.on<i)/\∀ j,j<i->∃ oj,ops[j]?=some oj/\(qo1 P ops oj o=true\/reach ops 12 i j=true):=by
 unfold qng at h;rw[List.all_eq_true] at h;have:=h i (by simpa using hi);have ho:ops[i]?=some ops[i]:=by simp[hi]
 rw[ho] at this;simp only[Bool.and_eq_true,List.all_eq_true] at this;refine ⟨_,ho,fun e he hb=>?_,fun j hj=>?_⟩
 ·have:=this.1 e (by simpa using he);simpa [hb] using this
 ·have:=this.2 j (by simpa using hj)
  cases hoj:ops[j]? with
  | none=>rw[hoj] at this;cases this
  | some oj=>rw[hoj] at this;exact ⟨oj,rfl,by simpa using this⟩
theorem Closed.set {listed:Array Bool} (hsz:listed.size=ops.size) (hc:Closed ops listed) {i:Nat} (hr:i∈Region.ready .any ops listed):Closed ops (listed.setIfInBounds i true):=by
 obtain ⟨h1,h2,o,ho,h3⟩:=mem_ready.1 hr;have hlt:i<listed.size:=by omega
 intro k ok hk hl e he hb hks;rw[qtu hlt] at hl |-;by_cases hki:k=i
 ·subst hki;rw[ho] at hk;cases hk;rw[h3 e he hb];simp
 ·rw[if_neg hki] at hl;rw[hc k ok hk hl e he hb hks];simp
theorem qof {L:List Nat} (hd:qng P ops=true):∀ (fuel t:Nat) (listed:Array Bool) (x y:T Value × AHeap),listed.size=ops.size->Closed ops listed->(unl ops.size listed).length<=fuel ->
  qa4 P F ev L n ops (unl ops.size listed) x=some y->qa4 P F ev L n ops (Region.linearise.go .any ops fuel t listed []) x=some y
 | 0,t,listed,x,y,hsz,hc,hf,h=>by
  have:unl ops.size listed=[]:=List.eq_nil_of_length_eq_zero (by omega);rw[this] at h;simpa [Region.linearise.go] using h
 | fuel+1,t,listed,x,y,hsz,hc,hf,h=>by
  simp only[Region.linearise.go]
  change qa4 P F ev L n ops (match (Region.ready .any ops listed)[t % (Region.ready .any ops listed).length]? with
   | some i=>Region.linearise.go .any ops fuel (t / (Region.ready .any ops listed).length) (listed.setIfInBounds i true) [i]
   | none=>[].reverse) x=some y
  cases hi:(Region.ready .any ops listed)[t % (Region.ready .any ops listed).length]? with
  | none=>
   have hnil:Region.ready .any ops listed=[]:=by
    cases hr:Region.ready .any ops listed with
    | nil=>rfl
    | cons x xs=>
     rw[hr] at hi;have hlt:t % (x::xs).length<(x::xs).length:=Nat.mod_lt _ (by simp);simp at hi;simp at hlt;omega
   have:unl ops.size listed=[]:=by
    cases hu:unl ops.size listed with
    | nil=>rfl
    | cons i l=>
     exfalso;have hm:i∈unl ops.size listed:=by rw[hu];exact List.mem_cons_self ..
     have hm':=List.mem_filter.1 hm;have hlt:i<ops.size:=by simpa using hm'.1
     obtain ⟨o,ho,he,_⟩:=qqd hd hlt;have hp:(unl ops.size listed).Pairwise (·<·):=(List.pairwise_lt_range).filter _;rw[hu] at hp
     have:i∈Region.ready .any ops listed:=mem_ready.2 ⟨hlt,by simpa using hm'.2,o,ho,fun e hee hb=>by
      have hei:=he e hee hb
      cases hle:listed.getD e.on false with
      | true=>rfl
      | false=>
       exfalso;have hmem:e.on∈unl ops.size listed:=by
        refine List.mem_filter.2 ⟨by simp;omega,?_⟩;rw[Array.getD_eq_getD_getElem?] at hle |-;have:e.on<listed.size:=by omega
        simp[this] at hle |-;exact hle
       rw[hu] at hmem;rcases List.mem_cons.1 hmem with e1 | e1
       ·omega
       ·have:=(List.pairwise_cons.1 hp).1 _ e1;omega⟩
     rw[hnil] at this;cases this
   rw[this] at h;simpa using h
  | some i=>
   simp only[];have hr:i∈Region.ready .any ops listed:=List.mem_of_getElem? hi;obtain ⟨h1,h2,o,ho,h3⟩:=mem_ready.1 hr;have hm:i∈unl ops.size listed:=List.mem_filter.2 ⟨by simpa using h1,by simpa using h2⟩;obtain ⟨c1,c2,he,hlt,he2⟩:=qow hm hsz;rw[linearise_go_acc,List.reverse_singleton,List.singleton_append];have hfront:qa4 P F ev L n ops (i::(c1++c2)) x=some y:=by
    have e3:c1++i::c2=(c1++[i])++c2:=by simp
    rw[he,e3,qg8,Option.bind_eq_some_iff] at h;obtain ⟨z,hz,h⟩:=h
    have hz':=qil ho c1 x z (fun j hj=>by
     obtain ⟨hji,hjl⟩:=hlt j hj;obtain ⟨o',ho',_,hall⟩:=qqd hd h1;rw[ho] at ho';cases ho';obtain ⟨oj,hoj,hk⟩:=hall j hji;rcases hk with hk | hk
     ·exact ⟨oj,hoj,hk⟩
     ·have:=qfs hsz hc 12 i j o ho h3 hk;exfalso;rw[Array.getD_eq_getD_getElem?] at this hjl;have hjs:j<listed.size:=by omega
      simp[hjs] at this hjl
      rw[this] at hjl;cases hjl) hz
    have e4:i::(c1++c2)=(i::c1)++c2:=by simp
    rw[e4,qg8,hz'];exact h
   simp only[qa4] at hfront |-;rw[Option.bind_eq_some_iff] at hfront |-;obtain ⟨z,hz,hfront⟩:=hfront;refine ⟨z,hz,qof hd fuel _ _ z y (by simpa using hsz) (hc.set hsz hr) ?_ (by rw[he2];exact hfront)⟩;have:=congrArg List.length he;rw[he2];simp at this |-;omega
def qpc (P:Program) (F:FuncId->Bool) (ev:Req->Option Res) (n:Nat) (ops:Array Oper):List Nat->T Value × AHeap->Option ((T Value × AHeap) × List Nat × List (AHeap × AHeap))
 | [],x=>some (x,[],[])
 | i::l,x=>match ops[i]?,qa7 P F ev n ops i x with
  | some o,some x1=>match qpc P F ev n ops l x1 with
   | some (y,bs,hs)=>some (y,
     (if qbz o.op then (match qaj ops o x.1 with | some true=>(qc7 (qan x.1) o).toList | _=>[]) else [])++bs,
     if qb0 P o.op || qbz o.op then hs else (x.2,x1.2)::hs)
   | none=>none
  | _,_=>none
def qrg (P:Program) (F:FuncId->Bool) (ev:Req->Option Res) (n:Nat) (ops:Array Oper) (x:T Value × AHeap):Option (T Value × AHeap):=
 if qng P ops then
  match qpc P F ev n ops (List.range ops.size) x with
  | some (y,bs,hs)=>if bs.all fun b=>hs.all fun h=>qlc h.1 h.2 b then some y else none
  | none=>none
 else none
theorem qlj {L:List Nat}:∀ (l:List Nat) (x y:T Value × AHeap) (bs:List Nat) (hs:List (AHeap × AHeap)),qpc P F ev n ops l x=some (y,bs,hs)->(∀ b∈bs,b∈L)->(∀ h∈hs,∀ b∈L,qlc h.1 h.2 b=true) ->
  qa4 P F ev L n ops l x=some y
 | [],x,y,bs,hs,h,_,_=>by simp only[qpc,Option.some.injEq,Prod.mk.injEq] at h;simp only[qa4];rw[h.1]
 | i::l,x,y,bs,hs,h,hb,hh=>by
  simp only[qpc] at h;split at h
  ·rename_i o x1 ho hx;split at h
   ·rename_i y' bs' hs' hcol;simp only[Option.some.injEq,Prod.mk.injEq] at h;obtain ⟨rfl,rfl,rfl⟩:=h;have hh':∀ h∈hs',∀ b∈L,qlc h.1 h.2 b=true:=by
     intro h hm;split at hh
     ·exact hh h hm
     ·exact hh h (List.mem_cons_of_mem _ hm)
    have ih:=qlj l x1 y' bs' hs' hcol (fun b hm=>hb b (List.mem_append_right _ hm)) hh';simp only[qa4];have hstep:qbs P F ev L n ops i x=some x1:=by
     unfold qa7 at hx;rw[ho] at hx;simp only at hx;rw[Option.bind_eq_some_iff] at hx;obtain ⟨⟨v,H1⟩,he,hx⟩:=hx;rw[Option.map_eq_some_iff] at hx;obtain ⟨E1,hp,rfl⟩:=hx;unfold qbs;rw[ho];simp only;have:qbd P F ev L ops o x.1 x.2=some (v,H1):=by
      unfold qbd;rw[he];simp only;by_cases hpu:qb0 P o.op=true
      ·simp[hpu]
      ·by_cases hr:qbz o.op=true
       ·simp only[hpu,hr,if_false,if_true,Bool.false_eq_true];split
        ·rename_i hw;split
         ·rename_i b hrb;have:b∈L:=hb b (List.mem_append_left _ (by rw[if_pos hr,hw];simp[hrb]));simp[this]
         ·rfl
        ·rfl
       ·simp only[hpu,hr,if_false,Bool.false_eq_true];rw[if_neg (by simp[hpu,hr])] at hh;rw[if_pos fun b hm=>quw (hh (x.2,H1) (List.mem_cons_self ..) b hm)]
     rw[this];simp[hp]
    rw[hstep];exact ih
   ·cases h
  ·cases h
theorem qmi (hm:P.follows .mixedOrders=true) (t:Nat) {x y:T Value × AHeap} (h:qrg P F ev n ops x=some y) :
  qfx P F ev n ops (Region.schedule (P.follows .mixedOrders) ops t) x=some y:=by
 unfold qrg at h;split at h
 ·rename_i hd;split at h
  ·rename_i y' bs hs hcol;split at h
   ·rename_i hall;cases h
    have hrun:qa4 P F ev bs n ops (List.range ops.size) x=some y:=qlj _ _ _ _ _ hcol (fun b hb=>hb) (fun h hm b hb=>by
     rw[List.all_eq_true] at hall
     exact (List.all_eq_true.1 (hall b hb)) h hm)
    simp only[Region.schedule,hm,Bool.true_or,if_true,Region.linearise];have hu:unl ops.size (Array.replicate ops.size false)=List.range ops.size:=by
     unfold unl;refine List.filter_eq_self.2 fun i hi=>?_
     have:i<ops.size:=by simpa using hi
     simp[this]
    refine qho _ _ _ (qof hd _ _ _ x y (by simp) (fun i o ho hl e he hb hi=>?_) (by rw[hu];simp) (by rw[hu];exact hrun));simp[hi] at hl
   ·cases h
  ·cases h
 ·cases h
theorem qla (hm:P.follows .mixedOrders=true) (t:Nat) {L:List Nat} {x y:T Value × AHeap} (hd:qng P ops=true) (h:qa4 P F ev L n ops (List.range ops.size) x=some y) :
  qfx P F ev n ops (Region.schedule (P.follows .mixedOrders) ops t) x=some y:=by
 simp only[Region.schedule,hm,Bool.true_or,if_true,Region.linearise];have hu:unl ops.size (Array.replicate ops.size false)=List.range ops.size:=by
  unfold unl;refine List.filter_eq_self.2 fun i hi=>?_
  have:i<ops.size:=by simpa using hi
  simp[this]
 refine qho _ _ _ (qof hd _ _ _ x y (by simp) (fun i o ho hl e he hb hi=>?_) (by rw[hu];simp) (by rw[hu];exact h));simp[hi] at hl
end
end Go.Ax
namespace Go.Px
open Ax
section
variable {ops:Array Oper} {X:Type} {stp:Nat->X->X->Prop} {eqv:X->X->Prop} {sw:Oper->Oper->Bool}
def Runs (stp:Nat->X->X->Prop):List Nat->X->X->Prop
 | [],x,y=>x=y
 | i::l,x,y=>∃ z,stp i x z/\Runs stp l z y
structure Sw (ops:Array Oper) (stp:Nat->X->X->Prop) (eqv:X->X->Prop) (sw:Oper->Oper->Bool):Prop where
 refl:∀ x,eqv x x
 trans:∀ x y z,eqv x y->eqv y z->eqv x z
 cong:∀ i x x' y,eqv x x'->stp i x y->∃ y',stp i x' y'/\eqv y y'
 swap:∀ i j oi oj x x1 x2,ops[i]?=some oi->ops[j]?=some oj->sw oj oi=true->stp j x x1->stp i x1 x2->∃ x3 x4,stp i x x3/\stp j x3 x4/\eqv x2 x4
theorem Runs.cong (h:Sw ops stp eqv sw):∀ {l:List Nat} {x x' y:X},eqv x x'->Runs stp l x y->∃ y',Runs stp l x' y'/\eqv y y'
 | [],x,x',y,he,hr=>by cases hr;exact ⟨x',rfl,he⟩
 | i::l,x,x',y,he,⟨z,h1,h2⟩=>by
  obtain ⟨z',h3,h4⟩:=h.cong i x x' z he h1;obtain ⟨y',h5,h6⟩:=Runs.cong h h4 h2;exact ⟨y',⟨z',h3,h5⟩,h6⟩
theorem Runs.append {l m:List Nat} {x y:X}:Runs stp (l++m) x y↔∃ z,Runs stp l x z/\Runs stp m z y:=by
 induction l generalizing x with
 | nil=>exact ⟨fun h=>⟨x,rfl,h⟩,fun ⟨z,h1,h2⟩=>by cases h1;exact h2⟩
 | cons i l ih=>
  constructor
  ·rintro ⟨z,h1,h2⟩;obtain ⟨u,h3,h4⟩:=ih.1 h2;exact ⟨u,⟨z,h1,h3⟩,h4⟩
  ·rintro ⟨u,⟨z,h1,h3⟩,h4⟩;exact ⟨z,h1,ih.2 ⟨u,h3,h4⟩⟩
theorem Runs.front (h:Sw ops stp eqv sw) {i:Nat} {oi:Oper} (hi:ops[i]?=some oi):∀ (l:List Nat) (x y:X),(∀ j∈l,∃ oj,ops[j]?=some oj/\sw oj oi=true)->Runs stp (l++[i]) x y->∃ y',Runs stp (i::l) x y'/\eqv y y'
 | [],x,y,_,hr=>⟨y,hr,h.refl y⟩
 | j::l,x,y,hl,⟨x1,h1,hr⟩=>by
  obtain ⟨y1,⟨x2,h2,h3⟩,e1⟩:=Runs.front h hi l x1 y (fun k hk=>hl k (List.mem_cons_of_mem _ hk)) hr;obtain ⟨oj,hj,hs⟩:=hl j (List.mem_cons_self ..);obtain ⟨x3,x4,h4,h5,e2⟩:=h.swap i j oi oj x x1 x2 hi hj hs h1 h2;obtain ⟨y2,h6,e3⟩:=Runs.cong h e2 h3;exact ⟨y2,⟨x3,h4,x4,h5,h6⟩,h.trans _ _ _ e1 e3⟩
def drawS (sw:Oper->Oper->Bool) (ops:Array Oper):Bool:=
 (List.range ops.size).all fun i=>match ops[i]? with
  | some oi=>(oi.after.toList.all fun e => !Region.binds .any e || decide (e.on<i)) &&
    (List.range i).all fun j=>match ops[j]? with
     | some oj=>sw oj oi || reach ops 12 i j
     | none=>false
  | none=>false
theorem qt4 (h:drawS sw ops=true) {i:Nat} (hi:i<ops.size):∃ o,ops[i]?=some o/\(∀ e∈o.after,Region.binds .any e=true->e.on<i)/\∀ j,j<i->∃ oj,ops[j]?=some oj/\(sw oj o=true\/reach ops 12 i j=true):=by
 unfold drawS at h;rw[List.all_eq_true] at h;have:=h i (by simpa using hi);have ho:ops[i]?=some ops[i]:=by simp[hi]
 rw[ho] at this;simp only[Bool.and_eq_true,List.all_eq_true] at this;refine ⟨_,ho,fun e he hb=>?_,fun j hj=>?_⟩
 ·have:=this.1 e (by simpa using he);simpa [hb] using this
 ·have:=this.2 j (by simpa using hj)
  cases hoj:ops[j]? with
  | none=>rw[hoj] at this;cases this
  | some oj=>rw[hoj] at this;exact ⟨oj,rfl,by simpa using this⟩
theorem qp0 (hsw:Sw ops stp eqv sw) (hd:drawS sw ops=true):∀ (fuel t:Nat) (listed:Array Bool) (x y:X),listed.size=ops.size->Closed ops listed->(unl ops.size listed).length<=fuel ->
  Runs stp (unl ops.size listed) x y->∃ y',Runs stp (Region.linearise.go .any ops fuel t listed []) x y'/\eqv y y'
 | 0,t,listed,x,y,hsz,hc,hf,h=>by
  have:unl ops.size listed=[]:=List.eq_nil_of_length_eq_zero (by omega);rw[this] at h;exact ⟨y,by simpa [Region.linearise.go] using h,hsw.refl y⟩
 | fuel+1,t,listed,x,y,hsz,hc,hf,h=>by
  simp only[Region.linearise.go]
  change ∃ y',Runs stp (match (Region.ready .any ops listed)[t % (Region.ready .any ops listed).length]? with
   | some i=>Region.linearise.go .any ops fuel (t / (Region.ready .any ops listed).length) (listed.setIfInBounds i true) [i]
   | none=>[].reverse) x y'/\eqv y y'
  cases hi:(Region.ready .any ops listed)[t % (Region.ready .any ops listed).length]? with
  | none=>
   have hnil:Region.ready .any ops listed=[]:=by
    cases hr:Region.ready .any ops listed with
    | nil=>rfl
    | cons x xs=>
     rw[hr] at hi;have hlt:t % (x::xs).length<(x::xs).length:=Nat.mod_lt _ (by simp);simp at hi;simp at hlt;omega
   have:unl ops.size listed=[]:=by
    cases hu:unl ops.size listed with
    | nil=>rfl
    | cons i l=>
     exfalso;have hm:i∈unl ops.size listed:=by rw[hu];exact List.mem_cons_self ..
     have hm':=List.mem_filter.1 hm;have hlt:i<ops.size:=by simpa using hm'.1
     obtain ⟨o,ho,he,_⟩:=qt4 hd hlt;have hp:(unl ops.size listed).Pairwise (·<·):=(List.pairwise_lt_range).filter _;rw[hu] at hp
     have:i∈Region.ready .any ops listed:=Ax.mem_ready.2 ⟨hlt,by simpa using hm'.2,o,ho,fun e hee hb=>by
      have hei:=he e hee hb
      cases hle:listed.getD e.on false with
      | true=>rfl
      | false=>
       exfalso;have hmem:e.on∈unl ops.size listed:=by
        refine List.mem_filter.2 ⟨by simp;omega,?_⟩;rw[Array.getD_eq_getD_getElem?] at hle |-;have:e.on<listed.size:=by omega
        simp[this] at hle |-;exact hle
       rw[hu] at hmem;rcases List.mem_cons.1 hmem with e1 | e1
       ·omega
       ·have:=(List.pairwise_cons.1 hp).1 _ e1;omega⟩
     rw[hnil] at this;cases this
   rw[this] at h;exact ⟨y,by simpa using h,hsw.refl y⟩
  | some i=>
   simp only[];have hr:i∈Region.ready .any ops listed:=List.mem_of_getElem? hi;obtain ⟨h1,h2,o,ho,h3⟩:=Ax.mem_ready.1 hr;have hm:i∈unl ops.size listed:=List.mem_filter.2 ⟨by simpa using h1,by simpa using h2⟩;obtain ⟨c1,c2,he,hlt,he2⟩:=qow hm hsz;rw[linearise_go_acc,List.reverse_singleton,List.singleton_append];have hfront:∃ y',Runs stp (i::(c1++c2)) x y'/\eqv y y':=by
    have e3:c1++i::c2=(c1++[i])++c2:=by simp
    rw[he,e3,Runs.append] at h;obtain ⟨z,hz,h⟩:=h
    obtain ⟨z',hz',ez⟩:=Runs.front hsw ho c1 x z (fun j hj=>by
     obtain ⟨hji,hjl⟩:=hlt j hj;obtain ⟨o',ho',_,hall⟩:=qt4 hd h1;rw[ho] at ho';cases ho';obtain ⟨oj,hoj,hk⟩:=hall j hji;rcases hk with hk | hk
     ·exact ⟨oj,hoj,hk⟩
     ·have:=qfs hsz hc 12 i j o ho h3 hk;exfalso;rw[Array.getD_eq_getD_getElem?] at this hjl;have hjs:j<listed.size:=by omega
      simp[hjs] at this hjl
      rw[this] at hjl;cases hjl) hz
    have e4:i::(c1++c2)=(i::c1)++c2:=by simp
    obtain ⟨y',hy',ey⟩:=Runs.cong hsw ez h;exact ⟨y',by rw[e4,Runs.append];exact ⟨z',hz',hy'⟩,ey⟩
   obtain ⟨y1,⟨z,hz,hfront⟩,e1⟩:=hfront;have hle:(unl ops.size (listed.setIfInBounds i true)).length<=fuel:=by
    have:=congrArg List.length he;rw[he2];simp at this |-;omega
   obtain ⟨y2,hy2,e2⟩:=qp0 hsw hd fuel (t / (Region.ready .any ops listed).length) _ z y1 (by simpa using hsz) (hc.set hsz hr) hle (by rw[he2];exact hfront);exact ⟨y2,⟨z,hz,hy2⟩,hsw.trans _ _ _ e1 e2⟩
theorem schedule_soundS {P:Program} (hm:P.follows .mixedOrders=true) (hsw:Sw ops stp eqv sw) (t:Nat) {x y:X} (hd:drawS sw ops=true) (h:Runs stp (List.range ops.size) x y) :
  ∃ y',Runs stp (Region.schedule (P.follows .mixedOrders) ops t) x y'/\eqv y y':=by
 simp only[Region.schedule,hm,Bool.true_or,if_true,Region.linearise];have hu:unl ops.size (Array.replicate ops.size false)=List.range ops.size:=by
  unfold unl;refine List.filter_eq_self.2 fun i hi=>?_
  have:i<ops.size:=by simpa using hi
  simp[this]
 refine qp0 hsw hd _ _ _ x y (by simp) (fun i o ho hl e he hb hi=>?_) (by rw[hu];simp) (by rw[hu];exact h);simp[hi] at hl
end
end Go.Px
namespace Go.Ax
section
variable {P:Program} {F:FuncId->Bool} {ev:Req->Option Res} {ops:Array Oper} {n:Nat}
def qmv (P:Program) (o:Oper):Bool:=qb0 P o.op || qbz o.op
def qf5:Op->Bool
 | .slice _ _ _ _ _=>true
 | _=>false
def q1k:Option Value->Bool
 | some (.slice (some _) _ cap)=>decide (cap≠qai)
 | some (.slice none _ _)=>true
 | some (.string _)=>true
 | _=>false
def qrx (ρ:Operand->Option Value) (o:Oper):Bool:=match o.op with
 | .slice _ x _ _ _=>q1k (ρ x)
 | _=>true
def swP (P:Program) (ops:Array Oper) (x y:Oper):Bool:=x.apart ops y&&(qb0 P x.op || qb0 P y.op || (qmv P x&&qmv P y) || qf5 x.op || qf5 y.op)
def qli (P:Program) (F:FuncId->Bool) (ev:Req->Option Res) (n:Nat) (ops:Array Oper):List Nat->T Value × AHeap->Option (T Value × AHeap)
 | [],x=>some x
 | i::l,x=>match ops[i]? with
  | some o=>if qrx (qan x.1) o=true then (qa7 P F ev n ops i x).bind (qli P F ev n ops l) else none
  | none=>none
def qn6 (P:Program) (F:FuncId->Bool) (ev:Req->Option Res) (n:Nat) (ops:Array Oper) (x:T Value × AHeap):Option (T Value × AHeap):=
 match qrg P F ev n ops x with
 | some y=>some y
 | none=>match Px.drawS (swP P ops) ops with
  | true=>qli P F ev n ops (List.range ops.size) x
  | false=>none
theorem qe0 {o:Oper} {E:T Value} {H H':AHeap} {v:Value} (hs:qmv P o=true) (h:qba P F ev ops o E H=some (v,H')):H'=H:=by
 simp only[qmv,Bool.or_eq_true] at hs;rcases hs with hs | hs
 ·exact (qei hs h).1
 ·unfold qba at h
  cases hw:qaj ops o E with
  | none=>rw[hw] at h;cases h
  | some b=>
   rw[hw] at h
   cases b with
   | false=>cases h;rfl
   | true=>
    simp only at h
    cases ha:aOp P F (qan E) H o with
    | none=>rw[ha] at h;cases h
    | some r=>
     obtain ⟨r,H1⟩:=r;obtain ⟨v0,rfl,rfl⟩:=qhj hs ha;rw[ha] at h;cases h;rfl
theorem qly {o:Oper} {E E':T Value} (h:Agree ops o E E'):qrx (qan E) o=qrx (qan E') o:=by
 have he:∀ x∈o.op.operands,qan E x=qan E' x:=fun x hx=>h.eval hx
 obtain ⟨dst,op,type,pos,after,guard⟩:=o
 cases op <;> simp only[qrx]
 case slice t x lo hi mx=>rw[he x (by simp[Op.operands])]
theorem qsb {H H2:AHeap} {t:TypeId} {x:Value} {lo hi mx:Option Value} (h:q1k (some x)=true):qbv P H2 t x lo hi mx=qbv P H t x lo hi mx:=by
 cases x with
 | slice a len cap=>
  cases a with
  | none=>rfl
  | some a=>
   simp only[q1k,decide_eq_true_eq] at h;simp only[qbv,if_neg h]
 | string s=>rfl
 | _=>simp[q1k] at h
theorem qll {o:Oper} {E:T Value} {H H':AHeap} {v:Value} (hs:qf5 o.op=true) (hf:qrx (qan E) o=true) (h:qba P F ev ops o E H=some (v,H')):H'=H/\∀ H2,qba P F ev ops o E H2=some (v,H2):=by
 have hr:qmv P o=true:=by
  obtain ⟨dst,op,type,pos,after,guard⟩:=o
  cases op <;> simp_all [qf5,qmv,qbz]
 refine ⟨qe0 hr h,fun H2=>?_⟩;have e:=qe0 hr h;subst e;unfold qba at h |-
 cases hw:qaj ops o E with
 | none=>rw[hw] at h;cases h
 | some b=>
  rw[hw] at h
  cases b with
  | false=>cases h;rfl
  | true=>
   simp only at h |-;obtain ⟨dst,op,type,pos,after,guard⟩:=o
   cases op with
   | slice t x lo hi mx=>
    simp only[qrx] at hf;simp only[aOp] at h |-
    cases hx:qan E x with
    | none=>rw[hx] at h;simp at h
    | some vx=>
     rw[hx] at hf;rw[hx] at h
     cases hlo:aOpt (qan E) lo with
     | none=>rw[hlo] at h;simp at h
     | some l=>
      cases hhi:aOpt (qan E) hi with
      | none=>rw[hlo,hhi] at h;simp at h
      | some hh=>
       cases hmx:aOpt (qan E) mx with
       | none=>rw[hlo,hhi,hmx] at h;simp at h
       | some mm=>
        rw[hlo,hhi,hmx] at h;simp only[Option.bind_some] at h |-;rw[qsb (H:=H') hf]
        cases hs2:qbv P H' t vx l hh mm with
        | none=>rw[hs2] at h;simp at h
        | some r=>rw[hs2] at h;simp only[Option.map_some] at h |-;cases h;rfl
   | _=>simp[qf5] at hs
def StpB (P:Program) (F:FuncId->Bool) (ev:Req->Option Res) (n:Nat) (ops:Array Oper) (i:Nat) (x y:T Value × AHeap):Prop:=∃ o,ops[i]?=some o/\qrx (qan x.1) o=true/\qa7 P F ev n ops i x=some y
theorem qrh {i j:Nat} {oi oj:Oper} (hi:ops[i]?=some oi) (hj:ops[j]?=some oj) (hs:swP P ops oj oi=true) {x x1 x2:T Value × AHeap}
  (h1:StpB P F ev n ops j x x1) (h2:StpB P F ev n ops i x1 x2):∃ x3,StpB P F ev n ops i x x3/\StpB P F ev n ops j x3 x2:=by
 simp only[swP,Bool.and_eq_true,Bool.or_eq_true] at hs;obtain ⟨hap,hk⟩:=hs;obtain ⟨a1,a2,a3⟩:=Oper.apart_spec hap;obtain ⟨E,H⟩:=x;obtain ⟨oj',hj',fj,h1⟩:=h1;obtain ⟨oi',hi',fi,h2⟩:=h2;rw[hj] at hj';cases hj';rw[hi] at hi';cases hi';simp only[qa7,hi,hj] at h1 h2;rw[Option.bind_eq_some_iff] at h1;obtain ⟨⟨vj,Hj⟩,hej,h1⟩:=h1;rw[Option.map_eq_some_iff] at h1;obtain ⟨E1,hpj,rfl⟩:=h1;rw[Option.bind_eq_some_iff] at h2;obtain ⟨⟨vi,Hi⟩,hei,h2⟩:=h2;rw[Option.map_eq_some_iff] at h2;obtain ⟨E2,hpi,rfl⟩:=h2;simp only at hej hei hpj hpi fj fi;have agi:Agree ops oi E1 E:=fun d hd=>qkq hpj fun e=>a1 d e hd
 rw[qhp agi] at hei;rw[qly agi] at fi;obtain ⟨E3,hp3⟩:=qo7 hpi E;have agj:Agree ops oj E3 E:=fun d hd=>qkq hp3 fun e=>a3 d e hd
 have hfin:putE n oj.dst vj E3=some E2:=qo8 hpj hpi hp3 a2;have fin:∀ H3,qba P F ev ops oi E H=some (vi,H3)->qba P F ev ops oj E H3=some (vj,Hi)->∃ x3,StpB P F ev n ops i (E,H) x3/\StpB P F ev n ops j x3 (E2,Hi):=by
  intro H3 k1 k2;refine ⟨(E3,H3),⟨oi,hi,fi,by simp only[qa7,hi,k1];simp[hp3]⟩,oj,hj,by rw[qly agj];exact fj,?_⟩;simp only[qa7,hj];rw[qhp agj,k2];simp[hfin]
 rcases hk with ((hk | hk) | hk) | hk
 ·rcases hk with hk | hk
  ·obtain ⟨e,hall⟩:=qei hk hej;subst e;exact fin Hi hei (hall Hi)
  ·obtain ⟨e,hall⟩:=qei hk hei;subst e;exact fin H (hall H) hej
 ·have e1:=qe0 hk.1 hej;subst e1;have e2:=qe0 hk.2 hei;subst e2;exact fin _ hei hej
 ·obtain ⟨e,hall⟩:=qll hk fj hej;subst e;exact fin Hi hei (hall Hi)
 ·obtain ⟨e,hall⟩:=qll hk fi hei;subst e;exact fin H (hall H) hej
theorem qs4:∀ {l:List Nat} {x y:T Value × AHeap},qli P F ev n ops l x=some y->Px.Runs (StpB P F ev n ops) l x y
 | [],x,y,h=>by simp only[qli,Option.some.injEq] at h;exact h
 | i::l,x,y,h=>by
  simp only[qli] at h;split at h
  ·rename_i o ho;split at h
   ·rename_i hf;rw[Option.bind_eq_some_iff] at h;obtain ⟨z,h1,h2⟩:=h;exact ⟨z,⟨o,ho,hf,h1⟩,qs4 h2⟩
   ·cases h
  ·cases h
theorem qs2:∀ {l:List Nat} {x y:T Value × AHeap},Px.Runs (StpB P F ev n ops) l x y->qfx P F ev n ops l x=some y
 | [],x,y,h=>by simp only[Px.Runs] at h;subst h;rfl
 | i::l,x,y,⟨z,⟨_,_,_,h1⟩,h2⟩=>by simp only[qfx,h1,Option.bind_some];exact qs2 h2
theorem q8p:Px.Sw ops (StpB P F ev n ops) Eq (swP P ops) where
 refl _:=rfl
 trans _ _ _ h k:=h.trans k
 cong i x x' y h e:=⟨y,h ▸ e,rfl⟩
 swap i j oi oj x x1 x2 hi hj hs h1 h2:=by
  obtain ⟨x3,h3,h4⟩:=qrh hi hj hs h1 h2;exact ⟨x3,x2,h3,h4,rfl⟩
theorem qlb (hm:P.follows .mixedOrders=true) (t:Nat) {x y:T Value × AHeap} (h:qn6 P F ev n ops x=some y) :
  qfx P F ev n ops (Region.schedule (P.follows .mixedOrders) ops t) x=some y:=by
 unfold qn6 at h;split at h
 ·rename_i y' hy;cases h;exact qmi hm t hy
 ·split at h
  ·rename_i hd;obtain ⟨y',h1,rfl⟩:=Px.schedule_soundS hm q8p t hd (qs4 h);exact qs2 h1
  ·cases h
end
def qb5:Nat->List Value->T Value->T Value
 | _,[],E=>E
 | k,v::l,E=>qb5 (k+1) l (T.set 20 E k v)
def qfr (P:Program) (E:T Value) (H:AHeap):ResultVar->Option Value
 | .tmp t=>E.get t
 | .cell a t=>match E.get a with
  | some p=>qgf P H t p
  | none=>none
def qew:List Value->Value
 | [v]=>v
 | vs=>.tuple vs.toArray
def qet (H:AHeap):List Nat->Option AHeap
 | []=>some H
 | d::ds=>match H.t.get d with
  | some (.deferred true)=>if idOK d then qet (H.put d (.deferred false)) ds else none
  | _=>none
def qeg:List Tmp->List Value->Nat->T Value->Option (T Value)
 | [],[],_,E=>some E
 | p::ps,v::vs,n,E=>(putE n (some p) v E).bind fun E=>qeg ps vs n E
 | _,_,_,_=>none
def qal:AExit->Option Code
 | .normal=>none
 | .exit id=>some (.exit id)
 | .goto l=>some (.goto l)
 | .ret=>some .ret
def qys:Option Code->Option AExit
 | none=>some .normal
 | some (.exit id)=>some (.exit id)
 | some (.goto l)=>some (.goto l)
 | some .ret=>some .ret
 | some _=>none
def qas (P:Program) (F:FuncId->Option Func) (ev:Req->Option Res) (fs:FrS) (c:Code) (s:AS):Option Res:=
 match c with
 | .skip=>some (.exit .normal s)
 | .label _=>some (.exit .normal s)
 | .seq a b=>match ev (.code fs a s) with
  | some (.exit .normal s1)=>ev (.code fs b s1)
  | r=>r
 | .cond c a b=>match qan s.env c with
  | some (.bool t)=>ev (.code fs (if t then a else b) s)
  | _=>none
 | .block id c=>match ev (.code fs c s) with
  | some (.exit (.exit id') s1)=>if id'=id then some (.exit .normal s1) else some (.exit (.exit id') s1)
  | r=>r
 | .loop c=>match ev (.code fs c s) with
  | some (.exit .normal s1)=>ev (.again fs c s1)
  | r=>r
 | .scope c=>ev (.scope fs c c s)
 | .exit id=>some (.exit (.exit id) s)
 | .goto l=>some (.exit (.goto l) s)
 | .ret=>some (.exit .ret s)
 | .region _ ops true=>(qn6 P (fun f=>(F f).isSome) ev fs.n ops (s.env,s.H)).map fun r=>.exit .normal { s with env:=r.1,H:=r.2 }
 | .region _ ops false=>(qfx P (fun f=>(F f).isSome) ev fs.n ops (List.range ops.size) (s.env,s.H)).map fun r=>.exit .normal { s with env:=r.1,H:=r.2 }
 | .rangeFunc f ps assign body=>
  match qan s.env f with
  | some (.func (.func g) first captured)=>
   if (F g).isSome then
    let start (d:Nat) (H1:AHeap) (defs:List Nat):Option Res:=
     if idOK H1.next then
      match ev (.call g (first++#[.func (.yield H1.next) #[] #[]]++captured) (H1.add (.loop { state:=.ready,pending:=none,fn:=fs.fn,tmps:=#[],params:=ps,assign,body,defers:=d } s.env fs.n))) with
      | some (.value _ H3)=>
       match H3.t.get H1.next with
       | some (.loop L E n)=>if L.state == .busy then none else
        match qys L.pending with
        | some e=>some (.exit e { s with defs:=defs,H:=H3.put H1.next (.loop { L with state:=.exhausted } E n) })
        | none=>none
       | _=>none
      | _=>none
     else none
    match fs.rd with
    | none=>if idOK s.H.next then start s.H.next (s.H.add (.deferred true)) (s.H.next::s.defs) else none
    | some l=>match s.H.t.get l with
     | some (.loop L _ _)=>start L.defers s.H s.defs
     | _=>none
   else none
  | _=>none
 | .refuse _=>none
def eval (P:Program) (F:FuncId->Option Func):Nat->Req->Option Res
 | 0,_=>none
 | k+1,.code fs c s=>qas P F (eval P F k) fs c s
 | k+1,.again fs c s=>match eval P F k (.code fs c s) with
  | some (.exit .normal s1)=>eval P F k (.again fs c s1)
  | r=>r
 | k+1,.scope fs body rest s=>match eval P F k (.code fs rest s) with
  | some (.exit (.goto l) s1)=>match findLabel body l with
   | some rest=>eval P F k (.scope fs body rest s1)
   | none=>some (.exit (.goto l) s1)
  | r=>r
 | k+1,.call f args H=>match F f with
  | some fn=>match fn.body with
   | some c=>if args.size<=fn.ntmps/\args.size<1000 then
     match eval P F k (.code ⟨f,none,fn.ntmps⟩ c ⟨qb5 0 args.toList .nil,[],H⟩) with
     | some (.exit e s)=>match e with
      | .normal | .ret=>(qet s.H s.defs).bind fun H2=>(qbl (fn.results.toList.map (qfr P s.env H2))).map fun vs=>.value (qew vs) H2
      | _=>none
     | _=>none
    else none
   | none=>none
  | none=>none
 | k+1,.round l args H=>match H.t.get l with
  | some (.loop L E n)=>
   if L.state == .ready/\args.size=L.params.size/\idOK l then
    match qeg L.params.toList args.toList n E with
    | some E1=>match eval P F k (.code ⟨L.fn,some l,n⟩ L.assign ⟨E1,[],H⟩) with
     | some (.exit .normal s1)=>match s1.H.t.get l with
      | some (.loop L1 E' n')=>if L1.state == .ready then
        match eval P F k (.code ⟨L.fn,some l,n⟩ L.body { s1 with H:=s1.H.put l (.loop { L1 with state:=.busy } E' n') }) with
        | some (.exit e s3)=>match s3.H.t.get l,s3.defs with
         | some (.loop L3 E3 n3),[]=>some (.value (.bool (qal e).isNone) (s3.H.put l (.loop { L3 with state:=if (qal e).isNone then .ready else .done,pending:=qal e } E3 n3)))
         | _,_=>none
        | _=>none
       else none
      | _=>none
     | _=>none
    | none=>none
   else none
  | _=>none
end Go.Ax
