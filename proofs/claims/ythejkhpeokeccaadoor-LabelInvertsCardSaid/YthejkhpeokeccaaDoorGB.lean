/-
  A part of the proof: a run over an abstract memory, its soundness and its rules; each theorem says its conditions.
-/
import Derived.Test.YthejkhpeokeccaaDoorGA
import Derived.Orders
set_option linter.unusedVariables false
set_option linter.unusedSimpArgs false
namespace Go.Ax
def qgd (P:Program) (s:TypeId):Bool:=match qaa P (underlying s) with
 | some (.int _)=>true
 | _=>false
def qzv (P:Program) (s d:TypeId) (a:Value):Option Value:=match qaa P (convert s d a) with
 | some v=>if flat a/\flat v then some v else none
 | none=>none
def qdj (P:Program) (H:AHeap) (b:Builtin) (ts:Array TypeId) (type:TypeId) (args:List Value):Option (ANext × AHeap):=
 match b,args with
 | .append,[s,x]=>(qbd P H ts s x).map fun r=>(.val r.1,r.2)
 | .copy,[s,x]=>(qq1 P H ts s x).map fun r=>(.val r.1,r.2)
 | .clear,[s]=>(qkj P H ts s).map fun r=>(.val r.1,r.2)
 | .len,args=>(aLen P ts type args.toArray).map fun v=>(.val v,H)
 | .min,args=>if qbo args then match qaa P (Builtin.min_ ts type args.toArray) with
  | some v=>if flat v then some (.val v,H) else none
  | none=>none else none
 | .max,args=>if qbo args then match qaa P (Builtin.max_ ts type args.toArray) with
  | some v=>if flat v then some (.val v,H) else none
  | none=>none else none
 | _,_=>none
def qki (F:FuncId->Bool) (H:AHeap) (f:Option Value) (args:List Value):Option (ANext × AHeap):=
 match f with
 | some (.func (.func g) first captured)=>if F g then some (.enter g (first++args.toArray++captured),H) else none
 | some (.func (.yield l) first _)=>some (.yld l (first++args.toArray),H)
 | _=>none
def qt4:TypeDesc->Bool
 | .pointer _=>true
 | _=>false
def qx5 (P:Program) (t:TypeId) (name:String):Option FuncId:=
 match qaa P (typeInfo t),qaa P (underlying t) with
 | some i,some d=>match i.methods.find? (·.name == name) with
  | some m=>match m.path.toList,m.func with
   | [],some (f,pr)=>if pr=qt4 d then some f else none
   | _,_=>none
  | none=>none
 | _,_=>none
def qgk (P:Program) (F:FuncId->Bool) (ρ:Operand->Option Value) (H:AHeap) (c:Call) (type:TypeId):Option (ANext × AHeap):=
 match c.callee with
 | .builtin b=>(qkq ρ c.args).bind fun args=>qdj P H b c.argTypes type args
 | .value f=>(qkq ρ c.args).bind fun args=>qki F H (ρ f) args
 | .invoke x name=>match ρ x with
  | some (.iface t v)=>match qx5 P t name with
   | some f=>(qkq ρ c.args).bind fun args=>qki F H (some (.func (.func f) #[v] #[])) args
   | none=>none
  | _=>none
def aOpt (ρ:Operand->Option Value):Option Operand->Option (Option Value)
 | none=>some none
 | some x=>match ρ x with
  | some v=>if flat v then some (some v) else none
  | none=>none
def aOp (P:Program) (F:FuncId->Bool) (ρ:Operand->Option Value) (H:AHeap) (o:Oper):Option (ANext × AHeap):=
 let v (r:Option Value):Option (ANext × AHeap):=r.map fun v=>(.val v,H)
 let vh (r:Option (Value × AHeap)):Option (ANext × AHeap):=r.map fun r=>(.val r.1,r.2)
 match o.op with
 | .move x | .assign x=>v (ρ x)
 | .pick c a b=>match ρ c with
  | some (.bool true)=>v (ρ a)
  | some (.bool false)=>v (ρ b)
  | _=>none
 | .alloc e=>vh (qq5 P H e)
 | .box e x=>(ρ x).bind fun x=>vh (aNew H e x.cells.toList)
 | .build t parts=>(qjb ρ parts).bind fun l=>v (qmm P t l.toArray)
 | .buildSlice t n parts=>(qjb ρ parts).bind fun l=>vh (qfg P H t n l.toArray)
 | .load t a=>(ρ a).bind fun a=>v (qgj P H t a)
 | .store t a x=>(ρ a).bind fun a=>(ρ x).bind fun x=>(qcx P H t a x).map fun H=>(.skip,H)
 | .nilCheck x=>match ρ x with
  | some (.pointer (some a))=>some (.val (.pointer (some a)),H)
  | some (.func (.func f) x y)=>some (.val (.func (.func f) x y),H)
  | _=>none
 | .binOp op t x y _=>(ρ x).bind fun a=>(ρ y).bind fun b=>v (aBin P op t x y a b)
 | .unOp op _ x=>(ρ x).bind fun a=>if flat a then match qaa P (Op.unary op a) with
  | some r=>if flat r then some (.val r,H) else none
  | none=>none else none
 | .convert s d x=>(ρ x).bind fun a=>if qgd P s then v (qzv P s d a) else vh (qci P H s d a)
 | .makeInterface t x=>(ρ x).bind fun a=>match qaa P (underlying t) with
  | some (.interface _)=>none
  | some _=>some (.val (.iface t a),H)
  | none=>none
 | .makeFunc fn first captured=>match fn with
  | .func f=>(qkq ρ first).bind fun x=>(qkq ρ captured).bind fun y=>some (.val (.func (.func f) x.toArray y.toArray),H)
  | _=>none
 | .makeSlice t l c=>(ρ l).bind fun l=>(ρ c).bind fun c=>vh (qg4 P H t l c)
 | .slice t x lo hi mx=>(ρ x).bind fun x=>(aOpt ρ lo).bind fun lo=>(aOpt ρ hi).bind fun hi=>(aOpt ρ mx).bind fun mx=>v (qby P H t x lo hi mx)
 | .fieldAddr s x f=>(ρ x).bind fun x=>v (qeu P s f x)
 | .field t x f=>(ρ x).bind fun x=>v (qq0 P t f x)
 | .indexAddr t x i=>(ρ x).bind fun x=>(ρ i).bind fun i=>v (qb2 P t x i)
 | .index t x i=>(ρ x).bind fun x=>(ρ i).bind fun i=>v (qnu P t x i)
 | .range t x=>(ρ x).bind fun x=>vh (qus P H t x)
 | .next it s=>(ρ it).bind fun x=>vh (qzu H s x)
 | .extract t i=>match ρ t with
  | some (.tuple vs)=>v vs[i]?
  | _=>none
 | .call c=>qgk P F ρ H c o.type
 | .makeMap t r=>(aOpt ρ r).bind fun r=>vh (qkz P H t r)
 | .lookup t x k ok=>(ρ x).bind fun x=>(ρ k).bind fun k=>v (qgi P H t x k ok)
 | .mapUpdate t m k x | .insert t m k x=>(ρ m).bind fun m=>(ρ k).bind fun k=>(ρ x).bind fun x=>(qc6 P H t m k x).map fun H=>(.skip,H)
 | _=>none
def OpSnd (P:Program) (base:Prot) (M:Map) (w:World) (s:Sem Next):ANext->AHeap->Prop
 | .val v,H'=>∃ M' w' r,s.run P w=.ok (.value r) w'/\Ext M M'/\VR M' v r/\Rel base M' H' w'/\Below base w w'
 | .skip,H'=>∃ w',s.run P w=.ok .skip w'/\Rel base M H' w'/\Below base w w'
 | .enter f args,H'=>∃ args',s.run P w=.ok (.enter f args') w/\VRA M args args'/\Rel base M H' w
 | .yld l args,H'=>∃ b args',M[l]?=some b/\VRA M args args'/\Rel base M H' w/\s.run P w=(Instr.yield b.real args').run P w
section
variable {P:Program} {base:Prot} {M:Map} {H H':AHeap} {w:World}
theorem OpSnd.of_snd {s:Sem Value} {v:Value} (h:Snd P base M w s v H') {t:Sem Next} (ht:t=(do pure (.value (<- s)))):OpSnd P base M w t (.val v) H':=by
 obtain ⟨M',w',r,hr,rest⟩:=h;exact ⟨M',w',r,by rw[ht];simp[hr],rest⟩
theorem VRL.toArray {l r:List Value} (h:VRL M l r):VRA M l.toArray r.toArray:=VRA.iff.2 (by simpa using h)
theorem qg2 {ρ:Operand->Option Value} {ρ':Operand->Value} (hρ:∀ x v,ρ x=some v->VR M v (ρ' x)) {x:Option Operand} {v:Option Value} (h:aOpt ρ x=some v):x.map ρ'=v:=by
 cases x with
 | none=>simp only[aOpt,Option.some.injEq] at h;subst h;rfl
 | some x=>
  simp only[aOpt] at h;split at h
  ·rename_i v0 hv;split at h
   ·rename_i hf;cases h;rw[Option.map_some,(VR.flat_iff _ hf _).1 (hρ x v0 hv)]
   ·cases h
  ·cases h
theorem q65 {t:TypeId} {name:String} {f:FuncId} (h:qx5 P t name=some f) (k:Nat) (v:Value) (w:World):(method (k+1) t v name).run P w=.ok (f,v) w:=by
 unfold qx5 at h;split at h
 ·rename_i i d hi hd;split at h
  ·rename_i m hm;split at h
   ·rename_i f' pr hp hf;split at h
    ·rename_i hpr;cases h;unfold method;simp only[Sem.run_bind,qab hi,Result.andThen_ok,hm,hp,follow,Sem.run_pure,hf];unfold receiverAt;simp only[Sem.run_bind,qab hd,Result.andThen_ok]
     cases hpr':qt4 d with
     | true=>
      rw[hpr'] at hpr;subst hpr
      cases d <;> simp[qt4] at hpr' <;> simp[Place.get]
     | false=>
      rw[hpr'] at hpr;subst hpr
      cases d <;> simp[qt4] at hpr' <;> simp[Place.get]
    ·cases h
   ·cases h
  ·cases h
 ·cases h
theorem qsq (h:Rel base M H w) {F:FuncId->Bool} (hF:∀ f,F f=true->∀ args w,(callFunc f args).run P w=.ok (.enter f args) w) {ρ:Operand->Option Value} {ρ':Operand->Value} (hρ:∀ x v,ρ x=some v->VR M v (ρ' x))
  {c:Call} {type:TypeId} {n:ANext} (ha:qgk P F ρ H c type=some (n,H')):OpSnd P base M w (do let d <- resolve ρ' c type;invoke d.target d.args) n H':=by
 unfold qgk at ha;split at ha
 ·rename_i b hc;rw[Option.bind_eq_some_iff] at ha;obtain ⟨args,hargs,ha⟩:=ha;have hal:=qdz hρ hargs;unfold qdj at ha;split at ha
  ·rename_i s x;rw[Option.map_eq_some_iff] at ha;obtain ⟨⟨v,H2⟩,hr,he⟩:=ha;cases he;refine OpSnd.of_snd (qea (P:=P) (t:=type) h hr hal) ?_;simp[resolve,hc,invoke,builtin]
  ·rename_i s x;rw[Option.map_eq_some_iff] at ha;obtain ⟨⟨v,H2⟩,hr,he⟩:=ha;cases he;refine OpSnd.of_snd (qer (P:=P) (t:=type) h hr hal) ?_;simp[resolve,hc,invoke,builtin]
  ·rename_i s;rw[Option.map_eq_some_iff] at ha;obtain ⟨⟨v,H2⟩,hr,he⟩:=ha;cases he;refine OpSnd.of_snd (qdx (P:=P) (t:=type) h hr hal) ?_;simp[resolve,hc,invoke,builtin]
  ·rw[Option.map_eq_some_iff] at ha;obtain ⟨v,hr,he⟩:=ha;cases he;refine OpSnd.of_snd (qyt (P:=P) (t:=type) (args':=c.args.map ρ') h hr (by simpa using hal)) ?_;simp[resolve,hc,invoke,builtin]
  ·split at ha
   ·rename_i hf;split at ha
    ·rename_i v0 hv0;split at ha
     ·rename_i hfv;cases ha;have he:=(VRL.flat_iff _ hf _).1 hal;have he:c.args.map ρ'=args.toArray:=by rw[<- he,Array.toArray_toList]
      refine OpSnd.of_snd (s:=Builtin.min_ c.argTypes type args.toArray) (Snd.still h (qab hv0 w) (VR.self hfv)) ?_;simp[resolve,hc,invoke,builtin,he]
     ·cases ha
    ·cases ha
   ·cases ha
  ·split at ha
   ·rename_i hf;split at ha
    ·rename_i v0 hv0;split at ha
     ·rename_i hfv;cases ha;have he:=(VRL.flat_iff _ hf _).1 hal;have he:c.args.map ρ'=args.toArray:=by rw[<- he,Array.toArray_toList]
      refine OpSnd.of_snd (s:=Builtin.max_ c.argTypes type args.toArray) (Snd.still h (qab hv0 w) (VR.self hfv)) ?_;simp[resolve,hc,invoke,builtin,he]
     ·cases ha
    ·cases ha
   ·cases ha
  ·cases ha
 ·rename_i f hc;rw[Option.bind_eq_some_iff] at ha;obtain ⟨args,hargs,ha⟩:=ha;have hal:=qdz hρ hargs;unfold qki at ha;split at ha
  ·rename_i g first captured hf;have hv:=hρ _ _ hf;simp only[VR] at hv;obtain ⟨fn',x',y',hfn,hx,hy,hv⟩:=hv;simp only[FnR] at hfn;subst hfn;split at ha
   ·rename_i hg;cases ha;refine ⟨x'++c.args.map ρ'++y',?_,?_,h⟩
    ·simp[resolve,hc,hv,Deferred.ofValue,invoke,hF g hg]
    ·rw[VRA.iff] at hx hy |-;simp only[Array.toList_append];exact (hx.append hal).append hy
   ·cases ha
  ·rename_i l first captured hf;cases ha;have hv:=hρ _ _ hf;simp only[VR] at hv;obtain ⟨fn',x',y',hfn,hx,hy,hv⟩:=hv;simp only[FnR] at hfn;obtain ⟨b,hb,rfl⟩:=hfn;refine ⟨b,x'++c.args.map ρ',hb,?_,h,?_⟩
   ·rw[VRA.iff] at hx |-;simp only[Array.toList_append];exact hx.append hal
   ·simp[resolve,hc,hv,Deferred.ofValue,invoke]
  ·cases ha
 ·rename_i x name hc;split at ha
  ·rename_i t v hx;split at ha
   ·rename_i f hm;rw[Option.bind_eq_some_iff] at ha;obtain ⟨args,hargs,ha⟩:=ha;have hal:=qdz hρ hargs;have hv:=hρ _ _ hx;simp only[VR] at hv;obtain ⟨v',hvr,hv⟩:=hv;simp only[qki] at ha;split at ha
    ·rename_i hg;cases ha;refine ⟨#[v']++c.args.map ρ',?_,?_,h⟩
     ·have hex:(#[Value.iface t v']++c.args.map ρ').extract 1 (#[Value.iface t v']++c.args.map ρ').size=c.args.map ρ':=by
       apply Array.ext';simp only[Array.toList_extract,Array.toList_append,List.extract_eq_take_drop];simp;exact List.take_of_length_le (by simp)
      obtain ⟨k,hk⟩:∃ k,P.types.size+Made.depth=k+1:=⟨P.types.size+(Made.depth-1),by
       have h9:Made.depth=(Made.depth-1)+1:=by decide
       omega⟩
      simp only[resolve,hc,hv,invoke,Sem.run_bind,Sem.run_pure,Result.andThen_ok];have h0:(#[Value.iface t v']++c.args.map ρ')[0]?=some (.iface t v'):=by
       rw[<- Array.getElem?_toList,Array.toList_append];rfl
      rw[h0];simp only[hex,callMethod,Sem.run_bind];have hpg:(program:Sem Program).run P w=.ok P w:=rfl;simp only[hpg,Result.andThen_ok,hk,q65 hm,hF f hg]
     ·rw[VRA.iff] at *;have:=VRL.cons hvr hal;simpa using this
    ·cases ha
   ·cases ha
  ·cases ha
end
section
variable {P:Program} {base:Prot} {M:Map} {H H':AHeap} {w:World}
set_option maxHeartbeats 4000000 in
theorem qgh (h:Rel base M H w) {F:FuncId->Bool} (hF:∀ f,F f=true->∀ args w,(callFunc f args).run P w=.ok (.enter f args) w) {ρ:Operand->Option Value} {ρ':Operand->Value} (hρ:∀ x v,ρ x=some v->VR M v (ρ' x))
  {o:Oper} {n:ANext} (ha:aOp P F ρ H o=some (n,H')):OpSnd P base M w (execOp ρ' o) n H':=by
 obtain ⟨dst,op,type,pos,after,guard⟩:=o;have mv:∀ {v:Option Value},(v.map fun v=>(ANext.val v,H))=some (n,H')->∃ x,v=some x/\n=.val x/\H'=H:=by
  intro v hv;rw[Option.map_eq_some_iff] at hv;obtain ⟨x,hx,he⟩:=hv
  cases he;exact ⟨x,hx,rfl,rfl⟩
 have mh:∀ {r:Option (Value × AHeap)},(r.map fun r=>(ANext.val r.1,r.2))=some (n,H')->∃ x,r=some (x,H')/\n=.val x:=by
  intro r hr;rw[Option.map_eq_some_iff] at hr;obtain ⟨⟨x,H2⟩,hx,he⟩:=hr
  cases he;exact ⟨x,hx,rfl⟩
 cases op <;> simp only[aOp] at ha
 case move x=>
  obtain ⟨v,hv,rfl,rfl⟩:=mv ha;exact ⟨M,w,_,rfl,Ext.refl M,hρ _ _ hv,h,Below.refl _ _⟩
 case assign x=>
  obtain ⟨v,hv,rfl,rfl⟩:=mv ha;exact ⟨M,w,_,rfl,Ext.refl M,hρ _ _ hv,h,Below.refl _ _⟩
 case pick c a b=>
  split at ha
  ·rename_i hc;obtain ⟨v,hv,rfl,rfl⟩:=mv ha;have hc':=hρ _ _ hc;simp only[VR] at hc';exact ⟨M,w,_,by simp[execOp,hc',asBool],Ext.refl M,hρ _ _ hv,h,Below.refl _ _⟩
  ·rename_i hc;obtain ⟨v,hv,rfl,rfl⟩:=mv ha;have hc':=hρ _ _ hc;simp only[VR] at hc';exact ⟨M,w,_,by simp[execOp,hc',asBool],Ext.refl M,hρ _ _ hv,h,Below.refl _ _⟩
  ·cases ha
 case alloc e=>
  obtain ⟨v,hv,rfl⟩:=mh ha;exact OpSnd.of_snd (qso h hv) rfl
 case box e x=>
  rw[Option.bind_eq_some_iff] at ha;obtain ⟨vx,hx,ha⟩:=ha;obtain ⟨v,hv,rfl⟩:=mh ha;exact OpSnd.of_snd (qzp h hv (hρ _ _ hx)) rfl
 case build t parts=>
  rw[Option.bind_eq_some_iff] at ha;obtain ⟨l,hl,ha⟩:=ha;obtain ⟨v,hv,rfl,rfl⟩:=mv ha;exact OpSnd.of_snd (qsl (parts':=parts.map fun (i,x)=>(i,ρ' x)) h hv (by simpa using qke hρ hl)) rfl
 case buildSlice t k parts=>
  rw[Option.bind_eq_some_iff] at ha;obtain ⟨l,hl,ha⟩:=ha;obtain ⟨v,hv,rfl⟩:=mh ha;exact OpSnd.of_snd (qko (parts':=parts.map fun (i,x)=>(i,ρ' x)) h hv (by simpa using qke hρ hl)) rfl
 case load t a=>
  rw[Option.bind_eq_some_iff] at ha;obtain ⟨va,hva,ha⟩:=ha;obtain ⟨v,hv,rfl,rfl⟩:=mv ha;exact OpSnd.of_snd (qgx h hv (hρ _ _ hva)) rfl
 case store t a x=>
  rw[Option.bind_eq_some_iff] at ha;obtain ⟨va,hva,ha⟩:=ha;rw[Option.bind_eq_some_iff] at ha;obtain ⟨vx,hvx,ha⟩:=ha;rw[Option.map_eq_some_iff] at ha;obtain ⟨H2,hs,he⟩:=ha;cases he;obtain ⟨w',hr,hrel,hb⟩:=qdm h hs (hρ _ _ hva) (hρ _ _ hvx);exact ⟨w',by simp[execOp,hr],hrel,hb⟩
 case nilCheck x=>
  split at ha
  ·rename_i a hx;cases ha;have hv:=hρ _ _ hx;have hv':=hv;simp only[VR] at hv';obtain ⟨b,hb,e⟩:=hv';exact ⟨M,w,_,by simp only[execOp,e];rfl,Ext.refl M,by rw[<- e];exact hv,h,Below.refl _ _⟩
  ·rename_i f a b hx;cases ha;have hv:=hρ _ _ hx;have hv':=hv;simp only[VR] at hv';obtain ⟨fn',x',y',hfn,_,_,e⟩:=hv';simp only[FnR] at hfn;subst hfn;exact ⟨M,w,_,by simp only[execOp,e];rfl,Ext.refl M,by rw[<- e];exact hv,h,Below.refl _ _⟩
  ·cases ha
 case binOp op t x y yt=>
  rw[Option.bind_eq_some_iff] at ha;obtain ⟨vx,hx,ha⟩:=ha;rw[Option.bind_eq_some_iff] at ha;obtain ⟨vy,hy,ha⟩:=ha;obtain ⟨v,hv,rfl,rfl⟩:=mv ha;exact OpSnd.of_snd (qzr h hv (hρ _ _ hx) (hρ _ _ hy)) rfl
 case unOp op t x=>
  rw[Option.bind_eq_some_iff] at ha;obtain ⟨vx,hx,ha⟩:=ha;split at ha
  ·rename_i hf;split at ha
   ·rename_i r hr;split at ha
    ·rename_i hfr;cases ha;have e:=(VR.flat_iff _ hf _).1 (hρ _ _ hx);refine OpSnd.of_snd (s:=Op.unary op (ρ' x)) ?_ rfl;rw[e];exact Snd.still h (qab hr w) (VR.self hfr)
    ·cases ha
   ·cases ha
  ·cases ha
 case convert s d x=>
  rw[Option.bind_eq_some_iff] at ha;obtain ⟨vx,hx,ha⟩:=ha;by_cases hi:qgd P s=true
  ·simp only[hi,if_true,Option.map_eq_some_iff] at ha;obtain ⟨v,hv,ha⟩:=ha;cases ha;unfold qzv at hv;split at hv
   ·rename_i r hr;split at hv
    ·rename_i hf;cases hv;refine OpSnd.of_snd (s:=convert s d (ρ' x)) ?_ rfl;rw[(VR.flat_iff _ hf.1 _).1 (hρ _ _ hx)];exact Snd.still h (qab hr w) (VR.self hf.2)
    ·cases hv
   ·cases hv
  ·simp only[hi,Bool.false_eq_true,if_false] at ha;obtain ⟨v,hv,rfl⟩:=mh ha;exact OpSnd.of_snd (qox h hv (hρ _ _ hx)) rfl
 case makeInterface t x=>
  rw[Option.bind_eq_some_iff] at ha;obtain ⟨vx,hx,ha⟩:=ha;split at ha
  ·cases ha
  ·rename_i d hni hd;cases ha;refine OpSnd.of_snd (s:=Instr.makeInterface t (ρ' x)) (Snd.still h (r:=.iface t (ρ' x)) ?_ (by simp only[VR];exact ⟨_,hρ _ _ hx,rfl⟩)) rfl;simp only[Instr.makeInterface,Sem.run_bind,qab hd,Result.andThen_ok];rfl
  ·cases ha
 case makeFunc fn first captured=>
  split at ha
  ·rename_i f;rw[Option.bind_eq_some_iff] at ha;obtain ⟨lx,hx,ha⟩:=ha;rw[Option.bind_eq_some_iff] at ha;obtain ⟨ly,hy,ha⟩:=ha;cases ha;refine OpSnd.of_snd (s:=Instr.makeFunc (.func f) (first.map ρ') (captured.map ρ')) (Snd.still h (r:=.func (.func f) (first.map ρ') (captured.map ρ')) rfl ?_) rfl;simp only[VR];exact ⟨_,_,_,rfl,VRA.iff.2 (by simpa using qdz hρ hx),VRA.iff.2 (by simpa using qdz hρ hy),rfl⟩
  ·cases ha
 case makeSlice t l c=>
  rw[Option.bind_eq_some_iff] at ha;obtain ⟨vx,hx,ha⟩:=ha;rw[Option.bind_eq_some_iff] at ha;obtain ⟨vy,hy,ha⟩:=ha;obtain ⟨v,hv,rfl⟩:=mh ha;exact OpSnd.of_snd (qlw h hv (hρ _ _ hx) (hρ _ _ hy)) rfl
 case slice t x lo hi mx=>
  rw[Option.bind_eq_some_iff] at ha;obtain ⟨vx,hx,ha⟩:=ha;rw[Option.bind_eq_some_iff] at ha;obtain ⟨vlo,hlo,ha⟩:=ha;rw[Option.bind_eq_some_iff] at ha;obtain ⟨vhi,hhi,ha⟩:=ha;rw[Option.bind_eq_some_iff] at ha;obtain ⟨vmx,hmx,ha⟩:=ha;obtain ⟨v,hv,rfl,rfl⟩:=mv ha;exact OpSnd.of_snd (qhi h hv (hρ _ _ hx) (qg2 hρ hlo) (qg2 hρ hhi) (qg2 hρ hmx)) rfl
 case fieldAddr s x f=>
  rw[Option.bind_eq_some_iff] at ha;obtain ⟨vx,hx,ha⟩:=ha;obtain ⟨v,hv,rfl,rfl⟩:=mv ha;exact OpSnd.of_snd (qma h hv (hρ _ _ hx)) rfl
 case field t x f=>
  rw[Option.bind_eq_some_iff] at ha;obtain ⟨vx,hx,ha⟩:=ha;obtain ⟨v,hv,rfl,rfl⟩:=mv ha;exact OpSnd.of_snd (qsb h hv (hρ _ _ hx)) rfl
 case indexAddr t x i=>
  rw[Option.bind_eq_some_iff] at ha;obtain ⟨vx,hx,ha⟩:=ha;rw[Option.bind_eq_some_iff] at ha;obtain ⟨vy,hy,ha⟩:=ha;obtain ⟨v,hv,rfl,rfl⟩:=mv ha;exact OpSnd.of_snd (qds h hv (hρ _ _ hx) (hρ _ _ hy)) rfl
 case index t x i=>
  rw[Option.bind_eq_some_iff] at ha;obtain ⟨vx,hx,ha⟩:=ha;rw[Option.bind_eq_some_iff] at ha;obtain ⟨vy,hy,ha⟩:=ha;obtain ⟨v,hv,rfl,rfl⟩:=mv ha;exact OpSnd.of_snd (qhy h hv (hρ _ _ hx) (hρ _ _ hy)) rfl
 case range t x=>
  rw[Option.bind_eq_some_iff] at ha;obtain ⟨vx,hx,ha⟩:=ha;obtain ⟨v,hv,rfl⟩:=mh ha;exact OpSnd.of_snd (qrl h hv (hρ _ _ hx)) rfl
 case next it s=>
  rw[Option.bind_eq_some_iff] at ha;obtain ⟨vx,hx,ha⟩:=ha;obtain ⟨v,hv,rfl⟩:=mh ha;exact OpSnd.of_snd (qvl (t:=type) h hv (hρ _ _ hx)) rfl
 case makeMap t r=>
  rw[Option.bind_eq_some_iff] at ha;obtain ⟨vr,hvr,ha⟩:=ha;obtain ⟨v,hv,rfl⟩:=mh ha;refine OpSnd.of_snd (qok h hv) ?_;rw[<- qg2 hρ hvr];rfl
 case lookup t x k ok=>
  rw[Option.bind_eq_some_iff] at ha;obtain ⟨vx,hvx,ha⟩:=ha;rw[Option.bind_eq_some_iff] at ha;obtain ⟨vk,hvk,ha⟩:=ha;obtain ⟨v,hv,rfl,rfl⟩:=mv ha;exact OpSnd.of_snd (qp4 h hv (hρ _ _ hvx) (hρ _ _ hvk)) rfl
 case mapUpdate t m k x=>
  rw[Option.bind_eq_some_iff] at ha;obtain ⟨vm,hvm,ha⟩:=ha;rw[Option.bind_eq_some_iff] at ha;obtain ⟨vk,hvk,ha⟩:=ha;rw[Option.bind_eq_some_iff] at ha;obtain ⟨vx,hvx,ha⟩:=ha;rw[Option.map_eq_some_iff] at ha;obtain ⟨H2,hH,he⟩:=ha;cases he;obtain ⟨w',hr,h1,h2⟩:=qf7 (P:=P) h hH (hρ _ _ hvm) (hρ _ _ hvk) (hρ _ _ hvx);exact ⟨w',by simp[execOp,hr],h1,h2⟩
 case insert t m k x=>
  rw[Option.bind_eq_some_iff] at ha;obtain ⟨vm,hvm,ha⟩:=ha;rw[Option.bind_eq_some_iff] at ha;obtain ⟨vk,hvk,ha⟩:=ha;rw[Option.bind_eq_some_iff] at ha;obtain ⟨vx,hvx,ha⟩:=ha;rw[Option.map_eq_some_iff] at ha;obtain ⟨H2,hH,he⟩:=ha;cases he;obtain ⟨w',hr,h1,h2⟩:=qf7 (P:=P) h hH (hρ _ _ hvm) (hρ _ _ hvk) (hρ _ _ hvx);exact ⟨w',by simp[execOp,hr],h1,h2⟩
 case extract t i=>
  split at ha
  ·rename_i vs ht;obtain ⟨v,hv,rfl,rfl⟩:=mv ha;have hv':=hρ _ _ ht;simp only[VR] at hv';obtain ⟨cs,hcs,e⟩:=hv';obtain ⟨r,hr,hvr⟩:=(VRA.iff.1 hcs).get i v (by simpa using hv);have hr:cs[i]?=some r:=by simpa using hr
   refine OpSnd.of_snd (s:=Instr.extract (ρ' t) i) (Snd.still h ?_ hvr) rfl;simp[Instr.extract,e,hr]
  ·cases ha
 case call c=>exact qsq h hF hρ ha
 all_goals cases ha
end
def Fr (b:Frame) (a:Act) (todo:List Item):Frame:={ fn:=b.fn,tmps:=a.tmps,todo,defers:=a.defers,mode:=.run,kind:=b.kind,roundOf:=b.roundOf }
theorem Fr.eval (b:Frame) (a:Act) (todo:List Item) (x:Operand):(Fr b a todo).eval x=a.eval x:=by cases x <;> rfl
theorem Fr.eval' (b:Frame) (a:Act) (todo:List Item):(Fr b a todo).eval=a.eval:=funext (Fr.eval b a todo)
section
variable {P:Program} {b:Frame} {a:Act} {k:List Item} {cs:List Frame} {w:World}
theorem qws:step P (lone (Fr b a (.code .skip::k)) cs w)=.next (lone (Fr b a k) cs w):=step_lone_go (by simp[stepG,stepG.exec,Fr])
theorem qs9 {l:Nat}:step P (lone (Fr b a (.code (.label l)::k)) cs w)=.next (lone (Fr b a k) cs w):=step_lone_go (by simp[stepG,stepG.exec,Fr])
theorem qm2 {id:Nat}:step P (lone (Fr b a (.inBlock id::k)) cs w)=.next (lone (Fr b a k) cs w):=step_lone_go (by simp[stepG,stepG.exec,Fr])
theorem qm1 {c:Code}:step P (lone (Fr b a (.inScope c::k)) cs w)=.next (lone (Fr b a k) cs w):=step_lone_go (by simp[stepG,stepG.exec,Fr])
theorem qs6 {x y:Code}:step P (lone (Fr b a (.code (.seq x y)::k)) cs w)=.next (lone (Fr b a (.code x::.code y::k)) cs w):=step_lone_go (by simp[stepG,stepG.exec,Fr])
theorem qwv {c:Operand} {x y:Code} {t:Bool} (h:a.eval c=.bool t):step P (lone (Fr b a (.code (.cond c x y)::k)) cs w)=.next (lone (Fr b a (.code (if t then x else y)::k)) cs w):=
 step_lone_go (by
  have:=Fr.eval b a (.code (.cond c x y)::k) c;simp only[Fr] at this
  simp[stepG,stepG.exec,Fr,this,h])
theorem qkr {id:Nat} {c:Code}:step P (lone (Fr b a (.code (.block id c)::k)) cs w)=.next (lone (Fr b a (.code c::.inBlock id::k)) cs w):=step_lone_go (by simp[stepG,stepG.exec,Fr])
theorem qs7 {c:Code}:step P (lone (Fr b a (.code (.scope c)::k)) cs w)=.next (lone (Fr b a (.code c::.inScope c::k)) cs w):=step_lone_go (by simp[stepG,stepG.exec,Fr])
theorem qn1 {c:Code}:step P (lone (Fr b a (.code (.loop c)::k)) cs w)=.next (lone (Fr b a (.code c::.inLoop c::k)) cs w):=step_lone_go (by simp[stepG,stepG.exec,Fr])
theorem qfo {c:Code}:step P (lone (Fr b a (.inLoop c::k)) cs w)=.next (lone (Fr b a (.code c::.inLoop c::k)) cs w):=step_lone_go (by simp[stepG,stepG.exec,Fr])
theorem qwu {id:Nat} {k':List Item} (h:exitTo id k=some k'):step P (lone (Fr b a (.code (.exit id)::k)) cs w)=.next (lone (Fr b a k') cs w):=step_lone_go (by simp[stepG,stepG.exec,Fr,h])
theorem qwt {l:Nat} {k':List Item} (h:gotoIn l k=some k'):step P (lone (Fr b a (.code (.goto l)::k)) cs w)=.next (lone (Fr b a k') cs w):=step_lone_go (by simp[stepG,stepG.exec,Fr,h])
theorem qk9 {id:Nat} {ops:Array Oper}:step P (lone (Fr b a (.code (.region id ops false)::k)) cs w)=.next (lone (Fr b a (.inRegion ops (List.range ops.size)::k)) cs w):=step_lone_go (by simp[stepG,stepG.exec,Fr])
theorem qec {id:Nat} {ops:Array Oper}:step P (lone (Fr b a (.code (.region id ops true)::k)) cs w) =
  .next (lone (Fr b a (.inRegion ops (Region.schedule (P.follows .mixedOrders) ops (w.tape w.drawn (.order b.fn id)))::k)) cs { w with drawn:=w.drawn+1 }):=
 step_lone_go (by simp[stepG,stepG.exec,Fr,choose,Sem.run,Question.forced,Question.cut])
theorem qdh {ops:Array Oper}:step P (lone (Fr b a (.inRegion ops []::k)) cs w)=.next (lone (Fr b a k) cs w):=step_lone_go (by simp[stepG,stepG.exec,Fr])
theorem Fr.finish {ops:Array Oper} {i:Nat} {rest:List Nat} (v:Value):(Fr b a (.inRegion ops (i::rest)::k)).finish v=Fr b (a.put ((ops[i]?).bind (·.dst)) v) (.inRegion ops rest::k):=by
 cases h:(ops[i]?).bind (·.dst) <;> simp[Frame.finish,Fr,Act.put,h]
theorem qu6 {ops:Array Oper} {i:Nat} {rest:List Nat} (h:((ops[i]?).map (Region.wanted · (yielded ops a.tmps))).getD false=false) :
  step P (lone (Fr b a (.inRegion ops (i::rest)::k)) cs w)=.next (lone (Fr b (a.put ((ops[i]?).bind (·.dst)) undef) (.inRegion ops rest::k)) cs w):=by
 rw[<- Fr.finish]
 exact step_lone_go (by
  have h':=h;simp only[Fr] at *
  simp[stepG,stepG.exec,h'])
theorem qh9 {ops:Array Oper} {i:Nat} {rest:List Nat} {o:Oper} (ho:ops[i]?=some o) (hw:Region.wanted o (yielded ops a.tmps)=true) (hd:∀ c,o.op≠.defer c) :
  stepG P true { frame:=Fr b a (.inRegion ops (i::rest)::k),callers:=cs,status:=.running,dying:=none } w =
   stepG.apply P true (Fr b a (.inRegion ops (i::rest)::k)) cs none (execOp a.eval o) w:=by
 have he:=Fr.eval' b a (.inRegion ops (i::rest)::k);simp only[Fr] at he;simp only[stepG,stepG.exec,Fr,ho,Option.map_some,Option.getD_some,hw,if_true,stepG.oper,Frame.oper?,he];split
 ·rename_i c _ hc;exact absurd hc (hd _)
 ·rfl
theorem st_op {ops:Array Oper} {i:Nat} {rest:List Nat} {o:Oper} {v:Value} {w':World} (ho:ops[i]?=some o) (hw:Region.wanted o (yielded ops a.tmps)=true) (hd:∀ c,o.op≠.defer c)
  (hr:(execOp a.eval o).run P w=.ok (.value v) w'):step P (lone (Fr b a (.inRegion ops (i::rest)::k)) cs w)=.next (lone (Fr b (a.put o.dst v) (.inRegion ops rest::k)) cs w'):=by
 have hf:(Fr b a (.inRegion ops (i::rest)::k)).finish v=Fr b (a.put o.dst v) (.inRegion ops rest::k):=by rw[Fr.finish,ho];rfl
 rw[<- hf];exact step_lone_go (by rw[qh9 ho hw hd];simp[stepG.apply,hr])
theorem qu5 {ops:Array Oper} {i:Nat} {rest:List Nat} {o:Oper} {w':World} (ho:ops[i]?=some o) (hw:Region.wanted o (yielded ops a.tmps)=true) (hd:∀ c,o.op≠.defer c)
  (hr:(execOp a.eval o).run P w=.ok .skip w'):step P (lone (Fr b a (.inRegion ops (i::rest)::k)) cs w)=.next (lone (Fr b (a.put o.dst undef) (.inRegion ops rest::k)) cs w'):=by
 have hf:(Fr b a (.inRegion ops (i::rest)::k)).finish undef=Fr b (a.put o.dst undef) (.inRegion ops rest::k):=by rw[Fr.finish,ho];rfl
 rw[<- hf];exact step_lone_go (by rw[qh9 ho hw hd];simp[stepG.apply,hr])
theorem qex {ops:Array Oper} {i:Nat} {rest:List Nat} {o:Oper} {f:FuncId} {args:Array Value} {w':World} (ho:ops[i]?=some o) (hw:Region.wanted o (yielded ops a.tmps)=true) (hd:∀ c,o.op≠.defer c)
  (hr:(execOp a.eval o).run P w=.ok (.enter f args) w'):step P (lone (Fr b a (.inRegion ops (i::rest)::k)) cs w)=.next (lone (Frame.enter P f args .normal) (Fr b a (.inRegion ops (i::rest)::k)::cs) w'):=
 step_lone_go (by rw[qh9 ho hw hd];simp[stepG.apply,hr,Fr])
theorem qla {ops:Array Oper} {i:Nat} {rest:List Nat} {o:Oper} {l f:Nat} {tmps:Array Value} {assign body:Code} {w':World} (ho:ops[i]?=some o) (hw:Region.wanted o (yielded ops a.tmps)=true) (hd:∀ c,o.op≠.defer c)
  (hr:(execOp a.eval o).run P w=.ok (.round l f tmps assign body) w'):step P (lone (Fr b a (.inRegion ops (i::rest)::k)) cs w)=.next (lone (Frame.round l f tmps assign body .normal) (Fr b a (.inRegion ops (i::rest)::k)::cs) w'):=
 step_lone_go (by rw[qh9 ho hw hd];simp[stepG.apply,hr,Fr])
theorem qta (hb:b.roundOf=none):step P (lone (Fr b a []) cs w)=.next (lone { Fr b a [] with mode:=.returning } cs w):=step_lone_go (by simp[stepG,stepG.exec,Fr,hb])
theorem qs8 (hb:b.roundOf=none):step P (lone (Fr b a (.code .ret::k)) cs w)=.next (lone { Fr b a (.code .ret::k) with mode:=.returning } cs w):=step_lone_go (by simp[stepG,stepG.exec,Fr,hb])
theorem qpe {r:Nat} {ds:List Deferred} {w':World} (hr:(Instr.takeDeferred r).run P w=.ok [] w') :
  step P (lone { Fr b { a with defers:={ target:=.collected r,args:=#[] }::ds } k with mode:=.returning } cs w)=.next (lone { Fr b { a with defers:=ds } k with mode:=.returning } cs w'):=
 step_lone_go (by simp[stepG,Fr,unwind,Sem.runT_eq,hr])
theorem qj0 {l:Nat} {c:Frame} {v:Value} {w':World} (hb:b.roundOf=some l) (hk:b.kind=.normal) (hr:(Instr.endRound l none).run P w=.ok v w') :
  step P (lone (Fr b a []) (c::cs) w)=.next (lone (c.finish v) cs w'):=step_lone_go (by simp[stepG,stepG.exec,Fr,hb,hk,Sem.runT_eq,hr,doReturn])
theorem qjz {l:Nat} {c:Frame} {v:Value} {w':World} (hb:b.roundOf=some l) (hk:b.kind=.normal) (hr:(Instr.endRound l (some .ret)).run P w=.ok v w') :
  step P (lone (Fr b a (.code .ret::k)) (c::cs) w)=.next (lone (c.finish v) cs w'):=step_lone_go (by simp[stepG,stepG.exec,Fr,hb,hk,Sem.runT_eq,hr,doReturn])
theorem qib {l id:Nat} {c:Frame} {v:Value} {w':World} (hb:b.roundOf=some l) (hk:b.kind=.normal) (he:exitTo id k=none) (hr:(Instr.endRound l (some (.exit id))).run P w=.ok v w') :
  step P (lone (Fr b a (.code (.exit id)::k)) (c::cs) w)=.next (lone (c.finish v) cs w'):=step_lone_go (by simp[stepG,stepG.exec,Fr,hb,hk,he,Sem.runT_eq,hr,doReturn])
theorem qia {l id:Nat} {c:Frame} {v:Value} {w':World} (hb:b.roundOf=some l) (hk:b.kind=.normal) (he:gotoIn id k=none) (hr:(Instr.endRound l (some (.goto id))).run P w=.ok v w') :
  step P (lone (Fr b a (.code (.goto id)::k)) (c::cs) w)=.next (lone (c.finish v) cs w'):=step_lone_go (by simp[stepG,stepG.exec,Fr,hb,hk,he,Sem.runT_eq,hr,doReturn])
theorem qic {l:Nat} {w':World} (hb:b.roundOf=some l) (hr:(Instr.beginRound l).run P w=.ok () w') :
  step P (lone (Fr b a (.beginRound::k)) cs w)=.next (lone (Fr b a k) cs w'):=step_lone_go (by simp[stepG,stepG.exec,stepG.apply,Fr,hb,Sem.runT_eq,hr,Frame.finish])
theorem qd2 {f:Operand} {ps:Array Tmp} {assign body:Code} {l:Nat} {mark:List Deferred} {w1:World} {g:FuncId} {first captured:Array Value}
  (hr:(Instr.enterLoop b.fn a.tmps ps assign body b.roundOf).run P w=.ok (l,mark) w1) (hf:a.eval f=.func (.func g) first captured)
  (hg:∀ args w,(callFunc g args).run P w=.ok (.enter g args) w) :
  step P (lone (Fr b a (.code (.rangeFunc f ps assign body)::k)) cs w) =
   .next (lone (Frame.enter P g (first++#[.func (.yield l) #[] #[]]++captured) .normal) (Fr b { a with defers:=mark++a.defers } (.inRangeFunc l::k)::cs) w1):=by
 have he:=Fr.eval b { a with defers:=mark++a.defers } (.inRangeFunc l::k) f;simp only[Fr] at he;have hf':({ a with defers:=mark++a.defers }:Act).eval f=.func (.func g) first captured:=by rw[<- hf];cases f <;> rfl
 rw[hf'] at he;have hx:∀ y,(Frame.eval { fn:=b.fn,tmps:=a.tmps,todo:=Item.inRangeFunc l::k,defers:=mark++a.defers,mode:=FrameMode.run,kind:=b.kind,roundOf:=b.roundOf } (.const y))=y:=fun _=>rfl
 exact step_lone_go (by simp[stepG,stepG.exec,stepG.apply,Fr,Sem.runT_eq,hr,resolve,he,hx,Deferred.ofValue,invoke,hg])
theorem qfp {l:Nat} {jump:Option Code} {w1:World} (hr:(Instr.endLoop l).run P w=.ok jump w1) :
  step P (lone (Fr b a (.endRangeFunc l::k)) cs w)=.next (lone (Fr b a ((jump.map Item.code).toList++k)) cs w1):=step_lone_go (by simp[stepG,stepG.exec,Fr,Sem.runT_eq,hr])
end
structure FrS where
 fn:FuncId
 rd:Option Nat
 n:Nat
structure AS where
 env:T Value
 defs:List Nat
 H:AHeap
inductive AExit where
 | normal
 | exit (id:Nat)
 | goto (l:Nat)
 | ret
inductive Req where
 | code (fs:FrS) (c:Code) (s:AS)
 | again (fs:FrS) (c:Code) (s:AS)
 | scope (fs:FrS) (body rest:Code) (s:AS)
 | call (f:FuncId) (args:Array Value) (H:AHeap)
 | round (l:Nat) (args:Array Value) (H:AHeap)
inductive Res where
 | exit (e:AExit) (s:AS)
 | value (v:Value) (H:AHeap)
def qan (E:T Value):Operand->Option Value
 | .tmp t=>E.get t
 | .const v=>if flat v then some v else none
 | .global g=>if g<qjn then some (.pointer (some ⟨g,0,none⟩)) else none
 | .func f=>some (.func (.func f) #[] #[])
def qi8 (ops:Array Oper) (E:T Value) (j:Nat):Option (Option Bool):=
 match (ops[j]?).bind (·.dst) with
 | some d=>match E.get d with
  | some (.bool b)=>some (some b)
  | some (.tuple _)=>some none
  | _=>none
 | none=>none
def qaj (ops:Array Oper) (o:Oper) (E:T Value):Option Bool:=
 match o.guard with
 | none=>some true
 | some (j,want)=>(qi8 ops E j).map fun y=>y == some want
def qbc (P:Program) (F:FuncId->Bool) (ev:Req->Option Res) (ops:Array Oper) (o:Oper) (E:T Value) (H:AHeap):Option (Value × AHeap):=
 match qaj ops o E with
 | none=>none
 | some false=>some (undef,H)
 | some true=>
  match aOp P F (qan E) H o with
  | none=>none
  | some (.val v,H')=>some (v,H')
  | some (.skip,H')=>some (undef,H')
  | some (.enter f args,H')=>match ev (.call f args H') with
   | some (.value v H2)=>some (v,H2)
   | _=>none
  | some (.yld l args,H')=>match ev (.round l args H') with
   | some (.value v H2)=>some (v,H2)
   | _=>none
def putE (n:Nat) (dst:Option Tmp) (v:Value) (E:T Value):Option (T Value):=
 match dst with
 | none=>some E
 | some d=>if d<n/\d<500000 then some (T.set 20 E d v) else none
def qa8 (P:Program) (F:FuncId->Bool) (ev:Req->Option Res) (n:Nat) (ops:Array Oper) (i:Nat) (x:T Value × AHeap):Option (T Value × AHeap):=
 match ops[i]? with
 | none=>none
 | some o=>(qbc P F ev ops o x.1 x.2).bind fun r=>(putE n o.dst r.1 x.1).map fun E=>(E,r.2)
def qf1 (P:Program) (F:FuncId->Bool) (ev:Req->Option Res) (n:Nat) (ops:Array Oper):List Nat->T Value × AHeap->Option (T Value × AHeap)
 | [],x=>some x
 | i::l,x=>(qa8 P F ev n ops i x).bind (qf1 P F ev n ops l)
def qb4 (P:Program):Op->Bool
 | .convert s _ _=>qgd P s
 | .move _ | .assign _ | .pick _ _ _ | .build _ _ | .nilCheck _ | .binOp _ _ _ _ _ | .unOp _ _ _ | .makeInterface _ _ | .makeFunc _ _ _ | .fieldAddr _ _ _ | .field _ _ _ | .indexAddr _ _ _ | .index _ _ _ | .extract _ _=>true
 | .call c=>match c.callee with
  | .builtin .len | .builtin .min | .builtin .max=>true
  | _=>false
 | _=>false
def qb3:Op->Bool
 | .load _ _ | .slice _ _ _ _ _=>true
 | _=>false
section
variable {P:Program} {F:FuncId->Bool} {ev:Req->Option Res} {ops:Array Oper} {n:Nat}
theorem qh3 {ρ ρ':Operand->Option Value} {xs:Array Operand} (h:∀ x∈xs,ρ x=ρ' x):qkq ρ xs=qkq ρ' xs:=by
 unfold qkq;rw[List.map_congr_left fun x hx=>h x (by simpa using hx)]
theorem qkf {ρ ρ':Operand->Option Value} {xs:Array (Nat × Operand)} (h:∀ p∈xs,ρ p.2=ρ' p.2):qjb ρ xs=qjb ρ' xs:=by
 unfold qjb;rw[List.map_congr_left fun p hp=>by rw[h p (by simpa using hp)]]
theorem qg3 {ρ ρ':Operand->Option Value} {x:Option Operand} (h:∀ y,x=some y->ρ y=ρ' y):aOpt ρ x=aOpt ρ' x:=by
 cases x with
 | none=>rfl
 | some y=>simp only[aOpt,h y rfl]
theorem qsr {ρ ρ':Operand->Option Value} {H:AHeap} {c:Call} {t:TypeId} (h:∀ x∈c.operands,ρ x=ρ' x):qgk P F ρ H c t=qgk P F ρ' H c t:=by
 unfold qgk;rw[qh3 (ρ:=ρ) (ρ':=ρ') fun x hx=>h x (by simp[Call.operands,hx])]
 cases hc:c.callee with
 | value f=>simp only;rw[h f (by simp[Call.operands,hc])]
 | invoke x name=>simp only;rw[h x (by simp[Call.operands,hc])]
 | _=>rfl
set_option maxHeartbeats 1000000 in
theorem qzt {ρ ρ':Operand->Option Value} {H:AHeap} {o:Oper} (h:∀ x∈o.op.operands,ρ x=ρ' x):aOp P F ρ H o=aOp P F ρ' H o:=by
 obtain ⟨dst,op,type,pos,after,guard⟩:=o
 cases op <;> simp only[Op.operands] at h <;> simp only[aOp]
 case build t ps=>rw[qkf fun p hp=>h p.2 (by simp;exact ⟨p.1,hp⟩)]
 case buildSlice t k ps=>rw[qkf fun p hp=>h p.2 (by simp;exact ⟨p.1,hp⟩)]
 case makeFunc fn x y=>rw[qh3 (xs:=x) fun z hz=>h z (by simp[hz]),qh3 (xs:=y) fun z hz=>h z (by simp[hz])]
 case call c=>exact qsr h
 case makeMap t r=>rw[qg3 (x:=r) fun y hy=>h y (by simp[hy])]
 case slice t x lo hi mx=>
  rw[h x (by simp),qg3 (x:=lo) fun y hy=>h y (by simp[hy]),qg3 (x:=hi) fun y hy=>h y (by simp[hy]),qg3 (x:=mx) fun y hy=>h y (by simp[hy])]
 all_goals (first | rfl | (simp_all;done))
theorem qrp {ρ:Operand->Option Value} {H H':AHeap} {o:Oper} {r:ANext} (hp:qb4 P o.op=true) (h:aOp P F ρ H o=some (r,H')):∃ v,r=.val v/\H'=H/\∀ H2,aOp P F ρ H2 o=some (.val v,H2):=by
 obtain ⟨dst,op,type,pos,after,guard⟩:=o;have mv:∀ {v:Option Value},(v.map fun v=>(ANext.val v,H))=some (r,H')->∃ x,v=some x/\r=.val x/\H'=H:=by
  intro v hv;rw[Option.map_eq_some_iff] at hv;obtain ⟨x,hx,he⟩:=hv
  cases he;exact ⟨x,hx,rfl,rfl⟩
 cases op <;> simp only[qb4] at hp <;> first | (cases hp;done) | skip
 all_goals simp only[aOp] at h |-
 case move x=>obtain ⟨v,hv,rfl,rfl⟩:=mv h;exact ⟨v,rfl,rfl,fun H2=>by rw[hv];rfl⟩
 case assign x=>obtain ⟨v,hv,rfl,rfl⟩:=mv h;exact ⟨v,rfl,rfl,fun H2=>by rw[hv];rfl⟩
 case pick c a b=>
  split at h
  ·rename_i hc;obtain ⟨v,hv,rfl,rfl⟩:=mv h;exact ⟨v,rfl,rfl,fun H2=>by rw[hv];rfl⟩
  ·rename_i hc;obtain ⟨v,hv,rfl,rfl⟩:=mv h;exact ⟨v,rfl,rfl,fun H2=>by rw[hv];rfl⟩
  ·cases h
 case build t ps=>
  rw[Option.bind_eq_some_iff] at h;obtain ⟨l,hl,h⟩:=h;obtain ⟨v,hv,rfl,rfl⟩:=mv h;exact ⟨v,rfl,rfl,fun H2=>by rw[hl];simp[hv]⟩
 case nilCheck x=>
  split at h
  ·rename_i hx;cases h;exact ⟨_,rfl,rfl,fun H2=>rfl⟩
  ·rename_i hx;cases h;exact ⟨_,rfl,rfl,fun H2=>rfl⟩
  ·cases h
 case binOp op t x y yt=>
  rw[Option.bind_eq_some_iff] at h;obtain ⟨a,ha,h⟩:=h;rw[Option.bind_eq_some_iff] at h;obtain ⟨b,hb,h⟩:=h;obtain ⟨v,hv,rfl,rfl⟩:=mv h;exact ⟨v,rfl,rfl,fun H2=>by rw[ha,hb];simp[hv]⟩
 case unOp op t x=>
  rw[Option.bind_eq_some_iff] at h;obtain ⟨a,ha,h⟩:=h;rw[ha];simp only[Option.bind_some];split at h
  ·rename_i hf;split at h
   ·rename_i v0 hv0;split at h
    ·rename_i hfv;cases h;exact ⟨v0,rfl,rfl,fun H2=>by simp[hf,hfv]⟩
    ·cases h
   ·cases h
  ·cases h
 case makeInterface t x=>
  rw[Option.bind_eq_some_iff] at h;obtain ⟨a,ha,h⟩:=h;rw[ha];simp only[Option.bind_some];split at h
  ·cases h
  ·rename_i d hni hd;cases h;exact ⟨_,rfl,rfl,fun H2=>rfl⟩
  ·cases h
 case convert s d x=>
  rw[Option.bind_eq_some_iff] at h;obtain ⟨a,ha,h⟩:=h;rw[if_pos hp] at h;obtain ⟨v,hv,rfl,rfl⟩:=mv h;exact ⟨v,rfl,rfl,fun H2=>by rw[ha];simp[hp,hv]⟩
 case makeFunc fn x y=>
  split at h
  ·rename_i f;rw[Option.bind_eq_some_iff] at h;obtain ⟨a,ha,h⟩:=h;rw[Option.bind_eq_some_iff] at h;obtain ⟨b,hb,h⟩:=h;cases h;exact ⟨_,rfl,rfl,fun H2=>by rw[ha,hb];rfl⟩
  ·cases h
 case fieldAddr t x f=>
  rw[Option.bind_eq_some_iff] at h;obtain ⟨a,ha,h⟩:=h;obtain ⟨v,hv,rfl,rfl⟩:=mv h;exact ⟨v,rfl,rfl,fun H2=>by rw[ha];simp[hv]⟩
 case field t x f=>
  rw[Option.bind_eq_some_iff] at h;obtain ⟨a,ha,h⟩:=h;obtain ⟨v,hv,rfl,rfl⟩:=mv h;exact ⟨v,rfl,rfl,fun H2=>by rw[ha];simp[hv]⟩
 case indexAddr t x y=>
  rw[Option.bind_eq_some_iff] at h;obtain ⟨a,ha,h⟩:=h;rw[Option.bind_eq_some_iff] at h;obtain ⟨b,hb,h⟩:=h;obtain ⟨v,hv,rfl,rfl⟩:=mv h;exact ⟨v,rfl,rfl,fun H2=>by rw[ha,hb];simp[hv]⟩
 case index t x y=>
  rw[Option.bind_eq_some_iff] at h;obtain ⟨a,ha,h⟩:=h;rw[Option.bind_eq_some_iff] at h;obtain ⟨b,hb,h⟩:=h;obtain ⟨v,hv,rfl,rfl⟩:=mv h;exact ⟨v,rfl,rfl,fun H2=>by rw[ha,hb];simp[hv]⟩
 case extract t i=>
  split at h
  ·rename_i vs ht;obtain ⟨v,hv,rfl,rfl⟩:=mv h;exact ⟨v,rfl,rfl,fun H2=>by simp[hv]⟩
  ·cases h
 case call c=>
  unfold qgk at h |-
  cases hc:c.callee with
  | value f=>rw[hc] at hp;cases hp
  | invoke x m=>rw[hc] at hp;cases hp
  | builtin b=>
   rw[hc] at hp h;simp only at h |-;rw[Option.bind_eq_some_iff] at h;obtain ⟨args,hargs,h⟩:=h;rw[hargs];simp only[Option.bind_some]
   cases b <;> simp only at hp <;> first | (cases hp;done) | skip
   all_goals simp only[qdj] at h |-
   ·obtain ⟨v,hv,rfl,rfl⟩:=mv h;exact ⟨v,rfl,rfl,fun H2=>by rw[hv];rfl⟩
   ·split at h
    ·rename_i hf;split at h
     ·rename_i v0 hv0;split at h
      ·rename_i hfv;cases h;exact ⟨v0,rfl,rfl,fun H2=>by simp[hf,hfv]⟩
      ·cases h
     ·cases h
    ·cases h
   ·split at h
    ·rename_i hf;split at h
     ·rename_i v0 hv0;split at h
      ·rename_i hfv;cases h;exact ⟨v0,rfl,rfl,fun H2=>by simp[hf,hfv]⟩
      ·cases h
     ·cases h
    ·cases h
theorem qhl {ρ:Operand->Option Value} {H H':AHeap} {o:Oper} {r:ANext} (hp:qb3 o.op=true) (h:aOp P F ρ H o=some (r,H')):∃ v,r=.val v/\H'=H:=by
 obtain ⟨dst,op,type,pos,after,guard⟩:=o;have mv:∀ {v:Option Value},(v.map fun v=>(ANext.val v,H))=some (r,H')->∃ x,v=some x/\r=.val x/\H'=H:=by
  intro v hv;rw[Option.map_eq_some_iff] at hv;obtain ⟨x,hx,he⟩:=hv
  cases he;exact ⟨x,hx,rfl,rfl⟩
 cases op <;> simp only[qb3] at hp <;> first | (cases hp;done) | skip
 all_goals simp only[aOp] at h
 case load t a=>
  rw[Option.bind_eq_some_iff] at h;obtain ⟨a,ha,h⟩:=h;obtain ⟨v,hv,rfl,rfl⟩:=mv h;exact ⟨v,rfl,rfl⟩
 case slice t x lo hi mx=>
  simp only[Option.bind_eq_some_iff] at h;obtain ⟨a,_,b,_,c,_,d,_,h⟩:=h;obtain ⟨v,hv,rfl,rfl⟩:=mv h;exact ⟨v,rfl,rfl⟩
end
mutual
def eqV:Value->Value->Bool
 | .bool a,.bool b=>a == b
 | .int k a,.int k' b=>decide (k=k')&&decide (a=b)
 | .string a,.string b=>decide (a.data.toList=b.data.toList)
 | .pointer a,.pointer b=>decide (a=b)
 | .slice a l c,.slice b l' c'=>decide (a=b)&&decide (l=l')&&decide (c=c')
 | .map a,.map b=>decide (a=b)
 | .func fn x y,.func fn' x' y'=>decide (fn=fn')&&eqA x x'&&eqA y y'
 | .nilFunc,.nilFunc=>true
 | .iface t v,.iface t' v'=>decide (t=t')&&eqV v v'
 | .nilIface,.nilIface=>true
 | .agg x,.agg y=>eqA x y
 | .tuple x,.tuple y=>eqA x y
 | _,_=>false
def eqA:Array Value->Array Value->Bool
 | ⟨l⟩,⟨l'⟩=>eqL l l'
def eqL:List Value->List Value->Bool
 | [],[]=>true
 | v::l,v'::l'=>eqV v v'&&eqL l l'
 | _,_=>false
end
mutual
theorem q4d:∀ (a b:Value),eqV a b=true->a=b
 | .bool a,b,h=>by cases b <;> simp[eqV] at h;subst h;rfl
 | .int k a,b,h=>by cases b <;> simp[eqV] at h;obtain ⟨rfl,rfl⟩:=h;rfl
 | .string a,b,h=>by
  cases b <;> simp[eqV] at h
  rename_i c
  cases a;cases c;simp at h;subst h;rfl
 | .pointer a,b,h=>by cases b <;> simp[eqV] at h;subst h;rfl
 | .slice a l c,b,h=>by cases b <;> simp[eqV] at h;obtain ⟨⟨rfl,rfl⟩,rfl⟩:=h;rfl
 | .map a,b,h=>by cases b <;> simp[eqV] at h;subst h;rfl
 | .chan a,b,h=>by cases b <;> simp[eqV] at h
 | .float a c,b,h=>by cases b <;> simp[eqV] at h
 | .complex a c d,b,h=>by cases b <;> simp[eqV] at h
 | .func fn x y,b,h=>by
  cases b <;> simp[eqV] at h
  obtain ⟨⟨rfl,hx⟩,hy⟩:=h;rw[qug x _ hx,qug y _ hy]
 | .nilFunc,b,h=>by cases b <;> simp[eqV] at h;rfl
 | .iface t v,b,h=>by cases b <;> simp[eqV] at h;obtain ⟨rfl,hv⟩:=h;rw[q4d v _ hv]
 | .nilIface,b,h=>by cases b <;> simp[eqV] at h;rfl
 | .agg x,b,h=>by cases b <;> simp[eqV] at h;rw[qug x _ h]
 | .tuple x,b,h=>by cases b <;> simp[eqV] at h;rw[qug x _ h]
theorem qug:∀ (a b:Array Value),eqA a b=true->a=b
 | ⟨l⟩,⟨l'⟩,h=>by simp only[eqA] at h;rw[qi2 l l' h]
theorem qi2:∀ (a b:List Value),eqL a b=true->a=b
 | [],b,h=>by cases b <;> simp[eqL] at h;rfl
 | v::l,b,h=>by
  cases b <;> simp[eqL] at h
  obtain ⟨hv,hl⟩:=h;rw[q4d v _ hv,qi2 l _ hl]
end
def qlf (H H':AHeap) (b:Nat):Bool:=
 match H.t.get b,H'.t.get b with
 | some (.cells vs e k),some (.cells vs' e' k')=>eqL vs vs'&&decide (e=e')&&decide (k=k')
 | _,_=>false
theorem qu9 {H H':AHeap} {b:Nat} (h:qlf H H' b=true):H'.t.get b=H.t.get b:=by
 unfold qlf at h;split at h
 ·rename_i h1 h2;simp only[Bool.and_eq_true,decide_eq_true_eq] at h;obtain ⟨⟨hv,rfl⟩,rfl⟩:=h;rw[h1,h2,qi2 _ _ hv]
 ·cases h
section
variable {P:Program} {F:FuncId->Bool} {ev:Req->Option Res} {ops:Array Oper} {n:Nat}
def qdd (ρ:Operand->Option Value) (o:Oper):Option Nat:=
 match o.op with
 | .load _ a=>match ρ a with
  | some (.pointer (some a))=>some a.block
  | _=>none
 | .slice _ x _ _ _=>match ρ x with
  | some (.slice (some a) _ _)=>some a.block
  | _=>none
 | _=>none
theorem qq2 {H H2:AHeap} {a:Addr} {k:Nat} (h:H2.t.get a.block=H.t.get a.block):qcf H2 a k=qcf H a k:=by unfold qcf;rw[h]
theorem qj2 {ρ:Operand->Option Value} {H H' H2:AHeap} {o:Oper} {r:ANext} (hp:qb3 o.op=true) (h:aOp P F ρ H o=some (r,H')) (hs:∀ b,qdd ρ o=some b->H2.t.get b=H.t.get b) :
  ∃ v,r=.val v/\aOp P F ρ H2 o=some (.val v,H2):=by
 obtain ⟨dst,op,type,pos,after,guard⟩:=o;have mv:∀ {v:Option Value},(v.map fun v=>(ANext.val v,H))=some (r,H')->∃ x,v=some x/\r=.val x/\H'=H:=by
  intro v hv;rw[Option.map_eq_some_iff] at hv;obtain ⟨x,hx,he⟩:=hv
  cases he;exact ⟨x,hx,rfl,rfl⟩
 cases op <;> simp only[qb3] at hp <;> first | (cases hp;done) | skip
 all_goals simp only[aOp] at h |-
 case load t a=>
  rw[Option.bind_eq_some_iff] at h;obtain ⟨va,ha,h⟩:=h;obtain ⟨v,hv,rfl,rfl⟩:=mv h;refine ⟨v,rfl,?_⟩;rw[ha];simp only[Option.bind_some]
  cases va with
  | pointer p=>
   cases p with
   | none=>simp[qgj] at hv
   | some p=>
    have:=hs p.block (by simp[qdd,ha]);have e:qgj P H2 t (.pointer (some p))=qgj P H' t (.pointer (some p)):=by
     simp only[qgj,qq2 this]
    rw[e,hv];rfl
  | _=>simp[qgj] at hv
 case slice t x lo hi mx=>
  rw[Option.bind_eq_some_iff] at h;obtain ⟨vx,hx,h⟩:=h;rw[Option.bind_eq_some_iff] at h;obtain ⟨vlo,hlo,h⟩:=h;rw[Option.bind_eq_some_iff] at h;obtain ⟨vhi,hhi,h⟩:=h;rw[Option.bind_eq_some_iff] at h;obtain ⟨vmx,hmx,h⟩:=h;obtain ⟨v,hv,rfl,rfl⟩:=mv h;refine ⟨v,rfl,?_⟩;rw[hx,hlo,hhi,hmx];simp only[Option.bind_some];have e:qby P H2 t vx vlo vhi vmx=qby P H' t vx vlo vhi vmx:=by
   cases vx with
   | slice a l c=>
    cases a with
    | none=>rfl
    | some a=>
     have:=hs a.block (by simp[qdd,hx]);simp only[qby,this]
   | pointer a=>cases a <;> rfl
   | _=>rfl
  rw[e,hv];rfl
end
section
variable {P:Program} {F:FuncId->Bool} {ev:Req->Option Res} {ops:Array Oper} {n:Nat}
def Agree (ops:Array Oper) (o:Oper) (E E':T Value):Prop:=∀ d∈o.looksAt ops,E.get d=E'.get d
theorem qhs {o:Oper} {E E':T Value} {H:AHeap} (h:Agree ops o E E'):qbc P F ev ops o E H=qbc P F ev ops o E' H:=by
 have hw:qaj ops o E=qaj ops o E':=by
  unfold qaj
  cases hg:o.guard with
  | none=>rfl
  | some jw=>
   obtain ⟨j,want⟩:=jw;simp only
   congr 1
   unfold qi8
   cases hd:(ops[j]?).bind (·.dst) with
   | none=>rfl
   | some d=>
    simp only;rw[h d (by simp[Oper.looksAt,hg,hd])]
 have ha:aOp P F (qan E) H o=aOp P F (qan E') H o:=by
  refine qzt fun x hx=>?_
  cases x with
  | tmp t=>exact h t (by simp only[Oper.looksAt];exact List.mem_append_left _ (List.mem_filterMap.2 ⟨.tmp t,by simpa using hx,rfl⟩))
  | _=>rfl
 unfold qbc;rw[hw,ha]
noncomputable def qbf (P:Program) (F:FuncId->Bool) (ev:Req->Option Res) (L:List Nat) (ops:Array Oper) (o:Oper) (E:T Value) (H:AHeap):Option (Value × AHeap):=
 match qbc P F ev ops o E H with
 | none=>none
 | some (v,H')=>
  if qb4 P o.op then some (v,H')
  else if qb3 o.op then
   match qaj ops o E with
   | some true=>match qdd (qan E) o with
    | some b=>if L.contains b then some (v,H') else none
    | none=>some (v,H')
   | _=>some (v,H')
  else by classical exact if ∀ b∈L,H'.t.get b=H.t.get b then some (v,H') else none
theorem Agree.wanted {o:Oper} {E E':T Value} (h:Agree ops o E E'):qaj ops o E=qaj ops o E':=by
 unfold qaj
 cases hg:o.guard with
 | none=>rfl
 | some jw=>
  obtain ⟨j,want⟩:=jw;simp only
  congr 1
  unfold qi8
  cases hd:(ops[j]?).bind (·.dst) with
  | none=>rfl
  | some d=>
   simp only;rw[h d (by simp[Oper.looksAt,hg,hd])]
theorem Agree.eval {o:Oper} {E E':T Value} (h:Agree ops o E E') {x:Operand} (hx:x∈o.op.operands):qan E x=qan E' x:=by
 cases x with
 | tmp t=>exact h t (by simp only[Oper.looksAt];exact List.mem_append_left _ (List.mem_filterMap.2 ⟨.tmp t,by simpa using hx,rfl⟩))
 | _=>rfl
theorem qf2 {L:List Nat} {o:Oper} {E E':T Value} {H:AHeap} (h:Agree ops o E E'):qbf P F ev L ops o E H=qbf P F ev L ops o E' H:=by
 have hb:qdd (qan E) o=qdd (qan E') o:=by
  have he:∀ x∈o.op.operands,qan E x=qan E' x:=fun x hx=>h.eval hx
  obtain ⟨dst,op,type,pos,after,guard⟩:=o
  cases op <;> simp only[qdd]
  case load t a=>rw[he a (by simp[Op.operands])]
  case slice t x lo hi mx=>rw[he x (by simp[Op.operands])]
 unfold qbf;rw[qhs h,h.wanted,hb]
theorem qgu {L:List Nat} {o:Oper} {E:T Value} {H:AHeap} {r:Value × AHeap} (h:qbf P F ev L ops o E H=some r):qbc P F ev ops o E H=some r:=by
 unfold qbf at h;split at h
 ·cases h
 ·rename_i v H' he;rw[he];split at h
  ·exact h
  ·split at h
   ·split at h
    ·split at h
     ·split at h
      ·exact h
      ·cases h
     ·exact h
    ·exact h
   ·split at h
    ·exact h
    ·cases h
theorem qel {o:Oper} {E:T Value} {H H':AHeap} {v:Value} (hp:qb4 P o.op=true) (h:qbc P F ev ops o E H=some (v,H')):H'=H/\∀ H2,qbc P F ev ops o E H2=some (v,H2):=by
 unfold qbc at h |-
 cases hw:qaj ops o E with
 | none=>rw[hw] at h;cases h
 | some b=>
  rw[hw] at h
  cases b with
  | false=>cases h;exact ⟨rfl,fun _=>rfl⟩
  | true=>
   simp only at h |-
   cases ha:aOp P F (qan E) H o with
   | none=>rw[ha] at h;cases h
   | some r=>
    obtain ⟨r,H1⟩:=r;obtain ⟨v0,rfl,rfl,hall⟩:=qrp hp ha;rw[ha] at h;cases h;exact ⟨rfl,fun H2=>by rw[hall H2]⟩
theorem qhu {L:List Nat} {o:Oper} {E:T Value} {H H':AHeap} {v:Value} (hp:qb4 P o.op=true) (h:qbf P F ev L ops o E H=some (v,H')):H'=H/\∀ H2,qbf P F ev L ops o E H2=some (v,H2):=by
 obtain ⟨h1,h2⟩:=qel hp (qgu h);exact ⟨h1,fun H2=>by unfold qbf;rw[h2 H2];simp[hp]⟩
theorem qij {P:Program} {o:Op} (h:qb3 o=true):qb4 P o=false:=by cases o <;> simp_all [qb3,qb4]
theorem qht {L:List Nat} {o:Oper} {E:T Value} {H H':AHeap} {v:Value} (hp:qb3 o.op=true) (h:qbf P F ev L ops o E H=some (v,H')) :
  H'=H/\∀ H2:AHeap,(∀ b∈L,H2.t.get b=H.t.get b)->qbf P F ev L ops o E H2=some (v,H2):=by
 have he:=qgu h;have hnp:=qij (P:=P) hp;unfold qbc at he
 cases hw:qaj ops o E with
 | none=>rw[hw] at he;cases he
 | some b=>
  rw[hw] at he
  cases b with
  | false=>
   cases he;refine ⟨rfl,fun H2 _=>?_⟩
   unfold qbf qbc;rw[hw];simp[hnp,hp]
  | true=>
   simp only at he
   cases ha:aOp P F (qan E) H o with
   | none=>rw[ha] at he;cases he
   | some r=>
    obtain ⟨r,H1⟩:=r;obtain ⟨v0,rfl,rfl⟩:=qhl hp ha;rw[ha] at he;cases he;refine ⟨rfl,fun H2 hs=>?_⟩;have hL:∀ b,qdd (qan E) o=some b->b∈L:=by
     intro b hb;unfold qbf qbc at h;rw[hw] at h;simp only[ha,hnp,hp,hb,Bool.false_eq_true,if_false,if_true] at h;split at h
     ·rename_i hc;simpa using hc
     ·cases h
    obtain ⟨v1,hv1,h2⟩:=qj2 (H2:=H2) hp ha fun b hb=>hs b (hL b hb)
    cases hv1;unfold qbf qbc
    rw[hw];simp only[h2,hnp,hp,Bool.false_eq_true,if_false,if_true]
    cases hb:qdd (qan E) o with
    | none=>rfl
    | some b=>simp[hL b hb]
theorem qpt {L:List Nat} {o:Oper} {E:T Value} {H H':AHeap} {v:Value} (hp:qb4 P o.op=false) (hr:qb3 o.op=false) (h:qbf P F ev L ops o E H=some (v,H')):∀ b∈L,H'.t.get b=H.t.get b:=by
 have he:=qgu h;unfold qbf at h;rw[he] at h;simp only[hp,hr,Bool.false_eq_true,if_false] at h;split at h
 ·rename_i hall;exact hall
 ·cases h
theorem qku {dst:Option Tmp} {v:Value} {E E':T Value} (h:putE n dst v E=some E') {d:Nat} (hd:dst≠some d):E'.get d=E.get d:=by
 cases dst with
 | none=>cases h;rfl
 | some t=>
  simp only[putE] at h;split at h
  ·cases h;exact T.get_set_other _ _ _ _ _ (fun e=>hd (by rw[e]))
  ·cases h
theorem qpk {dst:Option Tmp} {v:Value} {E E':T Value} (h:putE n dst v E=some E') (E2:T Value):∃ E3,putE n dst v E2=some E3:=by
 cases dst with
 | none=>exact ⟨E2,rfl⟩
 | some t=>
  simp only[putE] at h |-;split at h
  ·rename_i hc;exact ⟨_,by rw[if_pos hc]⟩
  ·cases h
theorem qpl {d1 d2:Option Tmp} {v1 v2:Value} {E E1 E2 E3:T Value} (h1:putE n d1 v1 E=some E1) (h2:putE n d2 v2 E1=some E2) (h3:putE n d2 v2 E=some E3) (hne:∀ d,d1=some d->d2≠some d):putE n d1 v1 E3=some E2:=by
 cases d1 with
 | none=>cases h1;rw[h2] at h3;cases h3;rfl
 | some a=>
  cases d2 with
  | none=>cases h3;cases h2;exact h1
  | some b=>
   simp only[putE] at h1 h2 h3 |-;split at h1
   ·rename_i hc1;cases h1;split at h2
    ·cases h2;rename_i hc2
     rw[if_pos hc2] at h3;cases h3;rw[if_pos hc1,T.set_comm _ _ _ _ _ _ (fun e=>hne a rfl (by rw[e]))]
    ·cases h2
   ·cases h1
def qpd (P:Program) (ops:Array Oper) (x y:Oper):Bool:=x.apart ops y&&(qb4 P x.op || qb4 P y.op || qb3 x.op || qb3 y.op)
noncomputable def qbv (P:Program) (F:FuncId->Bool) (ev:Req->Option Res) (L:List Nat) (n:Nat) (ops:Array Oper) (i:Nat) (x:T Value × AHeap):Option (T Value × AHeap):=
 match ops[i]? with
 | none=>none
 | some o=>(qbf P F ev L ops o x.1 x.2).bind fun r=>(putE n o.dst r.1 x.1).map fun E=>(E,r.2)
noncomputable def qa5 (P:Program) (F:FuncId->Bool) (ev:Req->Option Res) (L:List Nat) (n:Nat) (ops:Array Oper):List Nat->T Value × AHeap->Option (T Value × AHeap)
 | [],x=>some x
 | i::l,x=>(qbv P F ev L n ops i x).bind (qa5 P F ev L n ops l)
theorem qps {L:List Nat} {i:Nat} {x y:T Value × AHeap} (h:qbv P F ev L n ops i x=some y):qa8 P F ev n ops i x=some y:=by
 unfold qbv at h;unfold qa8
 cases ho:ops[i]? with
 | none=>rw[ho] at h;cases h
 | some o=>
  rw[ho] at h;simp only at h |-;rw[Option.bind_eq_some_iff] at h;obtain ⟨r,hr,h⟩:=h;rw[qgu hr];exact h
theorem qhr {L:List Nat}:∀ (l:List Nat) (x y:T Value × AHeap),qa5 P F ev L n ops l x=some y->qf1 P F ev n ops l x=some y
 | [],_,_,h=>h
 | i::l,x,y,h=>by
  simp only[qa5] at h;simp only[qf1];rw[Option.bind_eq_some_iff] at h |-;obtain ⟨z,hz,h⟩:=h;exact ⟨z,qps hz,qhr l z y h⟩
theorem qpr {L:List Nat} {i j:Nat} {oi oj:Oper} (hi:ops[i]?=some oi) (hj:ops[j]?=some oj) (hs:qpd P ops oj oi=true) {x x1 x2:T Value × AHeap}
  (h1:qbv P F ev L n ops j x=some x1) (h2:qbv P F ev L n ops i x1=some x2):∃ x3,qbv P F ev L n ops i x=some x3/\qbv P F ev L n ops j x3=some x2:=by
 simp only[qpd,Bool.and_eq_true,Bool.or_eq_true] at hs;obtain ⟨hap,hk⟩:=hs;obtain ⟨a1,a2,a3⟩:=Oper.apart_spec hap;obtain ⟨E,H⟩:=x;simp only[qbv,hi,hj] at h1 h2 |-;rw[Option.bind_eq_some_iff] at h1;obtain ⟨⟨vj,Hj⟩,hej,h1⟩:=h1;rw[Option.map_eq_some_iff] at h1;obtain ⟨E1,hpj,rfl⟩:=h1;rw[Option.bind_eq_some_iff] at h2;obtain ⟨⟨vi,Hi⟩,hei,h2⟩:=h2;rw[Option.map_eq_some_iff] at h2;obtain ⟨E2,hpi,rfl⟩:=h2;simp only at hej hei hpj hpi;have agi:Agree ops oi E1 E:=fun d hd=>qku hpj fun e=>a1 d e hd
 rw[qf2 agi] at hei;obtain ⟨E3,hp3⟩:=qpk hpi E;have agj:Agree ops oj E3 E:=fun d hd=>qku hp3 fun e=>a3 d e hd
 have hfin:putE n oj.dst vj E3=some E2:=qpl hpj hpi hp3 a2;have keeps:∀ {o:Oper} {E:T Value} {H H':AHeap} {v:Value},qbf P F ev L ops o E H=some (v,H')->∀ b∈L,H'.t.get b=H.t.get b:=by
  intro o E H H' v h b hb;by_cases hp:qb4 P o.op=true
  ·rw[(qhu hp h).1]
  ·by_cases hr:qb3 o.op=true
   ·rw[(qht hr h).1]
   ·exact qpt (by simpa using hp) (by simpa using hr) h b hb
 -- where one of them leaves the memory and gives the same over what the other leaves
 have caseJ:Hj=H->(∀ H2:AHeap,(∀ b∈L,H2.t.get b=H.t.get b)->qbf P F ev L ops oj E H2=some (vj,H2))->∃ x3,(qbf P F ev L ops oi E H).bind (fun r=>(putE n oi.dst r.1 E).map fun E=>(E,r.2))=some x3 /\
   (qbf P F ev L ops oj x3.1 x3.2).bind (fun r=>(putE n oj.dst r.1 x3.1).map fun E=>(E,r.2))=some (E2,Hi):=by
  rintro rfl hall;refine ⟨(E3,Hi),by rw[hei];simp[hp3],?_⟩;simp only;rw[qf2 agj,hall Hi (keeps hei)];simp[hfin]
 have caseI:Hi=Hj->qbf P F ev L ops oi E H=some (vi,H)->∃ x3,(qbf P F ev L ops oi E H).bind (fun r=>(putE n oi.dst r.1 E).map fun E=>(E,r.2))=some x3 /\
   (qbf P F ev L ops oj x3.1 x3.2).bind (fun r=>(putE n oj.dst r.1 x3.1).map fun E=>(E,r.2))=some (E2,Hi):=by
  rintro rfl hall;refine ⟨(E3,H),by rw[hall];simp[hp3],?_⟩;simp only;rw[qf2 agj,hej];simp[hfin]
 rcases hk with ((hk | hk) | hk) | hk
 ·obtain ⟨e,hall⟩:=qhu hk hej;exact caseJ e fun H2 _=>hall H2
 ·obtain ⟨e,hall⟩:=qhu hk hei;exact caseI e (hall H)
 ·obtain ⟨e,hall⟩:=qht hk hej;exact caseJ e hall
 ·obtain ⟨e,hall⟩:=qht hk hei;exact caseI e (hall H fun b hb=>(keeps hej b hb).symm)
theorem qhb {L:List Nat} (l l2:List Nat) (x:T Value × AHeap):qa5 P F ev L n ops (l++l2) x=(qa5 P F ev L n ops l x).bind (qa5 P F ev L n ops l2):=by
 induction l generalizing x with
 | nil=>rfl
 | cons i l ih=>
  simp only[List.cons_append,qa5]
  cases qbv P F ev L n ops i x with
  | none=>rfl
  | some y=>simp only[Option.bind_some];exact ih y
theorem qip {L:List Nat} {i:Nat} {oi:Oper} (hi:ops[i]?=some oi):∀ (l:List Nat) (x y:T Value × AHeap),(∀ j∈l,∃ oj,ops[j]?=some oj/\qpd P ops oj oi=true) ->
  qa5 P F ev L n ops (l++[i]) x=some y->qa5 P F ev L n ops (i::l) x=some y
 | [],x,y,_,h=>h
 | j::l,x,y,hl,h=>by
  simp only[List.cons_append,qa5] at h;rw[Option.bind_eq_some_iff] at h;obtain ⟨x1,h1,h⟩:=h;have h':=qip hi l x1 y (fun k hk=>hl k (List.mem_cons_of_mem _ hk)) h;simp only[qa5] at h';rw[Option.bind_eq_some_iff] at h';obtain ⟨x2,h2,h'⟩:=h';obtain ⟨oj,hj,hs⟩:=hl j (List.mem_cons_self ..);obtain ⟨x3,h3,h4⟩:=qpr hi hj hs h1 h2;simp only[qa5];rw[h3];simp only[Option.bind_some];rw[h4];exact h'
def reach (ops:Array Oper):Nat->Nat->Nat->Bool
 | 0,_,_=>false
 | f+1,i,j=>match ops[i]? with
  | some o=>o.after.toList.any fun e=>Region.binds .any e&&(e.on == j || reach ops f e.on j)
  | none=>false
def qnn (P:Program) (ops:Array Oper):Bool:=
 (List.range ops.size).all fun i=>match ops[i]? with
  | some oi=>(oi.after.toList.all fun e => !Region.binds .any e || decide (e.on<i)) &&
    (List.range i).all fun j=>match ops[j]? with
     | some oj=>qpd P ops oj oi || reach ops 12 i j
     | none=>false
  | none=>false
def Closed (ops:Array Oper) (listed:Array Bool):Prop:=
 ∀ i o,ops[i]?=some o->listed.getD i true=true->∀ e∈o.after,Region.binds .any e=true->i<ops.size->listed.getD e.on false=true
theorem qfw {listed:Array Bool} (hsz:listed.size=ops.size) (hc:Closed ops listed):∀ (f i j:Nat) (o:Oper),ops[i]?=some o->(∀ e∈o.after,Region.binds .any e=true->listed.getD e.on false=true)->reach ops f i j=true->listed.getD j false=true
 | 0,i,j,o,_,_,h=>by simp[reach] at h
 | f+1,i,j,o,ho,hr,h=>by
  simp only[reach,ho,List.any_eq_true,Bool.and_eq_true,Bool.or_eq_true,beq_iff_eq] at h;obtain ⟨e,he,hb,h⟩:=h;have hl:=hr e (by simpa using he) hb;rcases h with rfl | h
  ·exact hl
  ·have hlt:e.on<ops.size:=by
    rw[Array.getD_eq_getD_getElem?] at hl;rcases Nat.lt_or_ge e.on listed.size with h1 | h1
    ·omega
    ·simp[Array.getElem?_eq_none h1] at hl
   have ho':ops[e.on]?=some ops[e.on]:=by simp[hlt]
   refine qfw hsz hc f e.on j _ ho' (fun e' he' hb'=>?_) h;refine hc e.on _ ho' ?_ e' he' hb' hlt;rw[Array.getD_eq_getD_getElem?] at hl |-;have:e.on<listed.size:=by omega
   simp[this] at hl |-;exact hl
end
section
variable {P:Program} {F:FuncId->Bool} {ev:Req->Option Res} {ops:Array Oper} {n:Nat}
def unl (k:Nat) (listed:Array Bool):List Nat:=(List.range k).filter fun i => !listed.getD i true
theorem qt7 {listed:Array Bool} {i j:Nat} (hi:i<listed.size) (d:Bool):(listed.setIfInBounds i true).getD j d=if j=i then true else listed.getD j d:=by
 simp only[Array.getD_eq_getD_getElem?,Array.getElem?_setIfInBounds];by_cases h:j=i
 ·subst h;simp[hi]
 ·rw[if_neg (by omega),if_neg h]
theorem qo7 {listed:Array Bool} {i:Nat} (hm:i∈unl ops.size listed) (hsz:listed.size=ops.size) :
  ∃ c1 c2,unl ops.size listed=c1++i::c2/\(∀ j∈c1,j<i/\listed.getD j true=false)/\unl ops.size (listed.setIfInBounds i true)=c1++c2:=by
 obtain ⟨c1,c2,he⟩:=List.append_of_mem hm;have hp:(unl ops.size listed).Pairwise (·<·):=(List.pairwise_lt_range).filter _;rw[he,List.pairwise_append] at hp;obtain ⟨_,hp2,hp3⟩:=hp;have hlt:i<listed.size:=by
  have:=List.mem_filter.1 hm;simpa [hsz] using this.1
 refine ⟨c1,c2,he,fun j hj=>⟨hp3 j hj i (List.mem_cons_self ..),?_⟩,?_⟩
 ·have:j∈unl ops.size listed:=by rw[he];exact List.mem_append_left _ hj
  simpa using (List.mem_filter.1 this).2
 ·have e1:unl ops.size (listed.setIfInBounds i true)=(unl ops.size listed).filter fun j => !(decide (j=i)):=by
   unfold unl;rw[List.filter_filter];refine List.filter_congr fun j _=>?_
   rw[qt7 hlt];by_cases h:j=i
   ·simp[h]
   ·simp[h]
  rw[e1,he,List.filter_append,List.filter_cons];have f1:c1.filter (fun j => !(decide (j=i)))=c1:=List.filter_eq_self.2 fun j hj=>by
   have:=hp3 j hj i (List.mem_cons_self ..);simp;omega
  have f2:c2.filter (fun j => !(decide (j=i)))=c2:=List.filter_eq_self.2 fun j hj=>by
   have:=(List.pairwise_cons.1 hp2).1 j hj;simp;omega
  rw[f1,f2];simp
theorem mem_ready {listed:Array Bool} {i:Nat}:i∈Region.ready .any ops listed↔i<ops.size/\listed.getD i true=false/\∃ o,ops[i]?=some o/\∀ e∈o.after,Region.binds .any e=true->listed.getD e.on false=true:=by
 unfold Region.ready;simp only[List.mem_filter,List.mem_range,Bool.and_eq_true,Bool.not_eq_true'];constructor
 ·rintro ⟨h1,h2,h3⟩;have ho:ops[i]?=some ops[i]:=by simp[h1]
  rw[ho] at h3;simp only[Option.map_some,Option.getD_some,Array.all_eq_true_iff_forall_mem] at h3;refine ⟨h1,h2,_,ho,fun e he hb=>?_⟩;have:=h3 e he;simpa [hb] using this
 ·rintro ⟨h1,h2,o,ho,h3⟩;refine ⟨h1,h2,?_⟩;rw[ho];simp only[Option.map_some,Option.getD_some,Array.all_eq_true_iff_forall_mem];intro e he;by_cases hb:Region.binds .any e=true
  ·simp[h3 e he hb]
  ·simp[hb]
theorem qqq (h:qnn P ops=true) {i:Nat} (hi:i<ops.size):∃ o,ops[i]?=some o/\(∀ e∈o.after,Region.binds .any e=true->e.on<i)/\∀ j,j<i->∃ oj,ops[j]?=some oj/\(qpd P ops oj o=true\/reach ops 12 i j=true):=by
 unfold qnn at h;rw[List.all_eq_true] at h;have:=h i (by simpa using hi);have ho:ops[i]?=some ops[i]:=by simp[hi]
 rw[ho] at this;simp only[Bool.and_eq_true,List.all_eq_true] at this;refine ⟨_,ho,fun e he hb=>?_,fun j hj=>?_⟩
 ·have:=this.1 e (by simpa using he);simpa [hb] using this
 ·have:=this.2 j (by simpa using hj)
  cases hoj:ops[j]? with
  | none=>rw[hoj] at this;cases this
  | some oj=>rw[hoj] at this;exact ⟨oj,rfl,by simpa using this⟩
theorem Closed.set {listed:Array Bool} (hsz:listed.size=ops.size) (hc:Closed ops listed) {i:Nat} (hr:i∈Region.ready .any ops listed):Closed ops (listed.setIfInBounds i true):=by
 obtain ⟨h1,h2,o,ho,h3⟩:=mem_ready.1 hr;have hlt:i<listed.size:=by omega
 intro k ok hk hl e he hb hks;rw[qt7 hlt] at hl |-;by_cases hki:k=i
 ·subst hki;rw[ho] at hk;cases hk;rw[h3 e he hb];simp
 ·rw[if_neg hki] at hl;rw[hc k ok hk hl e he hb hks];simp
theorem qop {L:List Nat} (hd:qnn P ops=true):∀ (fuel t:Nat) (listed:Array Bool) (x y:T Value × AHeap),listed.size=ops.size->Closed ops listed->(unl ops.size listed).length<=fuel ->
  qa5 P F ev L n ops (unl ops.size listed) x=some y->qa5 P F ev L n ops (Region.linearise.go .any ops fuel t listed []) x=some y
 | 0,t,listed,x,y,hsz,hc,hf,h=>by
  have:unl ops.size listed=[]:=List.eq_nil_of_length_eq_zero (by omega);rw[this] at h;simpa [Region.linearise.go] using h
 | fuel+1,t,listed,x,y,hsz,hc,hf,h=>by
  simp only[Region.linearise.go]
  change qa5 P F ev L n ops (match (Region.ready .any ops listed)[t % (Region.ready .any ops listed).length]? with
   | some i=>Region.linearise.go .any ops fuel (t / (Region.ready .any ops listed).length) (listed.setIfInBounds i true) [i]
   | none=>[].reverse) x=some y
  cases hi:(Region.ready .any ops listed)[t % (Region.ready .any ops listed).length]? with
  | none=>
   have hnil:Region.ready .any ops listed=[]:=by
    cases hr:Region.ready .any ops listed with
    | nil=>rfl
    | cons x xs=>
     rw[hr] at hi;have hlt:t % (x::xs).length<(x::xs).length:=Nat.mod_lt _ (by simp);simp at hi;simp at hlt;omega
   have:unl ops.size listed=[]:=by
    cases hu:unl ops.size listed with
    | nil=>rfl
    | cons i l=>
     exfalso;have hm:i∈unl ops.size listed:=by rw[hu];exact List.mem_cons_self ..
     have hm':=List.mem_filter.1 hm;have hlt:i<ops.size:=by simpa using hm'.1
     obtain ⟨o,ho,he,_⟩:=qqq hd hlt;have hp:(unl ops.size listed).Pairwise (·<·):=(List.pairwise_lt_range).filter _;rw[hu] at hp
     have:i∈Region.ready .any ops listed:=mem_ready.2 ⟨hlt,by simpa using hm'.2,o,ho,fun e hee hb=>by
      have hei:=he e hee hb
      cases hle:listed.getD e.on false with
      | true=>rfl
      | false=>
       exfalso;have hmem:e.on∈unl ops.size listed:=by
        refine List.mem_filter.2 ⟨by simp;omega,?_⟩;rw[Array.getD_eq_getD_getElem?] at hle |-;have:e.on<listed.size:=by omega
        simp[this] at hle |-;exact hle
       rw[hu] at hmem;rcases List.mem_cons.1 hmem with e1 | e1
       ·omega
       ·have:=(List.pairwise_cons.1 hp).1 _ e1;omega⟩
     rw[hnil] at this;cases this
   rw[this] at h;simpa using h
  | some i=>
   simp only[];have hr:i∈Region.ready .any ops listed:=List.mem_of_getElem? hi;obtain ⟨h1,h2,o,ho,h3⟩:=mem_ready.1 hr;have hm:i∈unl ops.size listed:=List.mem_filter.2 ⟨by simpa using h1,by simpa using h2⟩;obtain ⟨c1,c2,he,hlt,he2⟩:=qo7 hm hsz;rw[linearise_go_acc,List.reverse_singleton,List.singleton_append];have hfront:qa5 P F ev L n ops (i::(c1++c2)) x=some y:=by
    have e3:c1++i::c2=(c1++[i])++c2:=by simp
    rw[he,e3,qhb,Option.bind_eq_some_iff] at h;obtain ⟨z,hz,h⟩:=h
    have hz':=qip ho c1 x z (fun j hj=>by
     obtain ⟨hji,hjl⟩:=hlt j hj;obtain ⟨o',ho',_,hall⟩:=qqq hd h1;rw[ho] at ho';cases ho';obtain ⟨oj,hoj,hk⟩:=hall j hji;rcases hk with hk | hk
     ·exact ⟨oj,hoj,hk⟩
     ·have:=qfw hsz hc 12 i j o ho h3 hk;exfalso;rw[Array.getD_eq_getD_getElem?] at this hjl;have hjs:j<listed.size:=by omega
      simp[hjs] at this hjl
      rw[this] at hjl;cases hjl) hz
    have e4:i::(c1++c2)=(i::c1)++c2:=by simp
    rw[e4,qhb,hz'];exact h
   simp only[qa5] at hfront |-;rw[Option.bind_eq_some_iff] at hfront |-;obtain ⟨z,hz,hfront⟩:=hfront;refine ⟨z,hz,qop hd fuel _ _ z y (by simpa using hsz) (hc.set hsz hr) ?_ (by rw[he2];exact hfront)⟩;have:=congrArg List.length he;rw[he2];simp at this |-;omega
def qpp (P:Program) (F:FuncId->Bool) (ev:Req->Option Res) (n:Nat) (ops:Array Oper):List Nat->T Value × AHeap->Option ((T Value × AHeap) × List Nat × List (AHeap × AHeap))
 | [],x=>some (x,[],[])
 | i::l,x=>match ops[i]?,qa8 P F ev n ops i x with
  | some o,some x1=>match qpp P F ev n ops l x1 with
   | some (y,bs,hs)=>some (y,
     (if qb3 o.op then (match qaj ops o x.1 with | some true=>(qdd (qan x.1) o).toList | _=>[]) else [])++bs,
     if qb4 P o.op || qb3 o.op then hs else (x.2,x1.2)::hs)
   | none=>none
  | _,_=>none
def qrt (P:Program) (F:FuncId->Bool) (ev:Req->Option Res) (n:Nat) (ops:Array Oper) (x:T Value × AHeap):Option (T Value × AHeap):=
 if qnn P ops then
  match qpp P F ev n ops (List.range ops.size) x with
  | some (y,bs,hs)=>if bs.all fun b=>hs.all fun h=>qlf h.1 h.2 b then some y else none
  | none=>none
 else none
theorem qln {L:List Nat}:∀ (l:List Nat) (x y:T Value × AHeap) (bs:List Nat) (hs:List (AHeap × AHeap)),qpp P F ev n ops l x=some (y,bs,hs)->(∀ b∈bs,b∈L)->(∀ h∈hs,∀ b∈L,qlf h.1 h.2 b=true) ->
  qa5 P F ev L n ops l x=some y
 | [],x,y,bs,hs,h,_,_=>by simp only[qpp,Option.some.injEq,Prod.mk.injEq] at h;simp only[qa5];rw[h.1]
 | i::l,x,y,bs,hs,h,hb,hh=>by
  simp only[qpp] at h;split at h
  ·rename_i o x1 ho hx;split at h
   ·rename_i y' bs' hs' hcol;simp only[Option.some.injEq,Prod.mk.injEq] at h;obtain ⟨rfl,rfl,rfl⟩:=h;have hh':∀ h∈hs',∀ b∈L,qlf h.1 h.2 b=true:=by
     intro h hm;split at hh
     ·exact hh h hm
     ·exact hh h (List.mem_cons_of_mem _ hm)
    have ih:=qln l x1 y' bs' hs' hcol (fun b hm=>hb b (List.mem_append_right _ hm)) hh';simp only[qa5];have hstep:qbv P F ev L n ops i x=some x1:=by
     unfold qa8 at hx;rw[ho] at hx;simp only at hx;rw[Option.bind_eq_some_iff] at hx;obtain ⟨⟨v,H1⟩,he,hx⟩:=hx;rw[Option.map_eq_some_iff] at hx;obtain ⟨E1,hp,rfl⟩:=hx;unfold qbv;rw[ho];simp only;have:qbf P F ev L ops o x.1 x.2=some (v,H1):=by
      unfold qbf;rw[he];simp only;by_cases hpu:qb4 P o.op=true
      ·simp[hpu]
      ·by_cases hr:qb3 o.op=true
       ·simp only[hpu,hr,if_false,if_true,Bool.false_eq_true];split
        ·rename_i hw;split
         ·rename_i b hrb;have:b∈L:=hb b (List.mem_append_left _ (by rw[if_pos hr,hw];simp[hrb]));simp[this]
         ·rfl
        ·rfl
       ·simp only[hpu,hr,if_false,Bool.false_eq_true];rw[if_neg (by simp[hpu,hr])] at hh;rw[if_pos fun b hm=>qu9 (hh (x.2,H1) (List.mem_cons_self ..) b hm)]
     rw[this];simp[hp]
    rw[hstep];exact ih
   ·cases h
  ·cases h
theorem qmo (hm:P.follows .mixedOrders=true) (t:Nat) {x y:T Value × AHeap} (h:qrt P F ev n ops x=some y) :
  qf1 P F ev n ops (Region.schedule (P.follows .mixedOrders) ops t) x=some y:=by
 unfold qrt at h;split at h
 ·rename_i hd;split at h
  ·rename_i y' bs hs hcol;split at h
   ·rename_i hall;cases h
    have hrun:qa5 P F ev bs n ops (List.range ops.size) x=some y:=qln _ _ _ _ _ hcol (fun b hb=>hb) (fun h hm b hb=>by
     rw[List.all_eq_true] at hall
     exact (List.all_eq_true.1 (hall b hb)) h hm)
    simp only[Region.schedule,hm,Bool.true_or,if_true,Region.linearise];have hu:unl ops.size (Array.replicate ops.size false)=List.range ops.size:=by
     unfold unl;refine List.filter_eq_self.2 fun i hi=>?_
     have:i<ops.size:=by simpa using hi
     simp[this]
    refine qhr _ _ _ (qop hd _ _ _ x y (by simp) (fun i o ho hl e he hb hi=>?_) (by rw[hu];simp) (by rw[hu];exact hrun));simp[hi] at hl
   ·cases h
  ·cases h
 ·cases h
theorem qld (hm:P.follows .mixedOrders=true) (t:Nat) {L:List Nat} {x y:T Value × AHeap} (hd:qnn P ops=true) (h:qa5 P F ev L n ops (List.range ops.size) x=some y) :
  qf1 P F ev n ops (Region.schedule (P.follows .mixedOrders) ops t) x=some y:=by
 simp only[Region.schedule,hm,Bool.true_or,if_true,Region.linearise];have hu:unl ops.size (Array.replicate ops.size false)=List.range ops.size:=by
  unfold unl;refine List.filter_eq_self.2 fun i hi=>?_
  have:i<ops.size:=by simpa using hi
  simp[this]
 refine qhr _ _ _ (qop hd _ _ _ x y (by simp) (fun i o ho hl e he hb hi=>?_) (by rw[hu];simp) (by rw[hu];exact h));simp[hi] at hl
end
end Go.Ax
namespace Go.Px
open Ax
section
variable {ops:Array Oper} {X:Type} {stp:Nat->X->X->Prop} {eqv:X->X->Prop} {sw:Oper->Oper->Bool}
def Runs (stp:Nat->X->X->Prop):List Nat->X->X->Prop
 | [],x,y=>x=y
 | i::l,x,y=>∃ z,stp i x z/\Runs stp l z y
structure Sw (ops:Array Oper) (stp:Nat->X->X->Prop) (eqv:X->X->Prop) (sw:Oper->Oper->Bool):Prop where
 refl:∀ x,eqv x x
 trans:∀ x y z,eqv x y->eqv y z->eqv x z
 cong:∀ i x x' y,eqv x x'->stp i x y->∃ y',stp i x' y'/\eqv y y'
 swap:∀ i j oi oj x x1 x2,ops[i]?=some oi->ops[j]?=some oj->sw oj oi=true->stp j x x1->stp i x1 x2->∃ x3 x4,stp i x x3/\stp j x3 x4/\eqv x2 x4
theorem Runs.cong (h:Sw ops stp eqv sw):∀ {l:List Nat} {x x' y:X},eqv x x'->Runs stp l x y->∃ y',Runs stp l x' y'/\eqv y y'
 | [],x,x',y,he,hr=>by cases hr;exact ⟨x',rfl,he⟩
 | i::l,x,x',y,he,⟨z,h1,h2⟩=>by
  obtain ⟨z',h3,h4⟩:=h.cong i x x' z he h1;obtain ⟨y',h5,h6⟩:=Runs.cong h h4 h2;exact ⟨y',⟨z',h3,h5⟩,h6⟩
theorem Runs.append {l m:List Nat} {x y:X}:Runs stp (l++m) x y↔∃ z,Runs stp l x z/\Runs stp m z y:=by
 induction l generalizing x with
 | nil=>exact ⟨fun h=>⟨x,rfl,h⟩,fun ⟨z,h1,h2⟩=>by cases h1;exact h2⟩
 | cons i l ih=>
  constructor
  ·rintro ⟨z,h1,h2⟩;obtain ⟨u,h3,h4⟩:=ih.1 h2;exact ⟨u,⟨z,h1,h3⟩,h4⟩
  ·rintro ⟨u,⟨z,h1,h3⟩,h4⟩;exact ⟨z,h1,ih.2 ⟨u,h3,h4⟩⟩
theorem Runs.front (h:Sw ops stp eqv sw) {i:Nat} {oi:Oper} (hi:ops[i]?=some oi):∀ (l:List Nat) (x y:X),(∀ j∈l,∃ oj,ops[j]?=some oj/\sw oj oi=true)->Runs stp (l++[i]) x y->∃ y',Runs stp (i::l) x y'/\eqv y y'
 | [],x,y,_,hr=>⟨y,hr,h.refl y⟩
 | j::l,x,y,hl,⟨x1,h1,hr⟩=>by
  obtain ⟨y1,⟨x2,h2,h3⟩,e1⟩:=Runs.front h hi l x1 y (fun k hk=>hl k (List.mem_cons_of_mem _ hk)) hr;obtain ⟨oj,hj,hs⟩:=hl j (List.mem_cons_self ..);obtain ⟨x3,x4,h4,h5,e2⟩:=h.swap i j oi oj x x1 x2 hi hj hs h1 h2;obtain ⟨y2,h6,e3⟩:=Runs.cong h e2 h3;exact ⟨y2,⟨x3,h4,x4,h5,h6⟩,h.trans _ _ _ e1 e3⟩
def drawS (sw:Oper->Oper->Bool) (ops:Array Oper):Bool:=
 (List.range ops.size).all fun i=>match ops[i]? with
  | some oi=>(oi.after.toList.all fun e => !Region.binds .any e || decide (e.on<i)) &&
    (List.range i).all fun j=>match ops[j]? with
     | some oj=>sw oj oi || reach ops 12 i j
     | none=>false
  | none=>false
theorem qui (h:drawS sw ops=true) {i:Nat} (hi:i<ops.size):∃ o,ops[i]?=some o/\(∀ e∈o.after,Region.binds .any e=true->e.on<i)/\∀ j,j<i->∃ oj,ops[j]?=some oj/\(sw oj o=true\/reach ops 12 i j=true):=by
 unfold drawS at h;rw[List.all_eq_true] at h;have:=h i (by simpa using hi);have ho:ops[i]?=some ops[i]:=by simp[hi]
 rw[ho] at this;simp only[Bool.and_eq_true,List.all_eq_true] at this;refine ⟨_,ho,fun e he hb=>?_,fun j hj=>?_⟩
 ·have:=this.1 e (by simpa using he);simpa [hb] using this
 ·have:=this.2 j (by simpa using hj)
  cases hoj:ops[j]? with
  | none=>rw[hoj] at this;cases this
  | some oj=>rw[hoj] at this;exact ⟨oj,rfl,by simpa using this⟩
theorem qqd (hsw:Sw ops stp eqv sw) (hd:drawS sw ops=true):∀ (fuel t:Nat) (listed:Array Bool) (x y:X),listed.size=ops.size->Closed ops listed->(unl ops.size listed).length<=fuel ->
  Runs stp (unl ops.size listed) x y->∃ y',Runs stp (Region.linearise.go .any ops fuel t listed []) x y'/\eqv y y'
 | 0,t,listed,x,y,hsz,hc,hf,h=>by
  have:unl ops.size listed=[]:=List.eq_nil_of_length_eq_zero (by omega);rw[this] at h;exact ⟨y,by simpa [Region.linearise.go] using h,hsw.refl y⟩
 | fuel+1,t,listed,x,y,hsz,hc,hf,h=>by
  simp only[Region.linearise.go]
  change ∃ y',Runs stp (match (Region.ready .any ops listed)[t % (Region.ready .any ops listed).length]? with
   | some i=>Region.linearise.go .any ops fuel (t / (Region.ready .any ops listed).length) (listed.setIfInBounds i true) [i]
   | none=>[].reverse) x y'/\eqv y y'
  cases hi:(Region.ready .any ops listed)[t % (Region.ready .any ops listed).length]? with
  | none=>
   have hnil:Region.ready .any ops listed=[]:=by
    cases hr:Region.ready .any ops listed with
    | nil=>rfl
    | cons x xs=>
     rw[hr] at hi;have hlt:t % (x::xs).length<(x::xs).length:=Nat.mod_lt _ (by simp);simp at hi;simp at hlt;omega
   have:unl ops.size listed=[]:=by
    cases hu:unl ops.size listed with
    | nil=>rfl
    | cons i l=>
     exfalso;have hm:i∈unl ops.size listed:=by rw[hu];exact List.mem_cons_self ..
     have hm':=List.mem_filter.1 hm;have hlt:i<ops.size:=by simpa using hm'.1
     obtain ⟨o,ho,he,_⟩:=qui hd hlt;have hp:(unl ops.size listed).Pairwise (·<·):=(List.pairwise_lt_range).filter _;rw[hu] at hp
     have:i∈Region.ready .any ops listed:=Ax.mem_ready.2 ⟨hlt,by simpa using hm'.2,o,ho,fun e hee hb=>by
      have hei:=he e hee hb
      cases hle:listed.getD e.on false with
      | true=>rfl
      | false=>
       exfalso;have hmem:e.on∈unl ops.size listed:=by
        refine List.mem_filter.2 ⟨by simp;omega,?_⟩;rw[Array.getD_eq_getD_getElem?] at hle |-;have:e.on<listed.size:=by omega
        simp[this] at hle |-;exact hle
       rw[hu] at hmem;rcases List.mem_cons.1 hmem with e1 | e1
       ·omega
       ·have:=(List.pairwise_cons.1 hp).1 _ e1;omega⟩
     rw[hnil] at this;cases this
   rw[this] at h;exact ⟨y,by simpa using h,hsw.refl y⟩
  | some i=>
   simp only[];have hr:i∈Region.ready .any ops listed:=List.mem_of_getElem? hi;obtain ⟨h1,h2,o,ho,h3⟩:=Ax.mem_ready.1 hr;have hm:i∈unl ops.size listed:=List.mem_filter.2 ⟨by simpa using h1,by simpa using h2⟩;obtain ⟨c1,c2,he,hlt,he2⟩:=qo7 hm hsz;rw[linearise_go_acc,List.reverse_singleton,List.singleton_append];have hfront:∃ y',Runs stp (i::(c1++c2)) x y'/\eqv y y':=by
    have e3:c1++i::c2=(c1++[i])++c2:=by simp
    rw[he,e3,Runs.append] at h;obtain ⟨z,hz,h⟩:=h
    obtain ⟨z',hz',ez⟩:=Runs.front hsw ho c1 x z (fun j hj=>by
     obtain ⟨hji,hjl⟩:=hlt j hj;obtain ⟨o',ho',_,hall⟩:=qui hd h1;rw[ho] at ho';cases ho';obtain ⟨oj,hoj,hk⟩:=hall j hji;rcases hk with hk | hk
     ·exact ⟨oj,hoj,hk⟩
     ·have:=qfw hsz hc 12 i j o ho h3 hk;exfalso;rw[Array.getD_eq_getD_getElem?] at this hjl;have hjs:j<listed.size:=by omega
      simp[hjs] at this hjl
      rw[this] at hjl;cases hjl) hz
    have e4:i::(c1++c2)=(i::c1)++c2:=by simp
    obtain ⟨y',hy',ey⟩:=Runs.cong hsw ez h;exact ⟨y',by rw[e4,Runs.append];exact ⟨z',hz',hy'⟩,ey⟩
   obtain ⟨y1,⟨z,hz,hfront⟩,e1⟩:=hfront;have hle:(unl ops.size (listed.setIfInBounds i true)).length<=fuel:=by
    have:=congrArg List.length he;rw[he2];simp at this |-;omega
   obtain ⟨y2,hy2,e2⟩:=qqd hsw hd fuel (t / (Region.ready .any ops listed).length) _ z y1 (by simpa using hsz) (hc.set hsz hr) hle (by rw[he2];exact hfront);exact ⟨y2,⟨z,hz,hy2⟩,hsw.trans _ _ _ e1 e2⟩
theorem schedule_soundS {P:Program} (hm:P.follows .mixedOrders=true) (hsw:Sw ops stp eqv sw) (t:Nat) {x y:X} (hd:drawS sw ops=true) (h:Runs stp (List.range ops.size) x y) :
  ∃ y',Runs stp (Region.schedule (P.follows .mixedOrders) ops t) x y'/\eqv y y':=by
 simp only[Region.schedule,hm,Bool.true_or,if_true,Region.linearise];have hu:unl ops.size (Array.replicate ops.size false)=List.range ops.size:=by
  unfold unl;refine List.filter_eq_self.2 fun i hi=>?_
  have:i<ops.size:=by simpa using hi
  simp[this]
 refine qqd hsw hd _ _ _ x y (by simp) (fun i o ho hl e he hb hi=>?_) (by rw[hu];simp) (by rw[hu];exact h);simp[hi] at hl
end
end Go.Px
namespace Go.Ax
section
variable {P:Program} {F:FuncId->Bool} {ev:Req->Option Res} {ops:Array Oper} {n:Nat}
def qm0 (P:Program) (o:Oper):Bool:=qb4 P o.op || qb3 o.op
def qf9:Op->Bool
 | .slice _ _ _ _ _=>true
 | _=>false
def q16:Option Value->Bool
 | some (.slice (some _) _ cap)=>decide (cap≠qai)
 | some (.slice none _ _)=>true
 | some (.string _)=>true
 | _=>false
def qr9 (ρ:Operand->Option Value) (o:Oper):Bool:=match o.op with
 | .slice _ x _ _ _=>q16 (ρ x)
 | _=>true
def swP (P:Program) (ops:Array Oper) (x y:Oper):Bool:=x.apart ops y&&(qb4 P x.op || qb4 P y.op || (qm0 P x&&qm0 P y) || qf9 x.op || qf9 y.op)
def qlm (P:Program) (F:FuncId->Bool) (ev:Req->Option Res) (n:Nat) (ops:Array Oper):List Nat->T Value × AHeap->Option (T Value × AHeap)
 | [],x=>some x
 | i::l,x=>match ops[i]? with
  | some o=>if qr9 (qan x.1) o=true then (qa8 P F ev n ops i x).bind (qlm P F ev n ops l) else none
  | none=>none
def qof (P:Program) (F:FuncId->Bool) (ev:Req->Option Res) (n:Nat) (ops:Array Oper) (x:T Value × AHeap):Option (T Value × AHeap):=
 match qrt P F ev n ops x with
 | some y=>some y
 | none=>match Px.drawS (swP P ops) ops with
  | true=>qlm P F ev n ops (List.range ops.size) x
  | false=>none
theorem qe4 {o:Oper} {E:T Value} {H H':AHeap} {v:Value} (hs:qm0 P o=true) (h:qbc P F ev ops o E H=some (v,H')):H'=H:=by
 simp only[qm0,Bool.or_eq_true] at hs;rcases hs with hs | hs
 ·exact (qel hs h).1
 ·unfold qbc at h
  cases hw:qaj ops o E with
  | none=>rw[hw] at h;cases h
  | some b=>
   rw[hw] at h
   cases b with
   | false=>cases h;rfl
   | true=>
    simp only at h
    cases ha:aOp P F (qan E) H o with
    | none=>rw[ha] at h;cases h
    | some r=>
     obtain ⟨r,H1⟩:=r;obtain ⟨v0,rfl,rfl⟩:=qhl hs ha;rw[ha] at h;cases h;rfl
theorem ql3 {o:Oper} {E E':T Value} (h:Agree ops o E E'):qr9 (qan E) o=qr9 (qan E') o:=by
 have he:∀ x∈o.op.operands,qan E x=qan E' x:=fun x hx=>h.eval hx
 obtain ⟨dst,op,type,pos,after,guard⟩:=o
 cases op <;> simp only[qr9]
 case slice t x lo hi mx=>rw[he x (by simp[Op.operands])]
theorem qsp {H H2:AHeap} {t:TypeId} {x:Value} {lo hi mx:Option Value} (h:q16 (some x)=true):qby P H2 t x lo hi mx=qby P H t x lo hi mx:=by
 cases x with
 | slice a len cap=>
  cases a with
  | none=>rfl
  | some a=>
   simp only[q16,decide_eq_true_eq] at h;simp only[qby,if_neg h]
 | string s=>rfl
 | _=>simp[q16] at h
theorem qlp {o:Oper} {E:T Value} {H H':AHeap} {v:Value} (hs:qf9 o.op=true) (hf:qr9 (qan E) o=true) (h:qbc P F ev ops o E H=some (v,H')):H'=H/\∀ H2,qbc P F ev ops o E H2=some (v,H2):=by
 have hr:qm0 P o=true:=by
  obtain ⟨dst,op,type,pos,after,guard⟩:=o
  cases op <;> simp_all [qf9,qm0,qb3]
 refine ⟨qe4 hr h,fun H2=>?_⟩;have e:=qe4 hr h;subst e;unfold qbc at h |-
 cases hw:qaj ops o E with
 | none=>rw[hw] at h;cases h
 | some b=>
  rw[hw] at h
  cases b with
  | false=>cases h;rfl
  | true=>
   simp only at h |-;obtain ⟨dst,op,type,pos,after,guard⟩:=o
   cases op with
   | slice t x lo hi mx=>
    simp only[qr9] at hf;simp only[aOp] at h |-
    cases hx:qan E x with
    | none=>rw[hx] at h;simp at h
    | some vx=>
     rw[hx] at hf;rw[hx] at h
     cases hlo:aOpt (qan E) lo with
     | none=>rw[hlo] at h;simp at h
     | some l=>
      cases hhi:aOpt (qan E) hi with
      | none=>rw[hlo,hhi] at h;simp at h
      | some hh=>
       cases hmx:aOpt (qan E) mx with
       | none=>rw[hlo,hhi,hmx] at h;simp at h
       | some mm=>
        rw[hlo,hhi,hmx] at h;simp only[Option.bind_some] at h |-;rw[qsp (H:=H') hf]
        cases hs2:qby P H' t vx l hh mm with
        | none=>rw[hs2] at h;simp at h
        | some r=>rw[hs2] at h;simp only[Option.map_some] at h |-;cases h;rfl
   | _=>simp[qf9] at hs
def StpB (P:Program) (F:FuncId->Bool) (ev:Req->Option Res) (n:Nat) (ops:Array Oper) (i:Nat) (x y:T Value × AHeap):Prop:=∃ o,ops[i]?=some o/\qr9 (qan x.1) o=true/\qa8 P F ev n ops i x=some y
theorem qru {i j:Nat} {oi oj:Oper} (hi:ops[i]?=some oi) (hj:ops[j]?=some oj) (hs:swP P ops oj oi=true) {x x1 x2:T Value × AHeap}
  (h1:StpB P F ev n ops j x x1) (h2:StpB P F ev n ops i x1 x2):∃ x3,StpB P F ev n ops i x x3/\StpB P F ev n ops j x3 x2:=by
 simp only[swP,Bool.and_eq_true,Bool.or_eq_true] at hs;obtain ⟨hap,hk⟩:=hs;obtain ⟨a1,a2,a3⟩:=Oper.apart_spec hap;obtain ⟨E,H⟩:=x;obtain ⟨oj',hj',fj,h1⟩:=h1;obtain ⟨oi',hi',fi,h2⟩:=h2;rw[hj] at hj';cases hj';rw[hi] at hi';cases hi';simp only[qa8,hi,hj] at h1 h2;rw[Option.bind_eq_some_iff] at h1;obtain ⟨⟨vj,Hj⟩,hej,h1⟩:=h1;rw[Option.map_eq_some_iff] at h1;obtain ⟨E1,hpj,rfl⟩:=h1;rw[Option.bind_eq_some_iff] at h2;obtain ⟨⟨vi,Hi⟩,hei,h2⟩:=h2;rw[Option.map_eq_some_iff] at h2;obtain ⟨E2,hpi,rfl⟩:=h2;simp only at hej hei hpj hpi fj fi;have agi:Agree ops oi E1 E:=fun d hd=>qku hpj fun e=>a1 d e hd
 rw[qhs agi] at hei;rw[ql3 agi] at fi;obtain ⟨E3,hp3⟩:=qpk hpi E;have agj:Agree ops oj E3 E:=fun d hd=>qku hp3 fun e=>a3 d e hd
 have hfin:putE n oj.dst vj E3=some E2:=qpl hpj hpi hp3 a2;have fin:∀ H3,qbc P F ev ops oi E H=some (vi,H3)->qbc P F ev ops oj E H3=some (vj,Hi)->∃ x3,StpB P F ev n ops i (E,H) x3/\StpB P F ev n ops j x3 (E2,Hi):=by
  intro H3 k1 k2;refine ⟨(E3,H3),⟨oi,hi,fi,by simp only[qa8,hi,k1];simp[hp3]⟩,oj,hj,by rw[ql3 agj];exact fj,?_⟩;simp only[qa8,hj];rw[qhs agj,k2];simp[hfin]
 rcases hk with ((hk | hk) | hk) | hk
 ·rcases hk with hk | hk
  ·obtain ⟨e,hall⟩:=qel hk hej;subst e;exact fin Hi hei (hall Hi)
  ·obtain ⟨e,hall⟩:=qel hk hei;subst e;exact fin H (hall H) hej
 ·have e1:=qe4 hk.1 hej;subst e1;have e2:=qe4 hk.2 hei;subst e2;exact fin _ hei hej
 ·obtain ⟨e,hall⟩:=qlp hk fj hej;subst e;exact fin Hi hei (hall Hi)
 ·obtain ⟨e,hall⟩:=qlp hk fi hei;subst e;exact fin H (hall H) hej
theorem qti:∀ {l:List Nat} {x y:T Value × AHeap},qlm P F ev n ops l x=some y->Px.Runs (StpB P F ev n ops) l x y
 | [],x,y,h=>by simp only[qlm,Option.some.injEq] at h;exact h
 | i::l,x,y,h=>by
  simp only[qlm] at h;split at h
  ·rename_i o ho;split at h
   ·rename_i hf;rw[Option.bind_eq_some_iff] at h;obtain ⟨z,h1,h2⟩:=h;exact ⟨z,⟨o,ho,hf,h1⟩,qti h2⟩
   ·cases h
  ·cases h
theorem qtg:∀ {l:List Nat} {x y:T Value × AHeap},Px.Runs (StpB P F ev n ops) l x y->qf1 P F ev n ops l x=some y
 | [],x,y,h=>by simp only[Px.Runs] at h;subst h;rfl
 | i::l,x,y,⟨z,⟨_,_,_,h1⟩,h2⟩=>by simp only[qf1,h1,Option.bind_some];exact qtg h2
theorem q9h:Px.Sw ops (StpB P F ev n ops) Eq (swP P ops) where
 refl _:=rfl
 trans _ _ _ h k:=h.trans k
 cong i x x' y h e:=⟨y,h ▸ e,rfl⟩
 swap i j oi oj x x1 x2 hi hj hs h1 h2:=by
  obtain ⟨x3,h3,h4⟩:=qru hi hj hs h1 h2;exact ⟨x3,x2,h3,h4,rfl⟩
theorem qle (hm:P.follows .mixedOrders=true) (t:Nat) {x y:T Value × AHeap} (h:qof P F ev n ops x=some y) :
  qf1 P F ev n ops (Region.schedule (P.follows .mixedOrders) ops t) x=some y:=by
 unfold qof at h;split at h
 ·rename_i y' hy;cases h;exact qmo hm t hy
 ·split at h
  ·rename_i hd;obtain ⟨y',h1,rfl⟩:=Px.schedule_soundS hm q9h t hd (qti h);exact qtg h1
  ·cases h
end
def qb8:Nat->List Value->T Value->T Value
 | _,[],E=>E
 | k,v::l,E=>qb8 (k+1) l (T.set 20 E k v)
def qfv (P:Program) (E:T Value) (H:AHeap):ResultVar->Option Value
 | .tmp t=>E.get t
 | .cell a t=>match E.get a with
  | some p=>qgj P H t p
  | none=>none
def qez:List Value->Value
 | [v]=>v
 | vs=>.tuple vs.toArray
def qew (H:AHeap):List Nat->Option AHeap
 | []=>some H
 | d::ds=>match H.t.get d with
  | some (.deferred true)=>if idOK d then qew (H.put d (.deferred false)) ds else none
  | _=>none
def qei:List Tmp->List Value->Nat->T Value->Option (T Value)
 | [],[],_,E=>some E
 | p::ps,v::vs,n,E=>(putE n (some p) v E).bind fun E=>qei ps vs n E
 | _,_,_,_=>none
def qal:AExit->Option Code
 | .normal=>none
 | .exit id=>some (.exit id)
 | .goto l=>some (.goto l)
 | .ret=>some .ret
def qy8:Option Code->Option AExit
 | none=>some .normal
 | some (.exit id)=>some (.exit id)
 | some (.goto l)=>some (.goto l)
 | some .ret=>some .ret
 | some _=>none
def qaw (P:Program) (F:FuncId->Option Func) (ev:Req->Option Res) (fs:FrS) (c:Code) (s:AS):Option Res:=
 match c with
 | .skip=>some (.exit .normal s)
 | .label _=>some (.exit .normal s)
 | .seq a b=>match ev (.code fs a s) with
  | some (.exit .normal s1)=>ev (.code fs b s1)
  | r=>r
 | .cond c a b=>match qan s.env c with
  | some (.bool t)=>ev (.code fs (if t then a else b) s)
  | _=>none
 | .block id c=>match ev (.code fs c s) with
  | some (.exit (.exit id') s1)=>if id'=id then some (.exit .normal s1) else some (.exit (.exit id') s1)
  | r=>r
 | .loop c=>match ev (.code fs c s) with
  | some (.exit .normal s1)=>ev (.again fs c s1)
  | r=>r
 | .scope c=>ev (.scope fs c c s)
 | .exit id=>some (.exit (.exit id) s)
 | .goto l=>some (.exit (.goto l) s)
 | .ret=>some (.exit .ret s)
 | .region _ ops true=>(qof P (fun f=>(F f).isSome) ev fs.n ops (s.env,s.H)).map fun r=>.exit .normal { s with env:=r.1,H:=r.2 }
 | .region _ ops false=>(qf1 P (fun f=>(F f).isSome) ev fs.n ops (List.range ops.size) (s.env,s.H)).map fun r=>.exit .normal { s with env:=r.1,H:=r.2 }
 | .rangeFunc f ps assign body=>
  match qan s.env f with
  | some (.func (.func g) first captured)=>
   if (F g).isSome then
    let start (d:Nat) (H1:AHeap) (defs:List Nat):Option Res:=
     if idOK H1.next then
      match ev (.call g (first++#[.func (.yield H1.next) #[] #[]]++captured) (H1.add (.loop { state:=.ready,pending:=none,fn:=fs.fn,tmps:=#[],params:=ps,assign,body,defers:=d } s.env fs.n))) with
      | some (.value _ H3)=>
       match H3.t.get H1.next with
       | some (.loop L E n)=>if L.state == .busy then none else
        match qy8 L.pending with
        | some e=>some (.exit e { s with defs:=defs,H:=H3.put H1.next (.loop { L with state:=.exhausted } E n) })
        | none=>none
       | _=>none
      | _=>none
     else none
    match fs.rd with
    | none=>if idOK s.H.next then start s.H.next (s.H.add (.deferred true)) (s.H.next::s.defs) else none
    | some l=>match s.H.t.get l with
     | some (.loop L _ _)=>start L.defers s.H s.defs
     | _=>none
   else none
  | _=>none
 | .refuse _=>none
def eval (P:Program) (F:FuncId->Option Func):Nat->Req->Option Res
 | 0,_=>none
 | k+1,.code fs c s=>qaw P F (eval P F k) fs c s
 | k+1,.again fs c s=>match eval P F k (.code fs c s) with
  | some (.exit .normal s1)=>eval P F k (.again fs c s1)
  | r=>r
 | k+1,.scope fs body rest s=>match eval P F k (.code fs rest s) with
  | some (.exit (.goto l) s1)=>match findLabel body l with
   | some rest=>eval P F k (.scope fs body rest s1)
   | none=>some (.exit (.goto l) s1)
  | r=>r
 | k+1,.call f args H=>match F f with
  | some fn=>match fn.body with
   | some c=>if args.size<=fn.ntmps/\args.size<1000 then
     match eval P F k (.code ⟨f,none,fn.ntmps⟩ c ⟨qb8 0 args.toList .nil,[],H⟩) with
     | some (.exit e s)=>match e with
      | .normal | .ret=>(qew s.H s.defs).bind fun H2=>(qbn (fn.results.toList.map (qfv P s.env H2))).map fun vs=>.value (qez vs) H2
      | _=>none
     | _=>none
    else none
   | none=>none
  | none=>none
 | k+1,.round l args H=>match H.t.get l with
  | some (.loop L E n)=>
   if L.state == .ready/\args.size=L.params.size/\idOK l then
    match qei L.params.toList args.toList n E with
    | some E1=>match eval P F k (.code ⟨L.fn,some l,n⟩ L.assign ⟨E1,[],H⟩) with
     | some (.exit .normal s1)=>match s1.H.t.get l with
      | some (.loop L1 E' n')=>if L1.state == .ready then
        match eval P F k (.code ⟨L.fn,some l,n⟩ L.body { s1 with H:=s1.H.put l (.loop { L1 with state:=.busy } E' n') }) with
        | some (.exit e s3)=>match s3.H.t.get l,s3.defs with
         | some (.loop L3 E3 n3),[]=>some (.value (.bool (qal e).isNone) (s3.H.put l (.loop { L3 with state:=if (qal e).isNone then .ready else .done,pending:=qal e } E3 n3)))
         | _,_=>none
        | _=>none
       else none
      | _=>none
     | _=>none
    | none=>none
   else none
  | _=>none
end Go.Ax
