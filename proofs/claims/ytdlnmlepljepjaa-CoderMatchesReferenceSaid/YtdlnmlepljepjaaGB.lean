/-
  A part of the proof: a run over an abstract memory, its soundness and its rules; each theorem says its conditions.
-/
import Derived.Test.YtdlnmlepljepjaaGA
import Derived.Orders
set_option linter.unusedVariables false
set_option linter.unusedSimpArgs false
namespace Go.Ax
def qgi (P:Program) (s:TypeId):Bool:=match qaa P (underlying s) with
 | some (.int _)=>true
 | _=>false
def qw0 (P:Program) (s d:TypeId) (a:Value):Option Value:=match qaa P (convert s d a) with
 | some v=>if flat a/\flat v then some v else none
 | none=>none
def qc5 (P:Program) (H:AHeap) (b:Builtin) (ts:Array TypeId) (type:TypeId) (args:List Value):Option (ANext × AHeap):=
 match b,args with
 | .append,[s,x]=>(qap P H ts s x).map λ r=>(.val r.1,r.2)
 | .copy,[s,x]=>(qo6 P H ts s x).map λ r=>(.val r.1,r.2)
 | .clear,[s]=>(qjc P H ts s).map λ r=>(.val r.1,r.2)
 | .len,args=>(aLen P ts type args.toArray).map λ v=>(.val v,H)
 | .min,args=>if qbd args then match qaa P (Builtin.min_ ts type args.toArray) with
  | some v=>if flat v then some (.val v,H) else none
  | none=>none else none
 | .max,args=>if qbd args then match qaa P (Builtin.max_ ts type args.toArray) with
  | some v=>if flat v then some (.val v,H) else none
  | none=>none else none
 | _,_=>none
def qjb (F:FuncId->Bool) (H:AHeap) (f:Option Value) (args:List Value):Option (ANext × AHeap):=
 match f with
 | some (.func (.func g) first captured)=>if F g then some (.enter g (first++args.toArray++captured),H) else none
 | some (.func (.yield l) first _)=>some (.yld l (first++args.toArray),H)
 | _=>none
def qrh:TypeDesc->Bool
 | .pointer _=>true
 | _=>false
def qsq (P:Program) (t:TypeId) (name:String):Option FuncId:=
 match qaa P (typeInfo t),qaa P (underlying t) with
 | some i,some d=>match i.methods.find? (·.name == name) with
  | some m=>match m.path.toList,m.func with
   | [],some (f,pr)=>if pr=qrh d then some f else none
   | _,_=>none
  | none=>none
 | _,_=>none
def qh7 (P:Program) (F:FuncId->Bool) (ρ:Operand->Option Value) (H:AHeap) (c:Call) (type:TypeId):Option (ANext × AHeap):=
 match c.callee with
 | .builtin b=>(qno ρ c.args).bind λ args=>qc5 P H b c.argTypes type args
 | .value f=>(qno ρ c.args).bind λ args=>qjb F H (ρ f) args
 | .invoke x name=>match ρ x with
  | some (.iface t v)=>match qsq P t name with
   | some f=>(qno ρ c.args).bind λ args=>qjb F H (some (.func (.func f) #[v] #[])) args
   | none=>none
  | _=>none
def aOpt (ρ:Operand->Option Value):Option Operand->Option (Option Value)
 | none=>some none
 | some x=>match ρ x with
  | some v=>if flat v then some (some v) else none
  | none=>none
def aOp (P:Program) (F:FuncId->Bool) (ρ:Operand->Option Value) (H:AHeap) (o:Oper):Option (ANext × AHeap):=
 let v (r:Option Value):Option (ANext × AHeap):=r.map λ v=>(.val v,H)
 let vh (r:Option (Value × AHeap)):Option (ANext × AHeap):=r.map λ r=>(.val r.1,r.2)
 match o.op with
 | .move x | .assign x=>v (ρ x)
 | .pick c a b=>match ρ c with
  | some (.bool true)=>v (ρ a)
  | some (.bool false)=>v (ρ b)
  | _=>none
 | .alloc e=>vh (qr7 P H e)
 | .box e x=>(ρ x).bind λ x=>vh (aNew H e x.cells.toList)
 | .build t parts=>(ql9 ρ parts).bind λ l=>v (qk7 P t l.toArray)
 | .buildSlice t n parts=>(ql9 ρ parts).bind λ l=>vh (qdm P H t n l.toArray)
 | .load t a=>(ρ a).bind λ a=>v (qjk P H t a)
 | .store t a x=>(ρ a).bind λ a=>(ρ x).bind λ x=>(qcj P H t a x).map λ H=>(.skip,H)
 | .nilCheck x=>match ρ x with
  | some (.pointer (some a))=>some (.val (.pointer (some a)),H)
  | some (.func (.func f) x y)=>some (.val (.func (.func f) x y),H)
  | _=>none
 | .binOp op t x y _=>(ρ x).bind λ a=>(ρ y).bind λ b=>v (aBin P op t x y a b)
 | .unOp op _ x=>(ρ x).bind λ a=>if flat a then match qaa P (Op.unary op a) with
  | some r=>if flat r then some (.val r,H) else none
  | none=>none else none
 | .convert s d x=>(ρ x).bind λ a=>if qgi P s then v (qw0 P s d a) else vh (qb1 P H s d a)
 | .makeInterface t x=>(ρ x).bind λ a=>match qaa P (underlying t) with
  | some (.interface _)=>none
  | some _=>some (.val (.iface t a),H)
  | none=>none
 | .makeFunc fn first captured=>match fn with
  | .func f=>(qno ρ first).bind λ x=>(qno ρ captured).bind λ y=>some (.val (.func (.func f) x.toArray y.toArray),H)
  | _=>none
 | .makeSlice t l c=>(ρ l).bind λ l=>(ρ c).bind λ c=>vh (qga P H t l c)
 | .slice t x lo hi mx=>(ρ x).bind λ x=>(aOpt ρ lo).bind λ lo=>(aOpt ρ hi).bind λ hi=>(aOpt ρ mx).bind λ mx=>v (qbv P H t x lo hi mx)
 | .fieldAddr s x f=>(ρ x).bind λ x=>v (qec P s f x)
 | .field t x f=>(ρ x).bind λ x=>v (qo5 P t f x)
 | .indexAddr t x i=>(ρ x).bind λ x=>(ρ i).bind λ i=>v (qb8 P t x i)
 | .index t x i=>(ρ x).bind λ x=>(ρ i).bind λ i=>v (qma P t x i)
 | .range t x=>(ρ x).bind λ x=>vh (qr3 P H t x)
 | .next it s=>(ρ it).bind λ x=>vh (qwz H s x)
 | .extract t i=>match ρ t with
  | some (.tuple vs)=>v vs[i]?
  | _=>none
 | .call c=>qh7 P F ρ H c o.type
 | .makeMap t r=>(aOpt ρ r).bind λ r=>vh (qjw P H t r)
 | .lookup t x k ok=>(ρ x).bind λ x=>(ρ k).bind λ k=>v (qft P H t x k ok)
 | .mapUpdate t m k x | .insert t m k x=>(ρ m).bind λ m=>(ρ k).bind λ k=>(ρ x).bind λ x=>(qcp P H t m k x).map λ H=>(.skip,H)
 | _=>none
def OpSnd (P:Program) (base:Prot) (M:Map) (w:World) (s:Sem Next):ANext->AHeap->Prop
 | .val v,H'=>∃ M' w' r,s.run P w=.ok (.value r) w'/\Ext M M'/\VR M' v r/\Rel base M' H' w'/\Below base w w'
 | .skip,H'=>∃ w',s.run P w=.ok .skip w'/\Rel base M H' w'/\Below base w w'
 | .enter f args,H'=>∃ args',s.run P w=.ok (.enter f args') w/\VRA M args args'/\Rel base M H' w
 | .yld l args,H'=>∃ b args',M[l]?=some b/\VRA M args args'/\Rel base M H' w/\s.run P w=(Instr.yield b.real args').run P w
section
variable {P:Program} {base:Prot} {M:Map} {H H':AHeap} {w:World}
theorem OpSnd.of_snd {s:Sem Value} {v:Value} (h:Snd P base M w s v H') {t:Sem Next} (ht:t=(do pure (.value (<- s)))):OpSnd P base M w t (.val v) H':=by
 obtain ⟨M',w',r,hr,rest⟩:=h;exact ⟨M',w',r,by rw[ht];simp[hr],rest⟩
theorem qf9 {ρ:Operand->Option Value} {ρ':Operand->Value} (hρ:∀ x v,ρ x=some v->VR M v (ρ' x)) {x:Option Operand} {v:Option Value} (h:aOpt ρ x=some v):x.map ρ'=v:=by
 cases x with
 | none=>simp only[aOpt,Option.some.injEq] at h;subst h;rfl
 | some x=>
  simp only[aOpt] at h;split at h
  next v0 hv=>
   split at h
   next hf=>cases h;rw[Option.map_some,(VR.flat_iff _ hf _).1 (hρ x v0 hv)]
   ·cases h
  ·cases h
theorem q2e {t:TypeId} {name:String} {f:FuncId} (h:qsq P t name=some f) (k:Nat) (v:Value) (w:World):(method (k+1) t v name).run P w=.ok (f,v) w:=by
 unfold qsq at h;split at h
 next i d hi hd=>
  split at h
  next m hm=>
   split at h
   next f' pr hp hf=>
    split at h
    next hpr=>
     cases h;unfold method;simp only[Sem.run_bind,qab hi,Result.andThen_ok,hm,hp,follow,Sem.run_pure,hf];unfold receiverAt;simp only[Sem.run_bind,qab hd,Result.andThen_ok]
     cases hpr':qrh d with
     | true=>
      rw[hpr'] at hpr;subst hpr
      cases d <;> simp[qrh] at hpr' <;> simp[Place.get]
     | false=>
      rw[hpr'] at hpr;subst hpr
      cases d <;> simp[qrh] at hpr' <;> simp[Place.get]
    ·cases h
   ·cases h
  ·cases h
 ·cases h
theorem qqc (h:Rel base M H w) {F:FuncId->Bool} (hF:∀ f,F f=true->∀ args w,(callFunc f args).run P w=.ok (.enter f args) w) {ρ:Operand->Option Value} {ρ':Operand->Value} (hρ:∀ x v,ρ x=some v->VR M v (ρ' x))
  {c:Call} {type:TypeId} {n:ANext} (ha:qh7 P F ρ H c type=some (n,H')):OpSnd P base M w (do let d <- resolve ρ' c type;invoke d.target d.args) n H':=by
 unfold qh7 at ha;split at ha
 next b hc=>
  rw[Option.bind_eq_some_iff] at ha;obtain ⟨args,hargs,ha⟩:=ha;have hal:=qdn hρ hargs;unfold qc5 at ha;split at ha
  next s x=>rw[Option.map_eq_some_iff] at ha;obtain ⟨⟨v,H2⟩,hr,he⟩:=ha;cases he;refine OpSnd.of_snd (qdu (P:=P) (t:=type) h hr hal) ?_;simp[resolve,hc,invoke,builtin]
  next s x=>rw[Option.map_eq_some_iff] at ha;obtain ⟨⟨v,H2⟩,hr,he⟩:=ha;cases he;refine OpSnd.of_snd (qeb (P:=P) (t:=type) h hr hal) ?_;simp[resolve,hc,invoke,builtin]
  next s=>rw[Option.map_eq_some_iff] at ha;obtain ⟨⟨v,H2⟩,hr,he⟩:=ha;cases he;refine OpSnd.of_snd (qdj (P:=P) (t:=type) h hr hal) ?_;simp[resolve,hc,invoke,builtin]
  ·rw[Option.map_eq_some_iff] at ha;obtain ⟨v,hr,he⟩:=ha;cases he;refine OpSnd.of_snd (qvo (P:=P) (t:=type) (args':=c.args.map ρ') h hr (by simpa using hal)) ?_;simp[resolve,hc,invoke,builtin]
  ·split at ha
   next hf=>
    split at ha
    next v0 hv0=>
     split at ha
     next hfv=>
      cases ha;have he:=(VRL.flat_iff _ hf _).1 hal;have he:c.args.map ρ'=args.toArray:=by rw[<- he,Array.toArray_toList]
      refine OpSnd.of_snd (s:=Builtin.min_ c.argTypes type args.toArray) (Snd.still h (qab hv0 w) (VR.self hfv)) ?_;simp[resolve,hc,invoke,builtin,he]
     ·cases ha
    ·cases ha
   ·cases ha
  ·split at ha
   next hf=>
    split at ha
    next v0 hv0=>
     split at ha
     next hfv=>
      cases ha;have he:=(VRL.flat_iff _ hf _).1 hal;have he:c.args.map ρ'=args.toArray:=by rw[<- he,Array.toArray_toList]
      refine OpSnd.of_snd (s:=Builtin.max_ c.argTypes type args.toArray) (Snd.still h (qab hv0 w) (VR.self hfv)) ?_;simp[resolve,hc,invoke,builtin,he]
     ·cases ha
    ·cases ha
   ·cases ha
  ·cases ha
 next f hc=>
  rw[Option.bind_eq_some_iff] at ha;obtain ⟨args,hargs,ha⟩:=ha;have hal:=qdn hρ hargs;unfold qjb at ha;split at ha
  next g first captured hf=>
   have hv:=hρ _ _ hf;simp only[VR] at hv;obtain ⟨fn',x',y',hfn,hx,hy,hv⟩:=hv;simp only[FnR] at hfn;subst hfn;split at ha
   next hg=>
    cases ha;refine ⟨x'++c.args.map ρ'++y',?_,?_,h⟩
    ·simp[resolve,hc,hv,Deferred.ofValue,invoke,hF g hg]
    ·rw[VRA.iff] at hx hy |-;simp only[Array.toList_append];exact (hx.append hal).append hy
   ·cases ha
  next l first captured hf=>
   cases ha;have hv:=hρ _ _ hf;simp only[VR] at hv;obtain ⟨fn',x',y',hfn,hx,hy,hv⟩:=hv;simp only[FnR] at hfn;obtain ⟨b,hb,rfl⟩:=hfn;refine ⟨b,x'++c.args.map ρ',hb,?_,h,?_⟩
   ·rw[VRA.iff] at hx |-;simp only[Array.toList_append];exact hx.append hal
   ·simp[resolve,hc,hv,Deferred.ofValue,invoke]
  ·cases ha
 next x name hc=>
  split at ha
  next t v hx=>
   split at ha
   next f hm=>
    rw[Option.bind_eq_some_iff] at ha;obtain ⟨args,hargs,ha⟩:=ha;have hal:=qdn hρ hargs;have hv:=hρ _ _ hx;simp only[VR] at hv;obtain ⟨v',hvr,hv⟩:=hv;simp only[qjb] at ha;split at ha
    next hg=>
     cases ha;refine ⟨#[v']++c.args.map ρ',?_,?_,h⟩
     ·have hex:(#[Value.iface t v']++c.args.map ρ').extract 1 (#[Value.iface t v']++c.args.map ρ').size=c.args.map ρ':=by
       apply Array.ext';simp only[Array.toList_extract,Array.toList_append,List.extract_eq_take_drop];simp;exact List.take_of_length_le (by simp)
      obtain ⟨k,hk⟩:∃ k,P.types.size+Made.depth=k+1:=⟨P.types.size+(Made.depth-1),by
       have h9:Made.depth=(Made.depth-1)+1:=by decide
       omega⟩
      simp only[resolve,hc,hv,invoke,Sem.run_bind,Sem.run_pure,Result.andThen_ok];have h0:(#[Value.iface t v']++c.args.map ρ')[0]?=some (.iface t v'):=by
       rw[<- Array.getElem?_toList,Array.toList_append];rfl
      rw[h0];simp only[hex,callMethod,Sem.run_bind];have hpg:(program:Sem Program).run P w=.ok P w:=rfl;simp only[hpg,Result.andThen_ok,hk,q2e hm,hF f hg]
     ·rw[VRA.iff] at *;have:=VRL.cons hvr hal;simpa using this
    ·cases ha
   ·cases ha
  ·cases ha
end
section
variable {P:Program} {base:Prot} {M:Map} {H H':AHeap} {w:World}
set_option maxHeartbeats 4000000 in
theorem qfs (h:Rel base M H w) {F:FuncId->Bool} (hF:∀ f,F f=true->∀ args w,(callFunc f args).run P w=.ok (.enter f args) w) {ρ:Operand->Option Value} {ρ':Operand->Value} (hρ:∀ x v,ρ x=some v->VR M v (ρ' x))
  {o:Oper} {n:ANext} (ha:aOp P F ρ H o=some (n,H')):OpSnd P base M w (execOp ρ' o) n H':=by
 obtain ⟨dst,op,type,pos,after,guard⟩:=o;have mv:∀ {v:Option Value},(v.map λ v=>(ANext.val v,H))=some (n,H')->∃ x,v=some x/\n=.val x/\H'=H:=by
  intro v hv;rw[Option.map_eq_some_iff] at hv;obtain ⟨x,hx,he⟩:=hv
  cases he;exact ⟨x,hx,rfl,rfl⟩
 have mh:∀ {r:Option (Value × AHeap)},(r.map λ r=>(ANext.val r.1,r.2))=some (n,H')->∃ x,r=some (x,H')/\n=.val x:=by
  intro r hr;rw[Option.map_eq_some_iff] at hr;obtain ⟨⟨x,H2⟩,hx,he⟩:=hr
  cases he;exact ⟨x,hx,rfl⟩
 cases op <;> simp only[aOp] at ha
 case move x=>
  obtain ⟨v,hv,rfl,rfl⟩:=mv ha;exact ⟨M,w,_,rfl,Ext.refl M,hρ _ _ hv,h,Below.refl _ _⟩
 case assign x=>
  obtain ⟨v,hv,rfl,rfl⟩:=mv ha;exact ⟨M,w,_,rfl,Ext.refl M,hρ _ _ hv,h,Below.refl _ _⟩
 case pick c a b=>
  split at ha
  next hc=>obtain ⟨v,hv,rfl,rfl⟩:=mv ha;have hc':=hρ _ _ hc;simp only[VR] at hc';exact ⟨M,w,_,by simp[execOp,hc',asBool],Ext.refl M,hρ _ _ hv,h,Below.refl _ _⟩
  next hc=>obtain ⟨v,hv,rfl,rfl⟩:=mv ha;have hc':=hρ _ _ hc;simp only[VR] at hc';exact ⟨M,w,_,by simp[execOp,hc',asBool],Ext.refl M,hρ _ _ hv,h,Below.refl _ _⟩
  ·cases ha
 case alloc e=>
  obtain ⟨v,hv,rfl⟩:=mh ha;exact OpSnd.of_snd (qqb h hv) rfl
 case box e x=>
  rw[Option.bind_eq_some_iff] at ha;obtain ⟨vx,hx,ha⟩:=ha;obtain ⟨v,hv,rfl⟩:=mh ha;exact OpSnd.of_snd (qwp h hv (hρ _ _ hx)) rfl
 case build t parts=>
  rw[Option.bind_eq_some_iff] at ha;obtain ⟨l,hl,ha⟩:=ha;obtain ⟨v,hv,rfl,rfl⟩:=mv ha;exact OpSnd.of_snd (qp8 (parts':=parts.map λ (i,x)=>(i,ρ' x)) h hv (by simpa using qi8 hρ hl)) rfl
 case buildSlice t k parts=>
  rw[Option.bind_eq_some_iff] at ha;obtain ⟨l,hl,ha⟩:=ha;obtain ⟨v,hv,rfl⟩:=mh ha;exact OpSnd.of_snd (qjj (parts':=parts.map λ (i,x)=>(i,ρ' x)) h hv (by simpa using qi8 hρ hl)) rfl
 case load t a=>
  rw[Option.bind_eq_some_iff] at ha;obtain ⟨va,hva,ha⟩:=ha;obtain ⟨v,hv,rfl,rfl⟩:=mv ha;exact OpSnd.of_snd (qf2 h hv (hρ _ _ hva)) rfl
 case store t a x=>
  rw[Option.bind_eq_some_iff] at ha;obtain ⟨va,hva,ha⟩:=ha;rw[Option.bind_eq_some_iff] at ha;obtain ⟨vx,hvx,ha⟩:=ha;rw[Option.map_eq_some_iff] at ha;obtain ⟨H2,hs,he⟩:=ha;cases he;obtain ⟨w',hr,hrel,hb⟩:=qc7 h hs (hρ _ _ hva) (hρ _ _ hvx);exact ⟨w',by simp[execOp,hr],hrel,hb⟩
 case nilCheck x=>
  split at ha
  next a hx=>cases ha;have hv:=hρ _ _ hx;have hv':=hv;simp only[VR] at hv';obtain ⟨b,hb,e⟩:=hv';exact ⟨M,w,_,by simp only[execOp,e];rfl,Ext.refl M,by rw[<- e];exact hv,h,Below.refl _ _⟩
  next f a b hx=>cases ha;have hv:=hρ _ _ hx;have hv':=hv;simp only[VR] at hv';obtain ⟨fn',x',y',hfn,_,_,e⟩:=hv';simp only[FnR] at hfn;subst hfn;exact ⟨M,w,_,by simp only[execOp,e];rfl,Ext.refl M,by rw[<- e];exact hv,h,Below.refl _ _⟩
  ·cases ha
 case binOp op t x y yt=>
  rw[Option.bind_eq_some_iff] at ha;obtain ⟨vx,hx,ha⟩:=ha;rw[Option.bind_eq_some_iff] at ha;obtain ⟨vy,hy,ha⟩:=ha;obtain ⟨v,hv,rfl,rfl⟩:=mv ha;exact OpSnd.of_snd (qwq h hv (hρ _ _ hx) (hρ _ _ hy)) rfl
 case unOp op t x=>
  rw[Option.bind_eq_some_iff] at ha;obtain ⟨vx,hx,ha⟩:=ha;split at ha
  next hf=>
   split at ha
   next r hr=>
    split at ha
    next hfr=>cases ha;have e:=(VR.flat_iff _ hf _).1 (hρ _ _ hx);refine OpSnd.of_snd (s:=Op.unary op (ρ' x)) ?_ rfl;rw[e];exact Snd.still h (qab hr w) (VR.self hfr)
    ·cases ha
   ·cases ha
  ·cases ha
 case convert s d x=>
  rw[Option.bind_eq_some_iff] at ha;obtain ⟨vx,hx,ha⟩:=ha;by_cases hi:qgi P s=true
  ·simp only[hi,if_true,Option.map_eq_some_iff] at ha;obtain ⟨v,hv,ha⟩:=ha;cases ha;unfold qw0 at hv;split at hv
   next r hr=>
    split at hv
    next hf=>cases hv;refine OpSnd.of_snd (s:=convert s d (ρ' x)) ?_ rfl;rw[(VR.flat_iff _ hf.1 _).1 (hρ _ _ hx)];exact Snd.still h (qab hr w) (VR.self hf.2)
    ·cases hv
   ·cases hv
  ·simp only[hi,Bool.false_eq_true,if_false] at ha;obtain ⟨v,hv,rfl⟩:=mh ha;exact OpSnd.of_snd (qnf h hv (hρ _ _ hx)) rfl
 case makeInterface t x=>
  rw[Option.bind_eq_some_iff] at ha;obtain ⟨vx,hx,ha⟩:=ha;split at ha
  ·cases ha
  next d hni hd=>cases ha;refine OpSnd.of_snd (s:=Instr.makeInterface t (ρ' x)) (Snd.still h (r:=.iface t (ρ' x)) ?_ (by simp only[VR];exact ⟨_,hρ _ _ hx,rfl⟩)) rfl;simp only[Instr.makeInterface,Sem.run_bind,qab hd,Result.andThen_ok];rfl
  ·cases ha
 case makeFunc fn first captured=>
  split at ha
  next f=>rw[Option.bind_eq_some_iff] at ha;obtain ⟨lx,hx,ha⟩:=ha;rw[Option.bind_eq_some_iff] at ha;obtain ⟨ly,hy,ha⟩:=ha;cases ha;refine OpSnd.of_snd (s:=Instr.makeFunc (.func f) (first.map ρ') (captured.map ρ')) (Snd.still h (r:=.func (.func f) (first.map ρ') (captured.map ρ')) rfl ?_) rfl;simp only[VR];exact ⟨_,_,_,rfl,VRA.iff.2 (by simpa using qdn hρ hx),VRA.iff.2 (by simpa using qdn hρ hy),rfl⟩
  ·cases ha
 case makeSlice t l c=>
  rw[Option.bind_eq_some_iff] at ha;obtain ⟨vx,hx,ha⟩:=ha;rw[Option.bind_eq_some_iff] at ha;obtain ⟨vy,hy,ha⟩:=ha;obtain ⟨v,hv,rfl⟩:=mh ha;exact OpSnd.of_snd (qkk h hv (hρ _ _ hx) (hρ _ _ hy)) rfl
 case slice t x lo hi mx=>
  rw[Option.bind_eq_some_iff] at ha;obtain ⟨vx,hx,ha⟩:=ha;rw[Option.bind_eq_some_iff] at ha;obtain ⟨vlo,hlo,ha⟩:=ha;rw[Option.bind_eq_some_iff] at ha;obtain ⟨vhi,hhi,ha⟩:=ha;rw[Option.bind_eq_some_iff] at ha;obtain ⟨vmx,hmx,ha⟩:=ha;obtain ⟨v,hv,rfl,rfl⟩:=mv ha;exact OpSnd.of_snd (qgo h hv (hρ _ _ hx) (qf9 hρ hlo) (qf9 hρ hhi) (qf9 hρ hmx)) rfl
 case fieldAddr s x f=>
  rw[Option.bind_eq_some_iff] at ha;obtain ⟨vx,hx,ha⟩:=ha;obtain ⟨v,hv,rfl,rfl⟩:=mv ha;exact OpSnd.of_snd (qkv h hv (hρ _ _ hx)) rfl
 case field t x f=>
  rw[Option.bind_eq_some_iff] at ha;obtain ⟨vx,hx,ha⟩:=ha;obtain ⟨v,hv,rfl,rfl⟩:=mv ha;exact OpSnd.of_snd (qp0 h hv (hρ _ _ hx)) rfl
 case indexAddr t x i=>
  rw[Option.bind_eq_some_iff] at ha;obtain ⟨vx,hx,ha⟩:=ha;rw[Option.bind_eq_some_iff] at ha;obtain ⟨vy,hy,ha⟩:=ha;obtain ⟨v,hv,rfl,rfl⟩:=mv ha;exact OpSnd.of_snd (qdh h hv (hρ _ _ hx) (hρ _ _ hy)) rfl
 case index t x i=>
  rw[Option.bind_eq_some_iff] at ha;obtain ⟨vx,hx,ha⟩:=ha;rw[Option.bind_eq_some_iff] at ha;obtain ⟨vy,hy,ha⟩:=ha;obtain ⟨v,hv,rfl,rfl⟩:=mv ha;exact OpSnd.of_snd (qgv h hv (hρ _ _ hx) (hρ _ _ hy)) rfl
 case range t x=>
  rw[Option.bind_eq_some_iff] at ha;obtain ⟨vx,hx,ha⟩:=ha;obtain ⟨v,hv,rfl⟩:=mh ha;exact OpSnd.of_snd (qpk h hv (hρ _ _ hx)) rfl
 case next it s=>
  rw[Option.bind_eq_some_iff] at ha;obtain ⟨vx,hx,ha⟩:=ha;obtain ⟨v,hv,rfl⟩:=mh ha;exact OpSnd.of_snd (qso (t:=type) h hv (hρ _ _ hx)) rfl
 case makeMap t r=>
  rw[Option.bind_eq_some_iff] at ha;obtain ⟨vr,hvr,ha⟩:=ha;obtain ⟨v,hv,rfl⟩:=mh ha;refine OpSnd.of_snd (qm4 h hv) ?_;rw[<- qf9 hρ hvr];rfl
 case lookup t x k ok=>
  rw[Option.bind_eq_some_iff] at ha;obtain ⟨vx,hvx,ha⟩:=ha;rw[Option.bind_eq_some_iff] at ha;obtain ⟨vk,hvk,ha⟩:=ha;obtain ⟨v,hv,rfl,rfl⟩:=mv ha;exact OpSnd.of_snd (qof h hv (hρ _ _ hvx) (hρ _ _ hvk)) rfl
 case mapUpdate t m k x=>
  rw[Option.bind_eq_some_iff] at ha;obtain ⟨vm,hvm,ha⟩:=ha;rw[Option.bind_eq_some_iff] at ha;obtain ⟨vk,hvk,ha⟩:=ha;rw[Option.bind_eq_some_iff] at ha;obtain ⟨vx,hvx,ha⟩:=ha;rw[Option.map_eq_some_iff] at ha;obtain ⟨H2,hH,he⟩:=ha;cases he;obtain ⟨w',hr,h1,h2⟩:=qfg (P:=P) h hH (hρ _ _ hvm) (hρ _ _ hvk) (hρ _ _ hvx);exact ⟨w',by simp[execOp,hr],h1,h2⟩
 case insert t m k x=>
  rw[Option.bind_eq_some_iff] at ha;obtain ⟨vm,hvm,ha⟩:=ha;rw[Option.bind_eq_some_iff] at ha;obtain ⟨vk,hvk,ha⟩:=ha;rw[Option.bind_eq_some_iff] at ha;obtain ⟨vx,hvx,ha⟩:=ha;rw[Option.map_eq_some_iff] at ha;obtain ⟨H2,hH,he⟩:=ha;cases he;obtain ⟨w',hr,h1,h2⟩:=qfg (P:=P) h hH (hρ _ _ hvm) (hρ _ _ hvk) (hρ _ _ hvx);exact ⟨w',by simp[execOp,hr],h1,h2⟩
 case extract t i=>
  split at ha
  next vs ht=>
   obtain ⟨v,hv,rfl,rfl⟩:=mv ha;have hv':=hρ _ _ ht;simp only[VR] at hv';obtain ⟨cs,hcs,e⟩:=hv';obtain ⟨r,hr,hvr⟩:=(VRA.iff.1 hcs).get i v (by simpa using hv);have hr:cs[i]?=some r:=by simpa using hr
   refine OpSnd.of_snd (s:=Instr.extract (ρ' t) i) (Snd.still h ?_ hvr) rfl;simp[Instr.extract,e,hr]
  ·cases ha
 case call c=>exact qqc h hF hρ ha
 all_goals cases ha
end
def Fr (b:Frame) (a:Act) (todo:List Item):Frame:={ fn:=b.fn,tmps:=a.tmps,todo,defers:=a.defers,mode:=.run,kind:=b.kind,roundOf:=b.roundOf }
theorem Fr.eval (b:Frame) (a:Act) (todo:List Item) (x:Operand):(Fr b a todo).eval x=a.eval x:=by cases x <;> rfl
theorem Fr.eval' (b:Frame) (a:Act) (todo:List Item):(Fr b a todo).eval=a.eval:=funext (Fr.eval b a todo)
section
variable {P:Program} {b:Frame} {a:Act} {k:List Item} {cs:List Frame} {w:World}
theorem qt3:step P (lone (Fr b a (.code .skip::k)) cs w)=.next (lone (Fr b a k) cs w):=step_lone_go (by simp[stepG,stepG.exec,Fr])
theorem qqt {l:Nat}:step P (lone (Fr b a (.code (.label l)::k)) cs w)=.next (lone (Fr b a k) cs w):=step_lone_go (by simp[stepG,stepG.exec,Fr])
theorem qlm {id:Nat}:step P (lone (Fr b a (.inBlock id::k)) cs w)=.next (lone (Fr b a k) cs w):=step_lone_go (by simp[stepG,stepG.exec,Fr])
theorem qll {c:Code}:step P (lone (Fr b a (.inScope c::k)) cs w)=.next (lone (Fr b a k) cs w):=step_lone_go (by simp[stepG,stepG.exec,Fr])
theorem qzs {x y:Code}:step P (lone (Fr b a (.code (.seq x y)::k)) cs w)=.next (lone (Fr b a (.code x::.code y::k)) cs w):=step_lone_go (by simp[stepG,stepG.exec,Fr])
theorem qt7 {c:Operand} {x y:Code} {t:Bool} (h:a.eval c=.bool t):step P (lone (Fr b a (.code (.cond c x y)::k)) cs w)=.next (lone (Fr b a (.code (if t then x else y)::k)) cs w):=
 step_lone_go (by
  have:=Fr.eval b a (.code (.cond c x y)::k) c;simp only[Fr] at this
  simp[stepG,stepG.exec,Fr,this,h])
theorem qqu {id:Nat} {c:Code}:step P (lone (Fr b a (.code (.block id c)::k)) cs w)=.next (lone (Fr b a (.code c::.inBlock id::k)) cs w):=step_lone_go (by simp[stepG,stepG.exec,Fr])
theorem qqs {c:Code}:step P (lone (Fr b a (.code (.scope c)::k)) cs w)=.next (lone (Fr b a (.code c::.inScope c::k)) cs w):=step_lone_go (by simp[stepG,stepG.exec,Fr])
theorem qt4 {c:Code}:step P (lone (Fr b a (.code (.loop c)::k)) cs w)=.next (lone (Fr b a (.code c::.inLoop c::k)) cs w):=step_lone_go (by simp[stepG,stepG.exec,Fr])
theorem qnw {c:Code}:step P (lone (Fr b a (.inLoop c::k)) cs w)=.next (lone (Fr b a (.code c::.inLoop c::k)) cs w):=step_lone_go (by simp[stepG,stepG.exec,Fr])
theorem qt6 {id:Nat} {k':List Item} (h:exitTo id k=some k'):step P (lone (Fr b a (.code (.exit id)::k)) cs w)=.next (lone (Fr b a k') cs w):=step_lone_go (by simp[stepG,stepG.exec,Fr,h])
theorem qt5 {l:Nat} {k':List Item} (h:gotoIn l k=some k'):step P (lone (Fr b a (.code (.goto l)::k)) cs w)=.next (lone (Fr b a k') cs w):=step_lone_go (by simp[stepG,stepG.exec,Fr,h])
theorem qnv {id:Nat} {ops:Array Oper}:step P (lone (Fr b a (.code (.region id ops false)::k)) cs w)=.next (lone (Fr b a (.inRegion ops (List.range ops.size)::k)) cs w):=step_lone_go (by simp[stepG,stepG.exec,Fr])
theorem qcq {id:Nat} {ops:Array Oper}:step P (lone (Fr b a (.code (.region id ops true)::k)) cs w) =
  .next (lone (Fr b a (.inRegion ops (Region.schedule (P.follows .mixedOrders) ops (w.tape w.drawn (.order b.fn id)))::k)) cs { w with drawn:=w.drawn+1 }):=
 step_lone_go (by simp[stepG,stepG.exec,Fr,choose,Sem.run,Question.forced,Question.cut])
theorem qg7 {ops:Array Oper}:step P (lone (Fr b a (.inRegion ops []::k)) cs w)=.next (lone (Fr b a k) cs w):=step_lone_go (by simp[stepG,stepG.exec,Fr])
theorem Fr.finish {ops:Array Oper} {i:Nat} {rest:List Nat} (v:Value):(Fr b a (.inRegion ops (i::rest)::k)).finish v=Fr b (a.put ((ops[i]?).bind (·.dst)) v) (.inRegion ops rest::k):=by
 cases h:(ops[i]?).bind (·.dst) <;> simp[Frame.finish,Fr,Act.put,h]
theorem qsd {ops:Array Oper} {i:Nat} {rest:List Nat} (h:((ops[i]?).map (Region.wanted · (yielded ops a.tmps))).getD false=false) :
  step P (lone (Fr b a (.inRegion ops (i::rest)::k)) cs w)=.next (lone (Fr b (a.put ((ops[i]?).bind (·.dst)) undef) (.inRegion ops rest::k)) cs w):=by
 rw[<- Fr.finish]
 exact step_lone_go (by
  have h':=h;simp only[Fr] at *
  simp[stepG,stepG.exec,h'])
theorem qg6 {ops:Array Oper} {i:Nat} {rest:List Nat} {o:Oper} (ho:ops[i]?=some o) (hw:Region.wanted o (yielded ops a.tmps)=true) (hd:∀ c,o.op≠.defer c) :
  stepG P true { frame:=Fr b a (.inRegion ops (i::rest)::k),callers:=cs,status:=.running,dying:=none } w =
   stepG.apply P true (Fr b a (.inRegion ops (i::rest)::k)) cs none (execOp a.eval o) w:=by
 have he:=Fr.eval' b a (.inRegion ops (i::rest)::k);simp only[Fr] at he;simp only[stepG,stepG.exec,Fr,ho,Option.map_some,Option.getD_some,hw,if_true,stepG.oper,Frame.oper?,he];split
 next c _ hc=>exact absurd hc (hd _)
 ·rfl
theorem st_op {ops:Array Oper} {i:Nat} {rest:List Nat} {o:Oper} {v:Value} {w':World} (ho:ops[i]?=some o) (hw:Region.wanted o (yielded ops a.tmps)=true) (hd:∀ c,o.op≠.defer c)
  (hr:(execOp a.eval o).run P w=.ok (.value v) w'):step P (lone (Fr b a (.inRegion ops (i::rest)::k)) cs w)=.next (lone (Fr b (a.put o.dst v) (.inRegion ops rest::k)) cs w'):=by
 have hf:(Fr b a (.inRegion ops (i::rest)::k)).finish v=Fr b (a.put o.dst v) (.inRegion ops rest::k):=by rw[Fr.finish,ho];rfl
 rw[<- hf];exact step_lone_go (by rw[qg6 ho hw hd];simp[stepG.apply,hr])
theorem qsc {ops:Array Oper} {i:Nat} {rest:List Nat} {o:Oper} {w':World} (ho:ops[i]?=some o) (hw:Region.wanted o (yielded ops a.tmps)=true) (hd:∀ c,o.op≠.defer c)
  (hr:(execOp a.eval o).run P w=.ok .skip w'):step P (lone (Fr b a (.inRegion ops (i::rest)::k)) cs w)=.next (lone (Fr b (a.put o.dst undef) (.inRegion ops rest::k)) cs w'):=by
 have hf:(Fr b a (.inRegion ops (i::rest)::k)).finish undef=Fr b (a.put o.dst undef) (.inRegion ops rest::k):=by rw[Fr.finish,ho];rfl
 rw[<- hf];exact step_lone_go (by rw[qg6 ho hw hd];simp[stepG.apply,hr])
theorem qef {ops:Array Oper} {i:Nat} {rest:List Nat} {o:Oper} {f:FuncId} {args:Array Value} {w':World} (ho:ops[i]?=some o) (hw:Region.wanted o (yielded ops a.tmps)=true) (hd:∀ c,o.op≠.defer c)
  (hr:(execOp a.eval o).run P w=.ok (.enter f args) w'):step P (lone (Fr b a (.inRegion ops (i::rest)::k)) cs w)=.next (lone (Frame.enter P f args .normal) (Fr b a (.inRegion ops (i::rest)::k)::cs) w'):=
 step_lone_go (by rw[qg6 ho hw hd];simp[stepG.apply,hr,Fr])
theorem qj7 {ops:Array Oper} {i:Nat} {rest:List Nat} {o:Oper} {l f:Nat} {tmps:Array Value} {assign body:Code} {w':World} (ho:ops[i]?=some o) (hw:Region.wanted o (yielded ops a.tmps)=true) (hd:∀ c,o.op≠.defer c)
  (hr:(execOp a.eval o).run P w=.ok (.round l f tmps assign body) w'):step P (lone (Fr b a (.inRegion ops (i::rest)::k)) cs w)=.next (lone (Frame.round l f tmps assign body .normal) (Fr b a (.inRegion ops (i::rest)::k)::cs) w'):=
 step_lone_go (by rw[qg6 ho hw hd];simp[stepG.apply,hr,Fr])
theorem q4l (hb:b.roundOf=none):step P (lone (Fr b a []) cs w)=.next (lone { Fr b a [] with mode:=.returning } cs w):=step_lone_go (by simp[stepG,stepG.exec,Fr,hb])
theorem q4k (hb:b.roundOf=none):step P (lone (Fr b a (.code .ret::k)) cs w)=.next (lone { Fr b a (.code .ret::k) with mode:=.returning } cs w):=step_lone_go (by simp[stepG,stepG.exec,Fr,hb])
theorem qnx {r:Nat} {ds:List Deferred} {w':World} (hr:(Instr.takeDeferred r).run P w=.ok [] w') :
  step P (lone { Fr b { a with defers:={ target:=.collected r,args:=#[] }::ds } k with mode:=.returning } cs w)=.next (lone { Fr b { a with defers:=ds } k with mode:=.returning } cs w'):=
 step_lone_go (by simp[stepG,Fr,unwind,Sem.runT_eq,hr])
theorem qmh {l:Nat} {w':World} (hb:b.roundOf=some l) (hr:(Instr.beginRound l).run P w=.ok () w') :
  step P (lone (Fr b a (.beginRound::k)) cs w)=.next (lone (Fr b a k) cs w'):=step_lone_go (by simp[stepG,stepG.exec,stepG.apply,Fr,hb,Sem.runT_eq,hr,Frame.finish])
end
structure FrS where
 fn:FuncId
 rd:Option Nat
 n:Nat
structure AS where
 env:T Value
 defs:List Nat
 H:AHeap
inductive AExit where
 | normal
 | exit (id:Nat)
 | goto (l:Nat)
 | ret
inductive Req where
 | code (fs:FrS) (c:Code) (s:AS)
 | again (fs:FrS) (c:Code) (s:AS)
 | scope (fs:FrS) (body rest:Code) (s:AS)
 | call (f:FuncId) (args:Array Value) (H:AHeap)
 | round (l:Nat) (args:Array Value) (H:AHeap)
inductive Res where
 | exit (e:AExit) (s:AS)
 | value (v:Value) (H:AHeap)
def qcx (E:T Value):Operand->Option Value
 | .tmp t=>E.get t
 | .const v=>if flat v then some v else none
 | .global g=>if g<qla then some (.pointer (some ⟨g,0,none⟩)) else none
 | .func f=>some (.func (.func f) #[] #[])
def qi6 (ops:Array Oper) (E:T Value) (j:Nat):Option (Option Bool):=
 match (ops[j]?).bind (·.dst) with
 | some d=>match E.get d with
  | some (.bool b)=>some (some b)
  | some (.tuple _)=>some none
  | _=>none
 | none=>none
def qak (ops:Array Oper) (o:Oper) (E:T Value):Option Bool:=
 match o.guard with
 | none=>some true
 | some (j,want)=>(qi6 ops E j).map λ y=>y == some want
def qhm (P:Program) (F:FuncId->Bool) (ev:Req->Option Res) (ops:Array Oper) (o:Oper) (E:T Value) (H:AHeap):Option (Value × AHeap):=
 match qak ops o E with
 | none=>none
 | some false=>some (undef,H)
 | some true=>
  match aOp P F (qcx E) H o with
  | none=>none
  | some (.val v,H')=>some (v,H')
  | some (.skip,H')=>some (undef,H')
  | some (.enter f args,H')=>match ev (.call f args H') with
   | some (.value v H2)=>some (v,H2)
   | _=>none
  | some (.yld l args,H')=>match ev (.round l args H') with
   | some (.value v H2)=>some (v,H2)
   | _=>none
def putE (n:Nat) (dst:Option Tmp) (v:Value) (E:T Value):Option (T Value):=
 match dst with
 | none=>some E
 | some d=>if d<n/\d<500000 then some (T.set 20 E d v) else none
def qbm (P:Program) (F:FuncId->Bool) (ev:Req->Option Res) (n:Nat) (ops:Array Oper) (i:Nat) (x:T Value × AHeap):Option (T Value × AHeap):=
 match ops[i]? with
 | none=>none
 | some o=>(qhm P F ev ops o x.1 x.2).bind λ r=>(putE n o.dst r.1 x.1).map λ E=>(E,r.2)
section
variable {P:Program} {F:FuncId->Bool} {ev:Req->Option Res} {ops:Array Oper} {n:Nat}
end
mutual
def eqV:Value->Value->Bool
 | .bool a,.bool b=>a == b
 | .int k a,.int k' b=>decide (k=k')&&decide (a=b)
 | .string a,.string b=>decide (a.data.toList=b.data.toList)
 | .pointer a,.pointer b=>decide (a=b)
 | .slice a l c,.slice b l' c'=>decide (a=b)&&decide (l=l')&&decide (c=c')
 | .map a,.map b=>decide (a=b)
 | .func fn x y,.func fn' x' y'=>decide (fn=fn')&&eqA x x'&&eqA y y'
 | .nilFunc,.nilFunc=>true
 | .iface t v,.iface t' v'=>decide (t=t')&&eqV v v'
 | .nilIface,.nilIface=>true
 | .agg x,.agg y=>eqA x y
 | .tuple x,.tuple y=>eqA x y
 | _,_=>false
def eqA:Array Value->Array Value->Bool
 | ⟨l⟩,⟨l'⟩=>eqL l l'
def eqL:List Value->List Value->Bool
 | [],[]=>true
 | v::l,v'::l'=>eqV v v'&&eqL l l'
 | _,_=>false
end
mutual
theorem q0d:∀ (a b:Value),eqV a b=true->a=b
 | .bool a,b,h=>by cases b <;> simp[eqV] at h;subst h;rfl
 | .int k a,b,h=>by cases b <;> simp[eqV] at h;obtain ⟨rfl,rfl⟩:=h;rfl
 | .string a,b,h=>by
  cases b <;> simp[eqV] at h
  rename_i c
  cases a;cases c;simp at h;subst h;rfl
 | .pointer a,b,h=>by cases b <;> simp[eqV] at h;subst h;rfl
 | .slice a l c,b,h=>by cases b <;> simp[eqV] at h;obtain ⟨⟨rfl,rfl⟩,rfl⟩:=h;rfl
 | .map a,b,h=>by cases b <;> simp[eqV] at h;subst h;rfl
 | .chan a,b,h=>by cases b <;> simp[eqV] at h
 | .float a c,b,h=>by cases b <;> simp[eqV] at h
 | .complex a c d,b,h=>by cases b <;> simp[eqV] at h
 | .func fn x y,b,h=>by
  cases b <;> simp[eqV] at h
  obtain ⟨⟨rfl,hx⟩,hy⟩:=h;rw[qrq x _ hx,qrq y _ hy]
 | .nilFunc,b,h=>by cases b <;> simp[eqV] at h;rfl
 | .iface t v,b,h=>by cases b <;> simp[eqV] at h;obtain ⟨rfl,hv⟩:=h;rw[q0d v _ hv]
 | .nilIface,b,h=>by cases b <;> simp[eqV] at h;rfl
 | .agg x,b,h=>by cases b <;> simp[eqV] at h;rw[qrq x _ h]
 | .tuple x,b,h=>by cases b <;> simp[eqV] at h;rw[qrq x _ h]
theorem qrq:∀ (a b:Array Value),eqA a b=true->a=b
 | ⟨l⟩,⟨l'⟩,h=>by simp only[eqA] at h;rw[qi2 l l' h]
theorem qi2:∀ (a b:List Value),eqL a b=true->a=b
 | [],b,h=>by cases b <;> simp[eqL] at h;rfl
 | v::l,b,h=>by
  cases b <;> simp[eqL] at h
  obtain ⟨hv,hl⟩:=h;rw[q0d v _ hv,qi2 l _ hl]
end
section
variable {P:Program} {F:FuncId->Bool} {ev:Req->Option Res} {ops:Array Oper} {n:Nat}
end
section
variable {P:Program} {F:FuncId->Bool} {ev:Req->Option Res} {ops:Array Oper} {n:Nat}
def reach (ops:Array Oper):Nat->Nat->Nat->Bool
 | 0,_,_=>false
 | f+1,i,j=>match ops[i]? with
  | some o=>o.after.toList.any λ e=>Region.binds .any e&&(e.on == j || reach ops f e.on j)
  | none=>false
def Closed (ops:Array Oper) (listed:Array Bool):Prop:=
 ∀ i o,ops[i]?=some o->listed.getD i true=true->∀ e∈o.after,Region.binds .any e=true->i<ops.size->listed.getD e.on false=true
theorem qip {listed:Array Bool} (hsz:listed.size=ops.size) (hc:Closed ops listed):∀ (f i j:Nat) (o:Oper),ops[i]?=some o->(∀ e∈o.after,Region.binds .any e=true->listed.getD e.on false=true)->reach ops f i j=true->listed.getD j false=true
 | 0,i,j,o,_,_,h=>by simp[reach] at h
 | f+1,i,j,o,ho,hr,h=>by
  simp only[reach,ho,List.any_eq_true,Bool.and_eq_true,Bool.or_eq_true,beq_iff_eq] at h;obtain ⟨e,he,hb,h⟩:=h;have hl:=hr e (by simpa using he) hb;rcases h with rfl | h
  ·exact hl
  ·have hlt:e.on<ops.size:=by
    rw[Array.getD_eq_getD_getElem?] at hl;rcases Nat.lt_or_ge e.on listed.size with h1 | h1
    ·omega
    ·simp[Array.getElem?_eq_none h1] at hl
   have ho':ops[e.on]?=some ops[e.on]:=by simp[hlt]
   refine qip hsz hc f e.on j _ ho' (λ e' he' hb'=>?_) h;refine hc e.on _ ho' ?_ e' he' hb' hlt;rw[Array.getD_eq_getD_getElem?] at hl |-;have:e.on<listed.size:=by omega
   simp[this] at hl |-;exact hl
end
section
variable {P:Program} {F:FuncId->Bool} {ev:Req->Option Res} {ops:Array Oper} {n:Nat}
def unl (k:Nat) (listed:Array Bool):List Nat:=(List.range k).filter λ i => !listed.getD i true
theorem qrj {listed:Array Bool} {i j:Nat} (hi:i<listed.size) (d:Bool):(listed.setIfInBounds i true).getD j d=if j=i then true else listed.getD j d:=by
 simp only[Array.getD_eq_getD_getElem?,Array.getElem?_setIfInBounds];by_cases h:j=i
 ·subst h;simp[hi]
 ·rw[if_neg (by omega),if_neg h]
theorem qtx {listed:Array Bool} {i:Nat} (hm:i∈unl ops.size listed) (hsz:listed.size=ops.size) :
  ∃ c1 c2,unl ops.size listed=c1++i::c2/\(∀ j∈c1,j<i/\listed.getD j true=false)/\unl ops.size (listed.setIfInBounds i true)=c1++c2:=by
 obtain ⟨c1,c2,he⟩:=List.append_of_mem hm;have hp:(unl ops.size listed).Pairwise (·<·):=(List.pairwise_lt_range).filter _;rw[he,List.pairwise_append] at hp;obtain ⟨_,hp2,hp3⟩:=hp;have hlt:i<listed.size:=by
  have:=List.mem_filter.1 hm;simpa [hsz] using this.1
 refine ⟨c1,c2,he,λ j hj=>⟨hp3 j hj i (List.mem_cons_self ..),?_⟩,?_⟩
 ·have:j∈unl ops.size listed:=by rw[he];exact List.mem_append_left _ hj
  simpa using (List.mem_filter.1 this).2
 ·have e1:unl ops.size (listed.setIfInBounds i true)=(unl ops.size listed).filter λ j => !(decide (j=i)):=by
   unfold unl;rw[List.filter_filter];refine List.filter_congr λ j _=>?_
   rw[qrj hlt];by_cases h:j=i
   ·simp[h]
   ·simp[h]
  rw[e1,he,List.filter_append,List.filter_cons];have f1:c1.filter (λ j => !(decide (j=i)))=c1:=List.filter_eq_self.2 λ j hj=>by
   have:=hp3 j hj i (List.mem_cons_self ..);simp;omega
  have f2:c2.filter (λ j => !(decide (j=i)))=c2:=List.filter_eq_self.2 λ j hj=>by
   have:=(List.pairwise_cons.1 hp2).1 j hj;simp;omega
  rw[f1,f2];simp
theorem mem_ready {listed:Array Bool} {i:Nat}:i∈Region.ready .any ops listed↔i<ops.size/\listed.getD i true=false/\∃ o,ops[i]?=some o/\∀ e∈o.after,Region.binds .any e=true->listed.getD e.on false=true:=by
 unfold Region.ready;simp only[List.mem_filter,List.mem_range,Bool.and_eq_true,Bool.not_eq_true'];constructor
 ·rintro ⟨h1,h2,h3⟩;have ho:ops[i]?=some ops[i]:=by simp[h1]
  rw[ho] at h3;simp only[Option.map_some,Option.getD_some,Array.all_eq_true_iff_forall_mem] at h3;refine ⟨h1,h2,_,ho,λ e he hb=>?_⟩;have:=h3 e he;simpa [hb] using this
 ·rintro ⟨h1,h2,o,ho,h3⟩;refine ⟨h1,h2,?_⟩;rw[ho];simp only[Option.map_some,Option.getD_some,Array.all_eq_true_iff_forall_mem];intro e he;by_cases hb:Region.binds .any e=true
  ·simp[h3 e he hb]
  ·simp[hb]
theorem Closed.set {listed:Array Bool} (hsz:listed.size=ops.size) (hc:Closed ops listed) {i:Nat} (hr:i∈Region.ready .any ops listed):Closed ops (listed.setIfInBounds i true):=by
 obtain ⟨h1,h2,o,ho,h3⟩:=mem_ready.1 hr;have hlt:i<listed.size:=by omega
 intro k ok hk hl e he hb hks;rw[qrj hlt] at hl |-;by_cases hki:k=i
 ·subst hki;rw[ho] at hk;cases hk;rw[h3 e he hb];simp
 ·rw[if_neg hki] at hl;rw[hc k ok hk hl e he hb hks];simp
end
end Go.Ax
namespace Go.Px
open Ax
section
variable {ops:Array Oper} {X:Type} {stp:Nat->X->X->Prop} {eqv:X->X->Prop} {sw:Oper->Oper->Bool}
def Runs (stp:Nat->X->X->Prop):List Nat->X->X->Prop
 | [],x,y=>x=y
 | i::l,x,y=>∃ z,stp i x z/\Runs stp l z y
structure Sw (ops:Array Oper) (stp:Nat->X->X->Prop) (eqv:X->X->Prop) (sw:Oper->Oper->Bool):Prop where
 refl:∀ x,eqv x x
 trans:∀ x y z,eqv x y->eqv y z->eqv x z
 cong:∀ i x x' y,eqv x x'->stp i x y->∃ y',stp i x' y'/\eqv y y'
 swap:∀ i j oi oj x x1 x2,ops[i]?=some oi->ops[j]?=some oj->sw oj oi=true->stp j x x1->stp i x1 x2->∃ x3 x4,stp i x x3/\stp j x3 x4/\eqv x2 x4
theorem Runs.cong (h:Sw ops stp eqv sw):∀ {l:List Nat} {x x' y:X},eqv x x'->Runs stp l x y->∃ y',Runs stp l x' y'/\eqv y y'
 | [],x,x',y,he,hr=>by cases hr;exact ⟨x',rfl,he⟩
 | i::l,x,x',y,he,⟨z,h1,h2⟩=>by
  obtain ⟨z',h3,h4⟩:=h.cong i x x' z he h1;obtain ⟨y',h5,h6⟩:=Runs.cong h h4 h2;exact ⟨y',⟨z',h3,h5⟩,h6⟩
theorem Runs.append {l m:List Nat} {x y:X}:Runs stp (l++m) x y↔∃ z,Runs stp l x z/\Runs stp m z y:=by
 induction l generalizing x with
 | nil=>exact ⟨λ h=>⟨x,rfl,h⟩,λ ⟨z,h1,h2⟩=>by cases h1;exact h2⟩
 | cons i l ih=>
  constructor
  ·rintro ⟨z,h1,h2⟩;obtain ⟨u,h3,h4⟩:=ih.1 h2;exact ⟨u,⟨z,h1,h3⟩,h4⟩
  ·rintro ⟨u,⟨z,h1,h3⟩,h4⟩;exact ⟨z,h1,ih.2 ⟨u,h3,h4⟩⟩
theorem Runs.front (h:Sw ops stp eqv sw) {i:Nat} {oi:Oper} (hi:ops[i]?=some oi):∀ (l:List Nat) (x y:X),(∀ j∈l,∃ oj,ops[j]?=some oj/\sw oj oi=true)->Runs stp (l++[i]) x y->∃ y',Runs stp (i::l) x y'/\eqv y y'
 | [],x,y,_,hr=>⟨y,hr,h.refl y⟩
 | j::l,x,y,hl,⟨x1,h1,hr⟩=>by
  obtain ⟨y1,⟨x2,h2,h3⟩,e1⟩:=Runs.front h hi l x1 y (λ k hk=>hl k (List.mem_cons_of_mem _ hk)) hr;obtain ⟨oj,hj,hs⟩:=hl j (List.mem_cons_self ..);obtain ⟨x3,x4,h4,h5,e2⟩:=h.swap i j oi oj x x1 x2 hi hj hs h1 h2;obtain ⟨y2,h6,e3⟩:=Runs.cong h e2 h3;exact ⟨y2,⟨x3,h4,x4,h5,h6⟩,h.trans _ _ _ e1 e3⟩
def qgc (sw:Oper->Oper->Bool) (ops:Array Oper):Bool:=
 (List.range ops.size).all λ i=>match ops[i]? with
  | some oi=>(oi.after.toList.all λ e => !Region.binds .any e || decide (e.on<i)) &&
    (List.range i).all λ j=>match ops[j]? with
     | some oj=>sw oj oi || reach ops 12 i j
     | none=>false
  | none=>false
theorem qrt (h:qgc sw ops=true) {i:Nat} (hi:i<ops.size):∃ o,ops[i]?=some o/\(∀ e∈o.after,Region.binds .any e=true->e.on<i)/\∀ j,j<i->∃ oj,ops[j]?=some oj/\(sw oj o=true\/reach ops 12 i j=true):=by
 unfold qgc at h;rw[List.all_eq_true] at h;have:=h i (by simpa using hi);have ho:ops[i]?=some ops[i]:=by simp[hi]
 rw[ho] at this;simp only[Bool.and_eq_true,List.all_eq_true] at this;refine ⟨_,ho,λ e he hb=>?_,λ j hj=>?_⟩
 ·have:=this.1 e (by simpa using he);simpa [hb] using this
 ·have:=this.2 j (by simpa using hj)
  cases hoj:ops[j]? with
  | none=>rw[hoj] at this;cases this
  | some oj=>rw[hoj] at this;exact ⟨oj,rfl,by simpa using this⟩
theorem qop (hsw:Sw ops stp eqv sw) (hd:qgc sw ops=true):∀ (fuel t:Nat) (listed:Array Bool) (x y:X),listed.size=ops.size->Closed ops listed->(unl ops.size listed).length<=fuel ->
  Runs stp (unl ops.size listed) x y->∃ y',Runs stp (Region.linearise.go .any ops fuel t listed []) x y'/\eqv y y'
 | 0,t,listed,x,y,hsz,hc,hf,h=>by
  have:unl ops.size listed=[]:=List.eq_nil_of_length_eq_zero (by omega);rw[this] at h;exact ⟨y,by simpa [Region.linearise.go] using h,hsw.refl y⟩
 | fuel+1,t,listed,x,y,hsz,hc,hf,h=>by
  simp only[Region.linearise.go]
  change ∃ y',Runs stp (match (Region.ready .any ops listed)[t % (Region.ready .any ops listed).length]? with
   | some i=>Region.linearise.go .any ops fuel (t / (Region.ready .any ops listed).length) (listed.setIfInBounds i true) [i]
   | none=>[].reverse) x y'/\eqv y y'
  cases hi:(Region.ready .any ops listed)[t % (Region.ready .any ops listed).length]? with
  | none=>
   have hnil:Region.ready .any ops listed=[]:=by
    cases hr:Region.ready .any ops listed with
    | nil=>rfl
    | cons x xs=>
     rw[hr] at hi;have hlt:t % (x::xs).length<(x::xs).length:=Nat.mod_lt _ (by simp);simp at hi;simp at hlt;omega
   have:unl ops.size listed=[]:=by
    cases hu:unl ops.size listed with
    | nil=>rfl
    | cons i l=>
     exfalso;have hm:i∈unl ops.size listed:=by rw[hu];exact List.mem_cons_self ..
     have hm':=List.mem_filter.1 hm;have hlt:i<ops.size:=by simpa using hm'.1
     obtain ⟨o,ho,he,_⟩:=qrt hd hlt;have hp:(unl ops.size listed).Pairwise (·<·):=(List.pairwise_lt_range).filter _;rw[hu] at hp
     have:i∈Region.ready .any ops listed:=Ax.mem_ready.2 ⟨hlt,by simpa using hm'.2,o,ho,λ e hee hb=>by
      have hei:=he e hee hb
      cases hle:listed.getD e.on false with
      | true=>rfl
      | false=>
       exfalso;have hmem:e.on∈unl ops.size listed:=by
        refine List.mem_filter.2 ⟨by simp;omega,?_⟩;rw[Array.getD_eq_getD_getElem?] at hle |-;have:e.on<listed.size:=by omega
        simp[this] at hle |-;exact hle
       rw[hu] at hmem;rcases List.mem_cons.1 hmem with e1 | e1
       ·omega
       ·have:=(List.pairwise_cons.1 hp).1 _ e1;omega⟩
     rw[hnil] at this;cases this
   rw[this] at h;exact ⟨y,by simpa using h,hsw.refl y⟩
  | some i=>
   simp only[];have hr:i∈Region.ready .any ops listed:=List.mem_of_getElem? hi;obtain ⟨h1,h2,o,ho,h3⟩:=Ax.mem_ready.1 hr;have hm:i∈unl ops.size listed:=List.mem_filter.2 ⟨by simpa using h1,by simpa using h2⟩;obtain ⟨c1,c2,he,hlt,he2⟩:=qtx hm hsz;rw[linearise_go_acc,List.reverse_singleton,List.singleton_append];have hfront:∃ y',Runs stp (i::(c1++c2)) x y'/\eqv y y':=by
    have e3:c1++i::c2=(c1++[i])++c2:=by simp
    rw[he,e3,Runs.append] at h;obtain ⟨z,hz,h⟩:=h
    obtain ⟨z',hz',ez⟩:=Runs.front hsw ho c1 x z (λ j hj=>by
     obtain ⟨hji,hjl⟩:=hlt j hj;obtain ⟨o',ho',_,hall⟩:=qrt hd h1;rw[ho] at ho';cases ho';obtain ⟨oj,hoj,hk⟩:=hall j hji;rcases hk with hk | hk
     ·exact ⟨oj,hoj,hk⟩
     ·have:=qip hsz hc 12 i j o ho h3 hk;exfalso;rw[Array.getD_eq_getD_getElem?] at this hjl;have hjs:j<listed.size:=by omega
      simp[hjs] at this hjl
      rw[this] at hjl;cases hjl) hz
    have e4:i::(c1++c2)=(i::c1)++c2:=by simp
    obtain ⟨y',hy',ey⟩:=Runs.cong hsw ez h;exact ⟨y',by rw[e4,Runs.append];exact ⟨z',hz',hy'⟩,ey⟩
   obtain ⟨y1,⟨z,hz,hfront⟩,e1⟩:=hfront;have hle:(unl ops.size (listed.setIfInBounds i true)).length<=fuel:=by
    have:=congrArg List.length he;rw[he2];simp at this |-;omega
   obtain ⟨y2,hy2,e2⟩:=qop hsw hd fuel (t / (Region.ready .any ops listed).length) _ z y1 (by simpa using hsz) (hc.set hsz hr) hle (by rw[he2];exact hfront);exact ⟨y2,⟨z,hz,hy2⟩,hsw.trans _ _ _ e1 e2⟩
theorem qa9 {P:Program} (hm:P.follows .mixedOrders=true) (hsw:Sw ops stp eqv sw) (t:Nat) {x y:X} (hd:qgc sw ops=true) (h:Runs stp (List.range ops.size) x y) :
  ∃ y',Runs stp (Region.schedule (P.follows .mixedOrders) ops t) x y'/\eqv y y':=by
 simp only[Region.schedule,hm,Bool.true_or,if_true,Region.linearise];have hu:unl ops.size (Array.replicate ops.size false)=List.range ops.size:=by
  unfold unl;refine List.filter_eq_self.2 λ i hi=>?_
  have:i<ops.size:=by simpa using hi
  simp[this]
 refine qop hsw hd _ _ _ x y (by simp) (λ i o ho hl e he hb hi=>?_) (by rw[hu];simp) (by rw[hu];exact h);simp[hi] at hl
end
end Go.Px
namespace Go.Ax
section
variable {P:Program} {F:FuncId->Bool} {ev:Req->Option Res} {ops:Array Oper} {n:Nat}
end
def qda:Nat->List Value->T Value->T Value
 | _,[],E=>E
 | k,v::l,E=>qda (k+1) l (T.set 20 E k v)
def qka (P:Program) (E:T Value) (H:AHeap):ResultVar->Option Value
 | .tmp t=>E.get t
 | .cell a t=>match E.get a with
  | some p=>qjk P H t p
  | none=>none
def qgq:List Value->Value
 | [v]=>v
 | vs=>.tuple vs.toArray
def qj2 (H:AHeap):List Nat->Option AHeap
 | []=>some H
 | d::ds=>match H.t.get d with
  | some (.deferred true)=>if idOK d then qj2 (H.put d (.deferred false)) ds else none
  | _=>none
end Go.Ax
