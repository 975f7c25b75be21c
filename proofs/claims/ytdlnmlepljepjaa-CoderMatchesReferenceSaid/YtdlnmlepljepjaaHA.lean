/-
  A part of the proof: a run over an abstract memory, its soundness and its rules; each theorem says its conditions.
-/
import Derived.Test.YtdlnmlepljepjaaGC
import Derived.Test.YtdlnmlepljepjaaGD
set_option linter.unusedVariables false
set_option linter.unusedSimpArgs false
namespace Go.Px
open Ax
inductive Sh where
 | int (k:IntKind)
 | bool
 | str
 | unit
 | pair (a b:Sh)
 | arr (n:Nat) (e:Sh)
 | sl (e:Sh)
 deriving DecidableEq
@[reducible] def Sh.D:Sh->Type
 | .int _=>Int
 | .bool=>Bool
 | .str=>List UInt8
 | .unit=>Unit
 | .pair a b=>a.D × b.D
 | .arr _ e=>List e.D
 | .sl e=>List e.D
def Sh.size:Sh->Nat
 | .int _ | .bool | .str | .sl _=>1
 | .unit=>0
 | .pair a b=>a.size+b.size
 | .arr n e=>n*e.size
def RVL {α:Type} (R:α->List Value->Prop):List α->List Value->Prop
 | [],vs=>vs=[]
 | x::l,vs=>∃ u v,vs=u++v/\R x u/\RVL R l v
def CapOK (k sz off len cap:Nat):Prop:=(cap=qae/\k=10+sz/\off % sz=0)\/(len<=cap/\cap<2 ^ 63)
def SlR {α:Type} (Z:Nat->Option ABlk) (R:α->List Value->Prop) (sz:Nat) (l:List α) (v:Value):Prop:=
 (l=[]/\(v=.slice none 0 0\/v=emptySlice)) \/
 ∃ b off cap cs et k,v=.slice (some ⟨b,off,none⟩) l.length cap/\Z b=some (.cells cs et k)/\off+l.length*sz<=cs.length/\RVL R l ((cs.drop off).take (l.length*sz))/\CapOK k sz off l.length cap
def RV (Z:Nat->Option ABlk):(σ:Sh)->σ.D->List Value->Prop
 | .int k,(n:Int),vs=>vs=[.int k n]
 | .bool,(b:Bool),vs=>vs=[.bool b]
 | .str,(l:List UInt8),vs=>vs=[bstr l]
 | .unit,_,vs=>vs=[]
 | .pair a b,x,vs=>∃ u v,vs=u++v/\RV Z a x.1 u/\RV Z b x.2 v
 | .arr n e,(l:List e.D),vs=>l.length=n/\RVL (λ x u=>RV Z e x u) l vs
 | .sl e,(l:List e.D),vs=>∃ v,vs=[v]/\SlR Z (λ x u=>RV Z e x u) e.size l v
section
variable {α:Type} {R R':α->List Value->Prop}
theorem RVL.mono (h:∀ x u,R x u->R' x u):∀ {l:List α} {vs:List Value},RVL R l vs->RVL R' l vs
 | [],_,k=>k
 | _::_,_,⟨u,v,e,a,b⟩=>⟨u,v,e,h _ _ a,RVL.mono h b⟩
theorem RVL.len {sz:Nat} (h:∀ x u,R x u->u.length=sz):∀ {l:List α} {vs:List Value},RVL R l vs->vs.length=l.length*sz
 | [],_,k=>by subst k;simp
 | x::l,_,⟨u,v,e,a,b⟩=>by subst e;rw[List.length_append,h _ _ a,RVL.len h b,List.length_cons,Nat.succ_mul];omega
theorem RVL.app:∀ {l m:List α} {vs ws:List Value},RVL R l vs->RVL R m ws->RVL R (l++m) (vs++ws)
 | [],_,_,_,h,k=>by cases h;exact k
 | _::_,_,_,_,⟨u,v,e,a,b⟩,k=>⟨u,v++_,by rw[e,List.append_assoc],a,RVL.app b k⟩
theorem RVL.drop {sz:Nat} (h:∀ x u,R x u->u.length=sz):∀ (n:Nat) {l:List α} {vs:List Value},RVL R l vs->RVL R (l.drop n) (vs.drop (n*sz))
 | 0,_,_,k=>by simpa using k
 | n+1,[],_,k=>by cases k;simp[RVL]
 | n+1,x::l,_,⟨u,v,e,a,b⟩=>by
  subst e;have hu:=h _ _ a;have:=RVL.drop h n b;have e2:(u++v).drop ((n+1)*sz)=v.drop (n*sz):=by
   rw[show (n+1)*sz=u.length+n*sz by rw[Nat.succ_mul];omega,<- List.drop_drop,List.drop_left]
  rw[e2,List.drop_succ_cons];exact this
theorem RVL.take {sz:Nat} (h:∀ x u,R x u->u.length=sz):∀ (n:Nat) {l:List α} {vs:List Value},RVL R l vs->RVL R (l.take n) (vs.take (n*sz))
 | 0,_,_,_=>by simp[RVL]
 | n+1,[],_,k=>by cases k;simp[RVL]
 | n+1,x::l,_,⟨u,v,e,a,b⟩=>by
  subst e;have hu:=h _ _ a;refine ⟨u,v.take (n*sz),?_,a,RVL.take h n b⟩;rw[Nat.succ_mul,List.take_append,hu,show n*sz+sz-sz=n*sz by omega,List.take_of_length_le (by omega)]
theorem RVL.get {sz:Nat} (h:∀ x u,R x u->u.length=sz) {i:Nat} {x:α} {l:List α} {vs:List Value} (k:RVL R l vs) (hi:l[i]?=some x):R x ((vs.drop (i*sz)).take sz):=by
 have hd:=RVL.drop h i k;obtain ⟨hl,he⟩:=List.getElem?_eq_some_iff.1 hi;rw[List.drop_eq_getElem_cons hl,he] at hd;obtain ⟨u,v,e,a,b⟩:=hd;rw[e,<- h _ _ a,List.take_left];exact a
theorem RVL.set {sz:Nat} (h:∀ x u,R x u->u.length=sz):∀ {i:Nat} {x:α} {l:List α} {vs us:List Value},RVL R l vs->i<l.length->R x us->RVL R (l.set i x) (vs.take (i*sz)++us++vs.drop (i*sz+us.length))
 | 0,x,y::l,_,us,⟨u,v,e,a,b⟩,_,hx=>by
  subst e;refine ⟨us,v,?_,hx,b⟩;rw[Nat.zero_mul,List.take_zero,List.nil_append,Nat.zero_add,h _ _ hx,<- h _ _ a,List.drop_left]
 | i+1,x,y::l,_,us,⟨u,v,e,a,b⟩,hi,hx=>by
  subst e;have hu:=h _ _ a;refine ⟨u,_,?_,a,RVL.set h b (Nat.lt_of_succ_lt_succ hi) hx⟩;rw[Nat.succ_mul,List.take_append,hu,show i*sz+sz-sz=i*sz by omega,List.take_of_length_le (by omega),show i*sz+sz+us.length=sz+(i*sz+us.length) by omega,<- List.drop_drop,<- hu,List.drop_left];simp only[List.append_assoc]
theorem RVL.single {x:α} {u:List Value} (h:R x u):RVL R [x] u:=⟨u,[],by simp,h,rfl⟩
end
theorem RV.len {Z:Nat->Option ABlk}:∀ (σ:Sh) (x:σ.D) (vs:List Value),RV Z σ x vs->vs.length=σ.size
 | .int _,_,_,h=>by simp only[RV] at h;subst h;rfl
 | .bool,_,_,h=>by simp only[RV] at h;subst h;rfl
 | .str,_,_,h=>by simp only[RV] at h;subst h;rfl
 | .unit,_,_,h=>by simp only[RV] at h;subst h;rfl
 | .pair a b,x,vs,h=>by
  simp only[RV] at h;obtain ⟨u,v,rfl,h1,h2⟩:=h;rw[List.length_append,RV.len a _ _ h1,RV.len b _ _ h2];rfl
 | .arr n e,l,vs,h=>by
  simp only[RV] at h;rw[RVL.len (λ x u k=>RV.len e x u k) h.2,h.1];rfl
 | .sl e,_,_,h=>by
  simp only[RV] at h;obtain ⟨v,rfl,_⟩:=h;rfl
def ZLe (Z Z':Nat->Option ABlk):Prop:=∀ b x,Z b=some x->Z' b=some x
theorem ZLe.refl (Z:Nat->Option ABlk):ZLe Z Z:=λ _ _ h=>h
theorem ZLe.trans {A B C:Nat->Option ABlk} (h:ZLe A B) (k:ZLe B C):ZLe A C:=λ b x e=>k b x (h b x e)
theorem SlR.mono {α:Type} {Z Z':Nat->Option ABlk} {R R':α->List Value->Prop} {sz:Nat} {l:List α} {v:Value} (hz:ZLe Z Z') (hr:∀ x u,R x u->R' x u) (h:SlR Z R sz l v):SlR Z' R' sz l v:=by
 rcases h with h | ⟨b,off,cap,cs,et,k,h1,h2,h3,h4,h5⟩
 ·exact .inl h
 ·exact .inr ⟨b,off,cap,cs,et,k,h1,hz _ _ h2,h3,RVL.mono hr h4,h5⟩
theorem RV.mono {Z Z':Nat->Option ABlk} (hz:ZLe Z Z'):∀ (σ:Sh) (x:σ.D) (vs:List Value),RV Z σ x vs->RV Z' σ x vs
 | .int _,_,_,h=>h
 | .bool,_,_,h=>h
 | .str,_,_,h=>h
 | .unit,_,_,h=>h
 | .pair a b,x,vs,h=>by
  simp only[RV] at h |-;obtain ⟨u,v,e,h1,h2⟩:=h;exact ⟨u,v,e,RV.mono hz a _ _ h1,RV.mono hz b _ _ h2⟩
 | .arr n e,l,vs,h=>by
  simp only[RV] at h |-;exact ⟨h.1,RVL.mono (λ x u k=>RV.mono hz e x u k) h.2⟩
 | .sl e,l,vs,h=>by
  simp only[RV] at h |-;obtain ⟨v,rfl,h⟩:=h;exact ⟨v,rfl,h.mono hz (λ x u k=>RV.mono hz e x u k)⟩
def Sh.plain:Sh->Bool
 | .pair a b=>a.plain&&b.plain
 | .arr _ e=>e.plain
 | .sl _=>false
 | _=>true
theorem RV.plain {Z Z':Nat->Option ABlk}:∀ (σ:Sh) (_:σ.plain=true) (x:σ.D) (vs:List Value),RV Z σ x vs->RV Z' σ x vs
 | .int _,_,_,_,h=>h
 | .bool,_,_,_,h=>h
 | .str,_,_,_,h=>h
 | .unit,_,_,_,h=>h
 | .pair a b,hp,x,vs,h=>by
  simp only[Sh.plain,Bool.and_eq_true] at hp;simp only[RV] at h |-;obtain ⟨u,v,e,h1,h2⟩:=h;exact ⟨u,v,e,RV.plain a hp.1 _ _ h1,RV.plain b hp.2 _ _ h2⟩
 | .arr n e,hp,l,vs,h=>by
  simp only[Sh.plain] at hp;simp only[RV] at h |-;exact ⟨h.1,RVL.mono (λ x u k=>RV.plain e hp x u k) h.2⟩
theorem RVL.all {α:Type} {R:α->List Value->Prop} {p:Value->Prop} (h:∀ x u,R x u->∀ v∈u,p v):∀ {l:List α} {vs:List Value},RVL R l vs->∀ v∈vs,p v
 | [],_,k,v,hv=>by cases k;cases hv
 | _::_,_,⟨u,w,e,a,b⟩,v,hv=>by
  subst e;rcases List.mem_append.1 hv with hv | hv
  ·exact h _ _ a v hv
  ·exact RVL.all h b v hv
theorem SlR.one {α:Type} {Z:Nat->Option ABlk} {R:α->List Value->Prop} {sz:Nat} {l:List α} {v:Value} (h:SlR Z R sz l v):v.oneCell'=true:=by
 rcases h with ⟨_,rfl | rfl⟩ | ⟨_,_,_,_,_,_,rfl,_⟩ <;> rfl
theorem RV.one {Z:Nat->Option ABlk}:∀ (σ:Sh) (x:σ.D) (vs:List Value),RV Z σ x vs->∀ v∈vs,v.oneCell'=true
 | .int _,_,_,h,v,hv=>by simp only[RV] at h;subst h;simp at hv;subst hv;rfl
 | .bool,_,_,h,v,hv=>by simp only[RV] at h;subst h;simp at hv;subst hv;rfl
 | .str,_,_,h,v,hv=>by simp only[RV] at h;subst h;simp at hv;subst hv;rfl
 | .unit,_,_,h,v,hv=>by simp only[RV] at h;subst h;simp at hv
 | .pair a b,x,vs,h,v,hv=>by
  simp only[RV] at h;obtain ⟨u,w,rfl,h1,h2⟩:=h;rcases List.mem_append.1 hv with hv | hv
  ·exact RV.one a _ _ h1 v hv
  ·exact RV.one b _ _ h2 v hv
 | .arr n e,l,vs,h,v,hv=>by
  simp only[RV] at h;exact RVL.all (λ x u k=>RV.one e x u k) h.2 v hv
 | .sl e,l,vs,h,v,hv=>by
  simp only[RV] at h;obtain ⟨w,rfl,h⟩:=h;simp at hv;subst hv;exact h.one
structure NI where
 b:Nat
 tot:Option Nat
inductive SV where
 | nils
 | dead
 | int (k:IntKind) (n:Int)
 | bool (b:Bool)
 | str (l:List UInt8)
 | sl (e:Sh) (l:List e.D)
 | arr (n:Nat) (e:Sh) (l:List e.D)
 | win (r:Bool) (e:Sh) (id lo len:Nat)
 | ptr (id off:Nat)
 | elp (e:Sh) (id i off:Nat)
 | aep (e:Sh) (id base i off:Nat)
 | elv (σ:Sh) (x:σ.D)
 | agg (l:List SV)
 | tup (l:List SV)
 | fn (f:FuncId) (a c:List SV)
 | yl (l:Nat)
 | mp (id:Nat)
 | nilm
 | nilp
 | ifc (t:TypeId) (g:Bool) (l:List SV)
 | pta (n:Nat) (l:List Value) (j:Nat) (m:List SV)
inductive LB where
 | var (l:List SV)
 | row (et:TypeId) (e:Sh) (xs:List e.D)
 | mp (κ σ:Sh) (l:List (κ.D × σ.D))
 | iter (l:List UInt8) (pos:Nat)
def lk {α:Type}:List (Nat × α)->Nat->Option α
 | [],_=>none
 | (a,x)::l,k=>if a=k then some x else lk l k
def st {α:Type}:List (Nat × α)->Nat->α->List (Nat × α)
 | [],k,v=>[(k,v)]
 | (a,x)::l,k,v=>if a=k then (k,v)::l else if k<a then (k,v)::(a,x)::l else (a,x)::st l k v
def rm {α:Type}:List (Nat × α)->Nat->List (Nat × α)
 | [],_=>[]
 | (a,x)::l,k=>if a=k then rm l k else (a,x)::rm l k
theorem qan {α:Type} (k j:Nat) (v:α):∀ (l:List (Nat × α)),lk (st l k v) j=if j=k then some v else lk l j
 | []=>by
  simp only[st,lk];by_cases h:j=k
  ·subst h;simp
  ·rw[if_neg h,if_neg λ e=>h e.symm]
 | (a,x)::l=>by
  unfold st;split
  next h=>
   subst h;simp only[lk];by_cases h:j=a
   ·subst h;simp
   ·rw[if_neg h,if_neg λ e=>h e.symm,if_neg λ e=>h e.symm]
  ·split
   ·simp only[lk];by_cases h:j=k
    ·simp[h]
    ·simp[h,Ne.symm h]
   next h1 h2=>
    simp only[lk];rw[qan k j v l];by_cases h:j=k
    ·subst h;simp[h1]
    ·simp[h]
theorem qbu {α:Type} (k j:Nat):∀ (l:List (Nat × α)),lk (rm l k) j=if j=k then none else lk l j
 | []=>by simp[rm,lk]
 | (a,x)::l=>by
  unfold rm;split
  next h=>
   subst h;rw[qbu a j l];by_cases h:j=a
   ·simp[h]
   ·simp[lk,h,Ne.symm h]
  next h1=>
   simp only[lk,qbu k j l];by_cases h:j=k
   ·subst h;simp[h1]
   ·simp[h]
def ptV (v:Value):Prop:=∃ x,v=.pointer x
abbrev Nu:=Nat->Option NI
def WinR (r:Bool) (ν:Nu) (e:Sh) (id lo len:Nat) (v:Value):Prop:=
 match ν id with
 | none=>lo=0/\len=0/\(v=.slice none 0 0\/(r=false/\v=emptySlice))
 | some ni=>(r=false/\len=0/\(v=emptySlice\/∃ o t,v=.slice (some ⟨ni.b,o,none⟩) 0 0/\ni.tot=some t/\o<=t))\/∃ cap,v=.slice (some ⟨ni.b,lo*e.size,none⟩) len cap /\
   match ni.tot with
   | none=>cap=qae
   | some t=>len<=cap/\cap<2 ^ 63/\(lo+cap)*e.size<=t
mutual
def CR (Z:Nat->Option ABlk) (ν:Nu):SV->List Value->Prop
 | .nils,vs=>vs=[.slice none 0 0]
 | .dead,vs=>∃ v,vs=[v]/\v.cells=#[v]/\v.oneCell'=true
 | .int k n,vs=>vs=[.int k n]
 | .bool b,vs=>vs=[.bool b]
 | .str l,vs=>vs=[bstr l]
 | .sl e l,vs=>RV Z (.sl e) l vs
 | .arr n e l,vs=>RV Z (.arr n e) l vs
 | .win r e id lo len,vs=>∃ v,vs=[v]/\WinR r ν e id lo len v
 | .ptr id off,vs=>∃ ni,ν id=some ni/\vs=[.pointer (some ⟨ni.b,off,none⟩)]
 | .elp e id i off,vs=>∃ ni,ν id=some ni/\vs=[.pointer (some ⟨ni.b,i*e.size+off,none⟩)]
 | .aep e id base i off,vs=>∃ ni,ν id=some ni/\vs=[.pointer (some ⟨ni.b,base+i*e.size+off,none⟩)]
 | .elv σ x,vs=>∃ b o cs et k,vs=[.pointer (some ⟨b,o,none⟩)]/\Z b=some (.cells cs et k)/\o+σ.size<=cs.length/\RV Z σ x ((cs.drop o).take σ.size)
 | .agg l,vs=>CRL Z ν l vs
 | .tup _,_=>False
 | .fn f a c,vs=>∃ va vc,vs=[.func (.func f) va.toArray vc.toArray]/\CRO Z ν a va/\CRO Z ν c vc
 | .yl l,vs=>vs=[.func (.yield l) #[] #[]]
 | .mp id,vs=>∃ ni,ν id=some ni/\vs=[.map (some ni.b)]
 | .nilm,vs=>vs=[.map none]
 | .nilp,vs=>vs=[.pointer none]
 | .ifc t g l,vs=>∃ us v,CRL Z ν l us/\vs=[.iface t v]/\(match g with | true=>v=.agg us.toArray | false=>us=[v])
 | .pta n l j m,vs=>∃ us v,CRL Z ν m us/\us=[v]/\ptV v/\(∀ w∈l,ptV w)/\l.length=n/\vs=l.set j v
def CRL (Z:Nat->Option ABlk) (ν:Nu):List SV->List Value->Prop
 | [],vs=>vs=[]
 | s::l,vs=>∃ u w,vs=u++w/\CR Z ν s u/\CRL Z ν l w
def CRO (Z:Nat->Option ABlk) (ν:Nu):List SV->List Value->Prop
 | [],vs=>vs=[]
 | s::l,vs=>∃ v w,vs=v::w/\CR Z ν s [v]/\CRO Z ν l w
end
def V1 (Z:Nat->Option ABlk) (ν:Nu) (s:SV) (v:Value):Prop:=
 match s with
 | .agg l=>∃ vs,v=.agg vs.toArray/\CRL Z ν l vs
 | .arr n e l=>∃ vs,v=.agg vs.toArray/\RV Z (.arr n e) l vs
 | s=>CR Z ν s [v]
def V1L (Z:Nat->Option ABlk) (ν:Nu):List SV->List Value->Prop
 | [],vs=>vs=[]
 | s::l,vs=>∃ v w,vs=v::w/\V1 Z ν s v/\V1L Z ν l w
def VS (Z:Nat->Option ABlk) (ν:Nu) (s:SV) (v:Value):Prop:=
 match s with
 | .tup l=>∃ vs,v=.tuple vs.toArray/\V1L Z ν l vs
 | s=>V1 Z ν s v
def Sh.isAgg:Sh->Bool
 | .pair _ _ | .unit | .arr _ _=>true
 | _=>false
def VD (Z:Nat->Option ABlk) (σ:Sh) (x:σ.D) (v:Value):Prop:=∃ u,RV Z σ x u/\if σ.isAgg then v=.agg u.toArray else u=[v]
def MpR (Z:Nat->Option ABlk) {κ σ:Sh}:List (κ.D × σ.D)->List (Value × Value)->Prop
 | [],es=>es=[]
 | p::l,es=>∃ e r,es=e::r/\VD Z κ p.1 e.1/\VD Z σ p.2 e.2/\MpR Z l r
def opU:SV->Option Nat
 | .arr et .unit _=>some et
 | _=>none
def opE:SV->Option Nat
 | .arr _ e _=>some (10+e.size)
 | _=>none
def opK:List SV->Option (Nat × Nat)
 | a::b::_=>match opU a with
  | some x=>match opE b with
   | some y=>some (x,y)
   | none=>none
  | none=>none
 | _=>none
def KT (l:List SV) (ni:NI) (n:Nat) (et:Nat):Prop:=ni.tot=some n\/(ni.tot=none/\∃ k,opK l=some (et,k))
def kT (l:List SV) (ni:NI):Nat:=match ni.tot with
 | some _=>0
 | none=>match opK l with
  | some p=>p.2
  | none=>0
theorem q42 {s:SV}:opE s≠some 2:=by
 unfold opE;split
 ·simp only[ne_eq,Option.some.injEq];omega
 ·simp
theorem qyd {l:List SV} {ni:NI}:kT l ni≠2:=by
 unfold kT;split
 ·decide
 ·split
  next p hp=>
   unfold opK at hp;split at hp
   ·split at hp
    ·split at hp
     next y h=>cases hp;intro h2;simp only at h2;subst h2;exact q42 h
     ·cases hp
    ·cases hp
   ·cases hp
  ·decide
theorem KT.of {l l':List SV} {ni:NI} {n et:Nat} (h:KT l ni n et) (e:opK l'=opK l):KT l' ni n et:=by
 unfold KT at h |-;rw[e];exact h
theorem qjg {l l':List SV} {ni:NI} (e:opK l'=opK l):kT l' ni=kT l ni:=by
 unfold kT;rw[e]
theorem qpr {f:SV->SV} (h1:∀ s,opU (f s)=opU s) (h2:∀ s,opE (f s)=opE s) (a b:SV) (l l':List SV):opK (f a::f b::l')=opK (a::b::l):=by
 simp only[opK,h1,h2]
def BR (Z:Nat->Option ABlk) (ν:Nu) (H:AHeap) (id:Nat):LB->Prop
 | .var l=>∃ ni cs et,ν id=some ni/\KT l ni cs.length et/\H.t.get ni.b=some (.cells cs et (kT l ni))/\CRL Z ν l cs
 | .row et e xs=>0<e.size/\((ν id=none/\xs=[])\/∃ ni cs tl k,ν id=some ni/\H.t.get ni.b=some (.cells (cs++tl) et k)/\RVL (λ x u=>RV Z e x u) xs cs /\
   ((ni.tot=none/\k=10+e.size)\/(ni.tot=some (cs++tl).length/\k=0)))
 | .mp κ σ l=>κ.plain=true/\σ.plain=true/\∃ ni es,ν id=some ni/\H.t.get ni.b=some (.map es)/\MpR Z l es
 | .iter l pos=>∃ ni,ν id=some ni/\H.t.get ni.b=some (.iter ⟨l.toArray⟩ pos)
structure PS where
 env:List (Nat × SV)
 blk:List (Nat × LB)
def Own (ν:Nu) (S:PS) (b:Nat):Prop:=∃ id lb ni,lk S.blk id=some lb/\ν id=some ni/\ni.b=b
def isCells:ABlk->Prop
 | .cells _ _ _=>True
 | _=>False
structure PR (Z:Nat->Option ABlk) (ν:Nu) (S:PS) (E:T Value) (H:AHeap):Prop where
 env:∀ t s,lk S.env t=some s->∃ v,E.get t=some v/\VS Z ν s v
 blk:∀ id lb,lk S.blk id=some lb->BR Z ν H id lb
 zh:∀ b x,Z b=some x->H.t.get b=some x/\isCells x
 zo:∀ b,Own ν S b->Z b=none
 inj:∀ i j li lj ni nj,lk S.blk i=some li->lk S.blk j=some lj->ν i=some ni->ν j=some nj->ni.b=nj.b->i=j
def BIG:Nat:=1099511627776
structure FC (Z:Nat->Option ABlk) (ν:Nu) (S:PS) (H:AHeap) (Z':Nat->Option ABlk) (ν':Nu) (S':PS) (H':AHeap):Prop where
 z:ZLe Z Z'
 zn:∀ b,Z' b≠none->Z b≠none\/H.next<=b\/Own ν S b
 le:H.next<=H'.next
 old:∀ b x,H.t.get b=some x->b<H.next->¬ Own ν S b->H'.t.get b=some x
 own:∀ b,Own ν' S' b->Own ν S b\/H.next<=b
 big:∀ id,BIG<=id->lk S'.blk id≠none->lk S.blk id≠none/\ν' id=ν id
theorem FC.refl (Z:Nat->Option ABlk) (ν:Nu) (S:PS) (H:AHeap):FC Z ν S H Z ν S H:=⟨ZLe.refl _,λ _ h=>.inl h,Nat.le_refl _,λ _ _ h _ _=>h,λ _ h=>.inl h,λ _ _ h=>⟨h,rfl⟩⟩
theorem FC.trans {Z Z1 Z2:Nat->Option ABlk} {ν ν1 ν2:Nu} {S S1 S2:PS} {H H1 H2:AHeap} (a:FC Z ν S H Z1 ν1 S1 H1) (c:FC Z1 ν1 S1 H1 Z2 ν2 S2 H2):FC Z ν S H Z2 ν2 S2 H2 where
 z:=a.z.trans c.z
 zn b h:=by
  rcases c.zn b h with h | h | h
  ·exact a.zn b h
  ·exact .inr (.inl (Nat.le_trans a.le h))
  ·exact .inr (a.own b h).symm
 le:=Nat.le_trans a.le c.le
 old b x h hb ho:=c.old b x (a.old b x h hb ho) (Nat.lt_of_lt_of_le hb a.le) λ k=>by
  rcases a.own b k with k | k
  ·exact ho k
  ·omega
 own b h:=by
  rcases c.own b h with h | h
  ·exact a.own b h
  ·exact .inr (Nat.le_trans a.le h)
 big id hb h:=by
  obtain ⟨h1,e1⟩:=c.big id hb h;obtain ⟨h2,e2⟩:=a.big id hb h1;exact ⟨h2,e1.trans e2⟩
mutual
theorem CR.mono {Z Z':Nat->Option ABlk} {ν:Nu} (hz:ZLe Z Z'):∀ (s:SV) (vs:List Value),CR Z ν s vs->CR Z' ν s vs
 | .nils,_,h=>h
 | .dead,_,h=>h
 | .int _ _,_,h=>h
 | .bool _,_,h=>h
 | .str _,_,h=>h
 | .sl e l,vs,h=>RV.mono hz (.sl e) l vs h
 | .arr n e l,vs,h=>RV.mono hz (.arr n e) l vs h
 | .win _ _ _ _ _,_,h=>h
 | .ptr _ _,_,h=>h
 | .elp _ _ _ _,_,h=>h
 | .aep _ _ _ _ _,_,h=>h
 | .elv σ x,vs,h=>by
  simp only[CR] at h |-;obtain ⟨b,o,cs,et,k,h1,h2,h3,h4⟩:=h;exact ⟨b,o,cs,et,k,h1,hz _ _ h2,h3,RV.mono hz _ _ _ h4⟩
 | .agg l,vs,h=>by simp only[CR] at h |-;exact CRL.mono hz l vs h
 | .tup _,_,h=>h
 | .fn f a c,vs,h=>by
  simp only[CR] at h |-;obtain ⟨va,vc,h1,h2,h3⟩:=h;exact ⟨va,vc,h1,CRO.mono hz a va h2,CRO.mono hz c vc h3⟩
 | .yl _,_,h=>h
 | .mp _,_,h=>h
 | .nilm,_,h=>h
 | .nilp,_,h=>h
 | .ifc t g l,vs,h=>by
  simp only[CR] at h |-;obtain ⟨us,v,h1,h2,h3⟩:=h;exact ⟨us,v,CRL.mono hz l us h1,h2,h3⟩
 | .pta n l j m,vs,h=>by
  simp only[CR] at h |-;obtain ⟨us,v,h1,h2⟩:=h;exact ⟨us,v,CRL.mono hz m us h1,h2⟩
theorem CRL.mono {Z Z':Nat->Option ABlk} {ν:Nu} (hz:ZLe Z Z'):∀ (l:List SV) (vs:List Value),CRL Z ν l vs->CRL Z' ν l vs
 | [],_,h=>h
 | s::l,vs,h=>by
  simp only[CRL] at h |-;obtain ⟨u,w,e,h1,h2⟩:=h;exact ⟨u,w,e,CR.mono hz s u h1,CRL.mono hz l w h2⟩
theorem CRO.mono {Z Z':Nat->Option ABlk} {ν:Nu} (hz:ZLe Z Z'):∀ (l:List SV) (vs:List Value),CRO Z ν l vs->CRO Z' ν l vs
 | [],_,h=>h
 | s::l,vs,h=>by
  simp only[CRO] at h |-;obtain ⟨u,w,e,h1,h2⟩:=h;exact ⟨u,w,e,CR.mono hz s [u] h1,CRO.mono hz l w h2⟩
end
mutual
def ment (i:Nat):SV->Bool
 | .win _ _ id _ _=>id == i
 | .ptr id _=>id == i
 | .elp _ id _ _=>id == i
 | .aep _ id _ _ _=>id == i
 | .mp id=>id == i
 | .agg l=>qaf i l
 | .tup l=>qaf i l
 | .fn _ a c=>qaf i a || qaf i c
 | .ifc _ _ l=>qaf i l
 | .pta _ _ _ m=>qaf i m
 | _=>false
def qaf (i:Nat):List SV->Bool
 | []=>false
 | s::l=>ment i s || qaf i l
end
def Upd (ν:Nu) (i:Nat) (x:Option NI):Nu:=λ j=>if j=i then x else ν j
mutual
theorem CR.upd {Z:Nat->Option ABlk} {ν:Nu} {i:Nat} {x:Option NI}:∀ (s:SV) (vs:List Value),ment i s=false->CR Z ν s vs->CR Z (Upd ν i x) s vs
 | .nils,_,_,h=>h
 | .dead,_,_,h=>h
 | .int _ _,_,_,h=>h
 | .bool _,_,_,h=>h
 | .str _,_,_,h=>h
 | .sl _ _,_,_,h=>h
 | .arr _ _ _,_,_,h=>h
 | .win r e id lo len,vs,m,h=>by
  simp only[ment,beq_eq_false_iff_ne] at m;simp only[CR,WinR,Upd,if_neg m] at h |-;exact h
 | .ptr id _,_,m,h=>by
  simp only[ment,beq_eq_false_iff_ne] at m;simp only[CR,Upd,if_neg m] at h |-;exact h
 | .elp _ id _ _,_,m,h=>by
  simp only[ment,beq_eq_false_iff_ne] at m;simp only[CR,Upd,if_neg m] at h |-;exact h
 | .aep _ id _ _ _,_,m,h=>by
  simp only[ment,beq_eq_false_iff_ne] at m;simp only[CR,Upd,if_neg m] at h |-;exact h
 | .elv _ _,_,_,h=>h
 | .agg l,vs,m,h=>by
  simp only[ment] at m;simp only[CR] at h |-;exact CRL.upd l vs m h
 | .tup _,_,_,h=>h
 | .fn f a c,vs,m,h=>by
  simp only[ment,Bool.or_eq_false_iff] at m;simp only[CR] at h |-;obtain ⟨va,vc,h1,h2,h3⟩:=h;exact ⟨va,vc,h1,CRO.upd a va m.1 h2,CRO.upd c vc m.2 h3⟩
 | .yl _,_,_,h=>h
 | .nilm,_,_,h=>h
 | .nilp,_,_,h=>h
 | .ifc t g l,vs,m,h=>by
  simp only[ment] at m;simp only[CR] at h |-;obtain ⟨us,v,h1,h2,h3⟩:=h;exact ⟨us,v,CRL.upd l us m h1,h2,h3⟩
 | .pta _ _ _ l,vs,m,h=>by
  simp only[ment] at m;simp only[CR] at h |-;obtain ⟨us,v,h1,h2⟩:=h;exact ⟨us,v,CRL.upd l us m h1,h2⟩
 | .mp id,_,m,h=>by
  simp only[ment,beq_eq_false_iff_ne] at m;simp only[CR,Upd,if_neg m] at h |-;exact h
theorem CRL.upd {Z:Nat->Option ABlk} {ν:Nu} {i:Nat} {x:Option NI}:∀ (l:List SV) (vs:List Value),qaf i l=false->CRL Z ν l vs->CRL Z (Upd ν i x) l vs
 | [],_,_,h=>h
 | s::l,vs,m,h=>by
  simp only[qaf,Bool.or_eq_false_iff] at m;simp only[CRL] at h |-;obtain ⟨u,w,e,h1,h2⟩:=h;exact ⟨u,w,e,CR.upd s u m.1 h1,CRL.upd l w m.2 h2⟩
theorem CRO.upd {Z:Nat->Option ABlk} {ν:Nu} {i:Nat} {x:Option NI}:∀ (l:List SV) (vs:List Value),qaf i l=false->CRO Z ν l vs->CRO Z (Upd ν i x) l vs
 | [],_,_,h=>h
 | s::l,vs,m,h=>by
  simp only[qaf,Bool.or_eq_false_iff] at m;simp only[CRO] at h |-;obtain ⟨u,w,e,h1,h2⟩:=h;exact ⟨u,w,e,CR.upd s [u] m.1 h1,CRO.upd l w m.2 h2⟩
end
theorem V1.mono {Z Z':Nat->Option ABlk} {ν:Nu} (hz:ZLe Z Z') {s:SV} {v:Value} (h:V1 Z ν s v):V1 Z' ν s v:=by
 unfold V1 at h |-;split at h
 ·obtain ⟨vs,e,h⟩:=h;exact ⟨vs,e,CRL.mono hz _ _ h⟩
 ·obtain ⟨vs,e,h⟩:=h;exact ⟨vs,e,RV.mono hz _ _ _ h⟩
 ·exact CR.mono hz _ _ h
theorem V1.upd {Z:Nat->Option ABlk} {ν:Nu} {i:Nat} {x:Option NI} {s:SV} {v:Value} (m:ment i s=false) (h:V1 Z ν s v):V1 Z (Upd ν i x) s v:=by
 unfold V1 at h |-;split at h
 ·simp only[ment] at m;obtain ⟨vs,e,h⟩:=h;exact ⟨vs,e,CRL.upd _ _ m h⟩
 ·exact h
 ·exact CR.upd _ _ m h
theorem V1L.mono {Z Z':Nat->Option ABlk} {ν:Nu} (hz:ZLe Z Z'):∀ {l:List SV} {vs:List Value},V1L Z ν l vs->V1L Z' ν l vs
 | [],_,h=>h
 | _::_,_,⟨v,w,e,h1,h2⟩=>⟨v,w,e,h1.mono hz,V1L.mono hz h2⟩
theorem V1L.upd {Z:Nat->Option ABlk} {ν:Nu} {i:Nat} {x:Option NI}:∀ {l:List SV} {vs:List Value},qaf i l=false->V1L Z ν l vs->V1L Z (Upd ν i x) l vs
 | [],_,_,h=>h
 | s::l,_,m,⟨v,w,e,h1,h2⟩=>by
  simp only[qaf,Bool.or_eq_false_iff] at m;exact ⟨v,w,e,h1.upd m.1,V1L.upd m.2 h2⟩
theorem VS.mono {Z Z':Nat->Option ABlk} {ν:Nu} (hz:ZLe Z Z') {s:SV} {v:Value} (h:VS Z ν s v):VS Z' ν s v:=by
 unfold VS at h |-;split at h
 ·obtain ⟨vs,e,h⟩:=h;exact ⟨vs,e,h.mono hz⟩
 ·exact h.mono hz
theorem VS.upd {Z:Nat->Option ABlk} {ν:Nu} {i:Nat} {x:Option NI} {s:SV} {v:Value} (m:ment i s=false) (h:VS Z ν s v):VS Z (Upd ν i x) s v:=by
 unfold VS at h |-;split at h
 ·simp only[ment] at m;obtain ⟨vs,e,h⟩:=h;exact ⟨vs,e,h.upd m⟩
 ·exact h.upd m
end Go.Px
namespace Go.Ax
def qd6 (P:Program) (k:IntKind):List Field->Nat->Bool
 | [],_=>true
 | f :: l, i => f.name != "_" && f.offset == i && (match qaa P (isAgg f.type), qaa P (underlying f.type) with
  | some false,some (.int k')=>k' == k
  | _,_=>false)&&qd6 P k l (i+1)
def qfl (k:IntKind) (l:List Int):Value:=.agg (l.map (Value.int k)).toArray
theorem qlx (k:IntKind) (l:List Int):flat (qfl k l)=true:=by
 have:∀ l:List Int,qbd (l.map (Value.int k))=true:=by
  intro l;induction l with
  | nil=>rfl
  | cons a l ih=>simp[qbd,flat,ih]
 simp[qfl,flat,qm9,this]
theorem qid {P:Program} {t:TypeId} {cs:Array Value} {o:Nat} {v:Value} (ha:qaa P (isAgg t)=some false) (hv:cs[o]?=some v):qaa P (part t cs o)=some v:=by
 simp[part,qad,ha,hv,qac]
theorem qrp {P:Program} {k:IntKind} {d:Nat} {X Y:List Int}:∀ (l:List Field) (i:Nat),qd6 P k l i=true->i+l.length=X.length->i+l.length=Y.length ->
  qaa P (forIn (m:=Sem) l ((none:Option Bool),()) λ f _=>
   if f.name ≠ "_" then do
    let a <- part f.type (X.map (Value.int k)).toArray f.offset
    let b <- part f.type (Y.map (Value.int k)).toArray f.offset
    let r <- Op.equalIn (d+1) f.type a b
    if (!r)=true then pure (ForInStep.done (some false,())) else pure (ForInStep.yield (none,()))
   else pure (ForInStep.yield (none,())))=some (if X.drop i=Y.drop i then none else some false,())
 | [],i,_,hx,hy=>by
  simp only[List.length_nil,Nat.add_zero] at hx hy;rw[List.drop_of_length_le (show X.length<=i by omega),List.drop_of_length_le (show Y.length<=i by omega)];simp[qac]
 | f::l,i,h,hx,hy=>by
  simp only[qd6,Bool.and_eq_true,bne_iff_ne,beq_iff_eq] at h;obtain ⟨⟨⟨h1,h2⟩,h3⟩,h4⟩:=h;simp only[List.length_cons] at hx hy;have hix:i<X.length:=by omega
  have hiy:i<Y.length:=by omega
  split at h3
  next k' ha hu=>
   have h3:=eq_of_beq h3;subst h3;have ih:=qrp (P:=P) (d:=d) (X:=X) (Y:=Y) l (i+1) h4 (by omega) (by omega);have p1:∀ Z:List Int,(hz:i<Z.length)->qaa P (part f.type (Z.map (Value.int k')).toArray f.offset)=some (.int k' Z[i]):=λ Z hz=>by
    refine qid ha ?_;rw[h2];simp[hz]
   have e1:∀ Z:List Int,(hz:i<Z.length)->Z.drop i=Z[i]::Z.drop (i+1):=λ Z hz=>List.drop_eq_getElem_cons hz
   have q:∀ a b:Int,qaa P (Op.equalIn (d+1) f.type (.int k' a) (.int k' b))=some (a == b):=λ a b=>by
    rw[Op.equalIn];simp[qad,hu,qac]
   have z1:=e1 X hix;have z2:=e1 Y hiy;have hdd:X.drop i=Y.drop i↔X[i]=Y[i]/\X.drop (i+1)=Y.drop (i+1):=by
    constructor
    ·intro h;rw[z1,z2] at h;exact List.cons.inj h
    ·rintro ⟨h,h'⟩;rw[z1,z2,h,h']
   generalize X.drop i=DX at hdd;generalize Y.drop i=DY at hdd;clear z1 z2 e1;rw[List.forIn_cons];simp only[h1,ne_eq,not_false_iff,if_true,qad,p1 X hix,p1 Y hiy,Option.bind_some,q];by_cases hab:X[i]=Y[i]
   ·simp only[hab,beq_self_eq_true,Bool.not_true,Bool.false_eq_true,if_false,qac,Option.bind_some];refine ih.trans ?_;simp only[hdd,hab,true_and]
   ·have:(X[i] == Y[i])=false:=by simpa using hab
    simp only[this,Bool.not_false,if_true,qac,Option.bind_some,hdd,hab,false_and,if_false]
  ·cases h3
theorem qpm {P:Program} {t:TypeId} {k:IntKind} {fields:Array Field} {X Y:List Int} (hu:qaa P (underlying t)=some (.struct fields)) (hf:qd6 P k fields.toList 0=true) (hs:P.stoodInHeld t=false)
  (hx:fields.size=X.length) (hy:fields.size=Y.length):qaa P (Op.equal t (qfl k X) (qfl k Y))=some (decide (X=Y)):=by
 unfold Op.equal qfl;rw[show Op.maxDepth=9998+1+1 from rfl,Op.equalIn];simp only[qad,hu,Option.bind_some,qba,hs,Bool.false_eq_true,if_false];have:=qrp (P:=P) (d:=9998) (X:=X) (Y:=Y) fields.toList 0 hf (by simpa using hx) (by simpa using hy);rw[<- Array.forIn_toList];rw[this];by_cases h:X=Y <;> simp[h,qac]
theorem qv2 {P:Program} {k:IntKind} {d:Nat} {et:TypeId} {X Y:List Int} (ha:qaa P (isAgg et)=some false) (hu:qaa P (underlying et)=some (.int k)):∀ (m i:Nat),i+m=X.length->i+m=Y.length ->
  qaa P (forIn (m:=Sem) (List.range' i m) ((none:Option Bool),()) λ i _=>do
    let a <- part et (X.map (Value.int k)).toArray (i*1)
    let b <- part et (Y.map (Value.int k)).toArray (i*1)
    let r <- Op.equalIn (d+1) et a b
    if (!r)=true then pure (ForInStep.done (some false,())) else pure (ForInStep.yield (none,())))=some (if X.drop i=Y.drop i then none else some false,())
 | 0,i,hx,hy=>by
  rw[List.drop_of_length_le (show X.length<=i by omega),List.drop_of_length_le (show Y.length<=i by omega)];simp[qac]
 | m+1,i,hx,hy=>by
  have hix:i<X.length:=by omega
  have hiy:i<Y.length:=by omega
  have ih:=qv2 (P:=P) (d:=d) (X:=X) (Y:=Y) ha hu m (i+1) (by omega) (by omega);have p1:∀ Z:List Int,(hz:i<Z.length)->qaa P (part et (Z.map (Value.int k)).toArray (i*1))=some (.int k Z[i]):=λ Z hz=>by
   refine qid ha ?_;rw[Nat.mul_one];simp[hz]
  have e1:∀ Z:List Int,(hz:i<Z.length)->Z.drop i=Z[i]::Z.drop (i+1):=λ Z hz=>List.drop_eq_getElem_cons hz
  have q:∀ a b:Int,qaa P (Op.equalIn (d+1) et (.int k a) (.int k b))=some (a == b):=λ a b=>by
   rw[Op.equalIn];simp[qad,hu,qac]
  have z1:=e1 X hix;have z2:=e1 Y hiy;have hdd:X.drop i=Y.drop i↔X[i]=Y[i]/\X.drop (i+1)=Y.drop (i+1):=by
   constructor
   ·intro h;rw[z1,z2] at h;exact List.cons.inj h
   ·rintro ⟨h,h'⟩;rw[z1,z2,h,h']
  generalize X.drop i=DX at hdd;generalize Y.drop i=DY at hdd;clear z1 z2 e1;rw[List.range'_succ,List.forIn_cons];simp only[qad,p1 X hix,p1 Y hiy,Option.bind_some,q];by_cases hab:X[i]=Y[i]
  ·simp only[hab,beq_self_eq_true,Bool.not_true,Bool.false_eq_true,if_false,qac,Option.bind_some];refine ih.trans ?_;simp only[hdd,hab,true_and]
  ·have:(X[i] == Y[i])=false:=by simpa using hab
   simp only[this,Bool.not_false,if_true,qac,Option.bind_some,hdd,hab,false_and,if_false]
theorem qpn {P:Program} {t et:TypeId} {k:IntKind} {n:Nat} {X Y:List Int} (hu:qaa P (underlying t)=some (.array n et)) (hs:qaa P (sizeOf et)=some 1) (ha:qaa P (isAgg et)=some false) (he:qaa P (underlying et)=some (.int k))
  (hx:X.length=n) (hy:Y.length=n):qaa P (Op.equal t (qfl k X) (qfl k Y))=some (decide (X=Y)):=by
 unfold Op.equal qfl;rw[show Op.maxDepth=9998+1+1 from rfl,Op.equalIn];simp only[qad,hu,hs,Option.bind_some];have:=qv2 (P:=P) (d:=9998) (X:=X) (Y:=Y) ha he n 0 (by omega) (by omega);rw[Std.Legacy.Range.forIn_eq_forIn_range'];simp only[Std.Legacy.Range.size,Nat.sub_zero,Nat.add_sub_cancel,Nat.div_one];rw[this];by_cases h:X=Y <;> simp[h,qac]
theorem qr5 {P:Program} {t:TypeId} {xo yo:Operand} {k:IntKind} {X Y:List Int} (h:qaa P (Op.equal t (qfl k X) (qfl k Y))=some (decide (X=Y))) (hg:P.eqGuardType P.depth t=false) :
  aBin P .eql t xo yo (qfl k X) (qfl k Y)=some (.bool (decide (X=Y)))/\aBin P .neq t xo yo (qfl k X) (qfl k Y)=some (.bool (!decide (X=Y))):=by
 have fx:=qlx k X;have fy:=qlx k Y;unfold aBin;rw[fx,fy];simp only[qfl] at h |-;constructor <;> simp[eqGuard,qad,qba,hg,binOp,qdc,h,qac,flat]
inductive Cl where
 | ci (k:IntKind) (n:Int)
 | cb (v:Bool)
deriving DecidableEq
def Cl.k:Cl->Option IntKind
 | .ci k _=>some k
 | .cb _=>none
def Cl.v:Cl->Value
 | .ci k n=>.int k n
 | .cb v=>.bool v
def clV (l:List Cl):Value:=.agg (l.map Cl.v).toArray
theorem qrm (l:List Cl):flat (clV l)=true:=by
 have:∀ l:List Cl,qbd (l.map Cl.v)=true:=by
  intro l;induction l with
  | nil=>rfl
  | cons a l ih=>cases a <;> simp[qbd,flat,ih,Cl.v]
 simp[clV,flat,qm9,this]
def qcm (P:Program):List (Option IntKind)->List Field->Nat->Bool
 | [],[],_=>true
 | k :: ks, f :: l, i => f.name != "_" && f.offset == i && (match qaa P (isAgg f.type), qaa P (underlying f.type), k with
  | some false,some (.int k'),some k=>k' == k
  | some false,some .bool,none=>true
  | _,_,_=>false)&&qcm P ks l (i+1)
 | _,_,_=>false
theorem qrc {P:Program} {d:Nat} {X Y:List Cl}:∀ (ks:List (Option IntKind)) (l:List Field) (i:Nat),qcm P ks l i=true->(X.drop i).map Cl.k=ks->(Y.drop i).map Cl.k=ks ->
  qaa P (forIn (m:=Sem) l ((none:Option Bool),()) λ f _=>
   if f.name ≠ "_" then do
    let a <- part f.type (X.map Cl.v).toArray f.offset
    let b <- part f.type (Y.map Cl.v).toArray f.offset
    let r <- Op.equalIn (d+1) f.type a b
    if (!r)=true then pure (ForInStep.done (some false,())) else pure (ForInStep.yield (none,()))
   else pure (ForInStep.yield (none,())))=some (if X.drop i=Y.drop i then none else some false,())
 | [],[],i,_,hx,hy=>by
  rw[List.map_eq_nil_iff] at hx hy;rw[hx,hy];simp[qac]
 | [],_::_,_,h,_,_=>by simp[qcm] at h
 | _::_,[],_,h,_,_=>by simp[qcm] at h
 | k::ks,f::l,i,h,hx,hy=>by
  simp only[qcm,Bool.and_eq_true,bne_iff_ne,beq_iff_eq] at h;obtain ⟨⟨⟨h1,h2⟩,h3⟩,h4⟩:=h;have hl:∀ Z:List Cl,(Z.drop i).map Cl.k=k::ks->∃ hz:i<Z.length,Z[i].k=k/\(Z.drop (i+1)).map Cl.k=ks/\Z.drop i=Z[i]::Z.drop (i+1):=λ Z hz=>by
   have hlen:i<Z.length:=by
    refine Nat.lt_of_not_le λ q=>?_
    rw[List.drop_of_length_le q] at hz;cases hz
   have e:=List.drop_eq_getElem_cons hlen;rw[e,List.map_cons,List.cons.injEq] at hz;exact ⟨hlen,hz.1,hz.2,e⟩
  obtain ⟨hix,x1,x2,z1⟩:=hl X hx;obtain ⟨hiy,y1,y2,z2⟩:=hl Y hy;have ih:=qrc (P:=P) (d:=d) (X:=X) (Y:=Y) ks l (i+1) h4 x2 y2;have ha:qaa P (isAgg f.type)=some false:=by
   cases hA:qaa P (isAgg f.type) with
   | none=>rw[hA] at h3;cases h3
   | some z=>cases z with
    | true=>rw[hA] at h3;cases h3
    | false=>rfl
  have p1:∀ Z:List Cl,(hz:i<Z.length)->qaa P (part f.type (Z.map Cl.v).toArray f.offset)=some Z[i].v:=λ Z hz=>by
   refine qid ha ?_;rw[h2];simp[hz]
  have q:qaa P (Op.equalIn (d+1) f.type X[i].v Y[i].v)=some (decide (X[i]=Y[i])):=by
   generalize X[i]=a at x1;generalize Y[i]=c at y1;rw[ha] at h3
   cases a with
   | ci ka na=>
    cases c with
    | cb _=>rw[<- x1] at y1;cases y1
    | ci kb nb=>
     have hk:ka=kb:=by rw[<- y1] at x1;exact Option.some.inj x1
     subst hk;rw[<- x1] at h3
     cases hu:qaa P (underlying f.type) with
     | none=>rw[hu] at h3;cases h3
     | some td=>
      rw[hu] at h3
      cases td <;> first | (cases h3;done) | skip
      rename_i k';have h3:(k' == ka)=true:=h3;have h3:=eq_of_beq h3;subst h3;rw[Op.equalIn];simp[qad,hu,qac,Cl.v];rfl
   | cb z=>
    cases c with
    | ci _ _=>rw[<- x1] at y1;cases y1
    | cb z'=>
     rw[<- x1] at h3
     cases hu:qaa P (underlying f.type) with
     | none=>rw[hu] at h3;cases h3
     | some td=>
      rw[hu] at h3
      cases td <;> first | (cases h3;done) | skip
      rw[Op.equalIn];simp[qad,hu,qac,Cl.v]
      cases z <;> cases z' <;> rfl
  have hdd:X.drop i=Y.drop i↔X[i]=Y[i]/\X.drop (i+1)=Y.drop (i+1):=by
   constructor
   ·intro h;rw[z1,z2] at h;exact List.cons.inj h
   ·rintro ⟨h,h'⟩;rw[z1,z2,h,h']
  generalize X.drop i=DX at hdd;generalize Y.drop i=DY at hdd;clear z1 z2;rw[List.forIn_cons];simp only[h1,ne_eq,not_false_iff,if_true,qad,p1 X hix,p1 Y hiy,Option.bind_some,q];by_cases hab:X[i]=Y[i]
  ·simp only[hab,decide_true,Bool.not_true,Bool.false_eq_true,if_false,qac,Option.bind_some];refine ih.trans ?_;simp only[hdd,hab,true_and]
  ·simp only[hab,decide_false,Bool.not_false,if_true,qac,Option.bind_some,hdd,false_and,if_false]
theorem qpl {P:Program} {t:TypeId} {ks:List (Option IntKind)} {fields:Array Field} {X Y:List Cl} (hu:qaa P (underlying t)=some (.struct fields)) (hf:qcm P ks fields.toList 0=true) (hs:P.stoodInHeld t=false)
  (hx:X.map Cl.k=ks) (hy:Y.map Cl.k=ks):qaa P (Op.equal t (clV X) (clV Y))=some (decide (X=Y)):=by
 unfold Op.equal clV;rw[show Op.maxDepth=9998+1+1 from rfl,Op.equalIn];simp only[qad,hu,Option.bind_some,qba,hs,Bool.false_eq_true,if_false];have:=qrc (P:=P) (d:=9998) (X:=X) (Y:=Y) ks fields.toList 0 hf (by simpa using hx) (by simpa using hy);rw[<- Array.forIn_toList];rw[this];by_cases h:X=Y <;> simp[h,qac]
theorem qzg {P:Program} {t:TypeId} {xo yo:Operand} {X Y:List Cl} (h:qaa P (Op.equal t (clV X) (clV Y))=some (decide (X=Y))) (hg:P.eqGuardType P.depth t=false) :
  aBin P .eql t xo yo (clV X) (clV Y)=some (.bool (decide (X=Y)))/\aBin P .neq t xo yo (clV X) (clV Y)=some (.bool (!decide (X=Y))):=by
 have fx:=qrm X;have fy:=qrm Y;unfold aBin;rw[fx,fy];simp only[clV] at h |-;constructor <;> simp[eqGuard,qad,qba,hg,binOp,qdc,h,qac,flat]
end Go.Ax
namespace Go.Px
open Ax
inductive TK where
 | int (k:IntKind)
 | bool
 | str
 | slice (e:TypeId)
 | array (n:Nat) (e:TypeId)
 | struct (fs:List (Nat × TypeId))
 | map (k e:TypeId)
 | ptr (e:TypeId)
 | other
structure TI where
 size:Nat
 bytes:Nat
 agg:Bool
 kind:TK
 zero:List SV
 sh:Sh
 ieq:Option IntKind:=none
def TK.seq:TK->Bool
 | .slice _=>true
 | .str=>true
 | _=>false
abbrev TT:=List (Nat × TI)
def kOf (tt:TT) (t:TypeId):Option TK:=match lk tt t with
 | some i=>some i.kind
 | none=>none
structure GV where
 l:List (Nat × ((σ:Sh) × σ.D))
 raw:T ABlk
 mt:List (Nat × (String × Nat))
def Sh.dflt:(σ:Sh)->σ.D
 | .int _=>(0:Int)
 | .bool=>false
 | .str=>([]:List UInt8)
 | .unit=>()
 | .pair a b=>(a.dflt,b.dflt)
 | .arr n e=>List.replicate n e.dflt
 | .sl e=>([]:List e.D)
def gt (e:Sh) (l:List e.D) (i:Nat):e.D:=(l[i]?).getD e.dflt
def SV.size:SV->Nat
 | .arr n e _=>n*e.size
 | .pta n _ _ _=>n
 | .agg l=>sizeL l
 | _=>1
where sizeL:List SV->Nat
 | []=>0
 | s::l=>s.size+sizeL l
def items:SV->List SV
 | .agg l=>l
 | s=>[s]
def cutAt:List SV->Nat->Option (List SV × List SV)
 | l,0=>some ([],l)
 | [],_+1=>none
 | s::l,n+1=>if s.size<=n+1/\0<s.size then (cutAt l (n+1-s.size)).map λ r=>(s::r.1,r.2) else none
termination_by l _=>l.length
def qdy:(σ:Sh)->σ.D->List SV
 | .int k,(n:Int)=>[.int k n]
 | .bool,(b:Bool)=>[.bool b]
 | .str,(l:List UInt8)=>[.str l]
 | .unit,_=>[]
 | .pair a b,x=>qdy a x.1++qdy b x.2
 | .arr n e,(l:List e.D)=>[.arr n e l]
 | .sl e,(l:List e.D)=>[.sl e l]
def ofD (σ:Sh) (x:σ.D):SV:=
 match σ,x with
 | .pair a b,x=>.agg (qdy (.pair a b) x)
 | .unit,_=>.agg []
 | .int k,(n:Int)=>.int k n
 | .bool,(b:Bool)=>.bool b
 | .str,(l:List UInt8)=>.str l
 | .arr n e,(l:List e.D)=>.arr n e l
 | .sl e,(l:List e.D)=>.sl e l
def toI (k:IntKind):List SV->Option (Int × List SV)
 | .int k' n::l=>if k'=k then some (n,l) else none
 | _=>none
def toBo:List SV->Option (Bool × List SV)
 | .bool b::l=>some (b,l)
 | _=>none
def toSt:List SV->Option (List UInt8 × List SV)
 | .str s::l=>some (s,l)
 | _=>none
def toSl (e:Sh):List SV->Option (List e.D × List SV)
 | .sl e' xs::l=>if h:e'=e then some (h ▸ xs,l) else none
 | .nils::l=>some ([],l)
 | _=>none
def toAr (n:Nat) (e:Sh):List SV->Option (List e.D × List SV)
 | .arr n' e' xs::l=>if h:e'=e then if n'=n then some (h ▸ xs,l) else none else none
 | _=>none
def toDL:(σ:Sh)->List SV->Option (σ.D × List SV)
 | .unit,l=>some ((),l)
 | .pair a b,l=>match toDL a l with
  | some (x,l1)=>match toDL b l1 with
   | some (y,l2)=>some ((x,y),l2)
   | none=>none
  | none=>none
 | .int k,l=>toI k l
 | .bool,l=>toBo l
 | .str,l=>toSt l
 | .sl e,l=>toSl e l
 | .arr n e,l=>toAr n e l
def toD (σ:Sh) (s:SV):Option σ.D:=
 match toDL σ (items s) with
 | some (x,[])=>some x
 | _=>none
def qj6:(σ:Sh)->σ.D->Nat->Nat->Option ((τ:Sh) × τ.D)
 | .pair a b,x,off,n=>if off=0/\n=(Sh.pair a b).size then some ⟨.pair a b,x⟩
   else if off+n<=a.size then qj6 a x.1 off n else if a.size<=off then qj6 b x.2 (off-a.size) n else none
 | .arr m e,x,off,n=>if off=0/\n=(Sh.arr m e).size then some ⟨.arr m e,x⟩
   else if n=e.size/\e.size=1/\off<m then some ⟨e,((x:List e.D)[off]?).getD e.dflt⟩ else none
 | σ,x,off,n=>if off=0/\n=σ.size then some ⟨σ,x⟩ else none
def setAt:(σ:Sh)->σ.D->Nat->Nat->SV->Option σ.D
 | .pair a b,x,off,n,s=>if off=0/\n=(Sh.pair a b).size then toD (.pair a b) s
   else if off+n<=a.size then (setAt a x.1 off n s).map λ y=>(y,x.2) else if a.size<=off then (setAt b x.2 (off-a.size) n s).map λ y=>(x.1,y) else none
 | .arr m e,x,off,n,s=>if off=0/\n=(Sh.arr m e).size then toD (.arr m e) s
   else if n=e.size/\e.size=1/\off<m then (toD e s).map λ y=>List.set x off y else none
 | σ,_,off,n,s=>if off=0/\n=σ.size then toD σ s else none
def qg8 (l:List SV) (off n:Nat) (new:List SV):Option (List SV):=
 match cutAt l off with
 | some (a,r)=>match cutAt r n with
  | some (_,c)=>some (a++new++c)
  | none=>none
 | none=>none
def opEq:Option (Nat × Nat)->Option (Nat × Nat)->Bool
 | none,none=>true
 | some a,some b=>Nat.beq a.1 b.1&&Nat.beq a.2 b.2
 | _,_=>false
theorem q1v {a b:Option (Nat × Nat)} (h:opEq a b=true):a=b:=by
 cases a with
 | none=>cases b with
  | none=>rfl
  | some b=>simp[opEq] at h
 | some a=>cases b with
  | none=>simp[opEq] at h
  | some b=>
   simp only[opEq,Bool.and_eq_true,Nat.beq_eq] at h;obtain ⟨a1,a2⟩:=a;obtain ⟨b1,b2⟩:=b;obtain ⟨h1,h2⟩:=h;simp only at h1 h2;rw[h1,h2]
def qj8 (l:List SV) (off n:Nat) (new:List SV):Option (List SV):=
 match qg8 l off n new with
 | some l'=>match opEq (opK l') (opK l) with
  | true=>some l'
  | false=>none
 | none=>none
theorem qb6 {l l' new:List SV} {off n:Nat} (h:qj8 l off n new=some l'):qg8 l off n new=some l'/\opK l'=opK l:=by
 unfold qj8 at h;split at h
 next l0 h0=>
  split at h
  next he=>cases h;exact ⟨h0,q1v he⟩
  ·cases h
 ·cases h
def qi3 (l:List SV) (off n:Nat):Option (List SV):=
 match cutAt l off with
 | some (_,r)=>match cutAt r n with
  | some (x,_)=>some x
  | none=>none
 | none=>none
def mkV (agg:Bool) (l:List SV):Option SV:=
 match agg,l with
 | true,[.arr n e x]=>some (.arr n e x)
 | true,l=>some (.agg l)
 | false,[.arr _ _ _]=>none
 | false,[.agg _]=>none
 | false,[.tup _]=>none
 | false,[s]=>some s
 | _,_=>none
def cv:Value->Option SV
 | .int k n=>some (.int k n)
 | .bool b=>some (.bool b)
 | .string s=>some (.str s.data.toList)
 | .slice none 0 0=>some .nils
 | .map none=>some .nilm
 | .pointer none=>some .nilp
 | .nilFunc=>some .dead
 | .nilIface=>some .dead
 | _=>none
def pv (G:GV) (env:List (Nat × SV)):Operand->Option SV
 | .tmp t=>lk env t
 | .const v=>cv v
 | .global g=>(lk G.l g).map λ x=>.elv x.1 x.2
 | .func f=>some (.fn f [] [])
def bitI (op:BinOp) (k:IntKind) (a b:Int):Int:=
 let x:=BitVec.ofInt k.bits a
 let y:=BitVec.ofInt k.bits b
 match op with
 | .and=>k.wrap (x &&& y).toNat
 | .or=>k.wrap (x ||| y).toNat
 | .xor=>k.wrap (x ^^^ y).toNat
 | _=>k.wrap (x &&& ~~~y).toNat
abbrev PC (α:Type):=Option (List Prop × α)
def ok {α:Type} (x:α):PC α:=some ([],x)
def qlu (k:IntKind):List SV->Option (List Int)
 | []=>some []
 | .int k' a::l=>if k'=k then (qlu k l).map (a::·) else none
 | _=>none
def qp7:List SV->Option (List Ax.Cl)
 | []=>some []
 | .int k a::l=>(qp7 l).map (.ci k a::·)
 | .bool b::l=>(qp7 l).map (.cb b::·)
 | _=>none
def qpw:Sh->List (Option IntKind)
 | .int k=>[some k]
 | .bool=>[none]
 | .pair a b=>qpw a++qpw b
 | _=>[]
def qpx (i:TI):Bool:=match i.ieq,i.kind with
 | some .i8,.struct _=>true
 | _,_=>false
def peq (ti:Option TI) (x y:SV):Option Bool:=
 match ti,x,y with
 | some ti,.bool a,.bool b=>match ti.kind with
  | .bool=>some (a == b)
  | _=>none
 | some ti,.agg l,.agg m=>match qpx ti with
  | true=>match qp7 l,qp7 m with
   | some X,some Y=>if X.map Ax.Cl.k=qpw ti.sh/\Y.map Ax.Cl.k=qpw ti.sh then some (decide (X=Y)) else none
   | _,_=>none
  | false=>match ti.ieq with
   | some k=>match qlu k l,qlu k m with
    | some X,some Y=>if X.length=ti.size/\Y.length=ti.size then some (decide (X=Y)) else none
    | _,_=>none
   | none=>none
 | some ti,.ptr _ _,.nilp=>match ti.kind with
  | .ptr _=>some false
  | _=>none
 | some ti,.nilp,.nilp=>match ti.kind with
  | .ptr _=>some true
  | _=>none
 | some ti,.arr n (.int k) X,.arr n' (.int k') Y=>match ti.ieq with
  | some k2=>if qpx ti=false/\k=k2/\k'=k2/\n=ti.size/\n'=ti.size then some (decide ((X:List Int)=Y)) else none
  | none=>none
 | _,_,_=>none
def pbin (ti:Option TI) (op:BinOp) (x y:SV):PC SV:=
 match op,x,y with
 | .add,.int k a,.int k' b=>if k=k' then ok (.int k (k.wrap (a+b))) else none
 | .sub,.int k a,.int k' b=>if k=k' then ok (.int k (k.wrap (a-b))) else none
 | .mul,.int k a,.int k' b=>if k=k' then ok (.int k (k.wrap (a*b))) else none
 | .quo,.int k a,.int k' b=>if k=k' then some ([b≠0],.int k (k.wrap (a.tdiv b))) else none
 | .rem,.int k a,.int k' b=>if k=k' then some ([b≠0],.int k (a.tmod b)) else none
 | .and,.int k a,.int k' b=>if k=k' then ok (.int k (bitI .and k a b)) else none
 | .or,.int k a,.int k' b=>if k=k' then ok (.int k (bitI .or k a b)) else none
 | .xor,.int k a,.int k' b=>if k=k' then ok (.int k (bitI .xor k a b)) else none
 | .andNot,.int k a,.int k' b=>if k=k' then ok (.int k (bitI .andNot k a b)) else none
 | .shl,.int k a,.int _ b=>some ([0<=b],.int k (k.wrap (a*2 ^ (min b.toNat k.bits))))
 | .shr,.int k a,.int _ b=>some ([0<=b],.int k (a.fdiv (2 ^ (min b.toNat k.bits))))
 | .eql,.int k a,.int k' b=>if k=k' then ok (.bool (decide (a=b))) else none
 | .neq,.int k a,.int k' b=>if k=k' then ok (.bool (decide (a≠b))) else none
 | .lss,.int k a,.int k' b=>if k=k' then ok (.bool (decide (a<b))) else none
 | .leq,.int k a,.int k' b=>if k=k' then ok (.bool (decide (a<=b))) else none
 | .gtr,.int k a,.int k' b=>if k=k' then ok (.bool (decide (b<a))) else none
 | .geq,.int k a,.int k' b=>if k=k' then ok (.bool (decide (b<=a))) else none
 | .add,.str a,.str b=>some ([a.length+b.length<2 ^ 62],.str (a++b))
 | .eql,.str a,.str b=>ok (.bool (decide (a=b)))
 | .neq,.str a,.str b=>ok (.bool (decide (a≠b)))
 | .eql,x,y=>match peq ti x y with
  | some r=>ok (.bool r)
  | none=>none
 | .neq,x,y=>match peq ti x y with
  | some r=>ok (.bool (!r))
  | none=>none
 | _,_,_=>none
def qdp (tt:TT) (fs:List (Nat × TypeId)):List (Nat × SV)->List SV->Option (List SV)
 | [],l=>some l
 | (i,s)::ps,l=>match fs[i]? with
  | some (off,t)=>match lk tt t with
   | some ti=>if SV.size.sizeL (items s)=ti.size then match qg8 l off ti.size (items s) with
    | some l'=>qdp tt fs ps l'
    | none=>none else none
   | none=>none
  | none=>none
def qfv (e:Sh):List (Nat × SV)->List e.D->Option (List e.D)
 | [],l=>some l
 | (i,s)::ps,l=>match toD e s with
  | some x=>if i<l.length then qfv e ps (l.set i x) else none
  | none=>none
def allS {α:Type}:List (Option α)->Option (List α)
 | []=>some []
 | none::_=>none
 | some a::l=>match allS l with
  | some r=>some (a::r)
  | none=>none
def qdr (ρ:Operand->Option SV) (xs:Array (Nat × Operand)):Option (List (Nat × SV)):=allS (xs.toList.map λ p=>(ρ p.2).map λ v=>(p.1,v))
def qbb (ρ:Operand->Option SV) (xs:Array Operand):Option (List SV):=allS (xs.toList.map ρ)
def qku (off n:Nat):SV->PC SV
 | .ptr id o=>ok (.ptr id (o+off))
 | .elp e id i o=>ok (.elp e id i (o+off))
 | .aep e id b i o=>ok (.aep e id b i (o+off))
 | .elv σ x=>match qj6 σ x off n with
  | some ⟨τ,y⟩=>ok (.elv τ y)
  | none=>none
 | _=>none
def plen:TK->SV->Option Int
 | .slice _,.win _ _ _ _ n=>some (n:Int)
 | .slice _,.sl _ l=>some (l.length:Int)
 | .slice _,.nils=>some 0
 | .str,.str l=>some (l.length:Int)
 | _,_=>none
def qen:SV->Bool
 | .tup _=>true
 | _=>false
def q14 (ps:List (Nat × SV)):Bool:=ps.all λ p => !qen p.2
def qbi:SV->Bool
 | .agg _ | .arr _ _ _ | .tup _ | .pta _ _ _ _=>false
 | _=>true
def qyh:Option SV->Option SV
 | some (.tup [])=>none
 | s=>s
theorem qb7 {o:Option SV} {s:SV} (h:qyh o=some s):o=some s:=by
 unfold qyh at h;split at h
 ·cases h
 ·exact h
def qg0:SV->Bool
 | .agg _ | .arr _ _ _=>true
 | _=>false
def pA (tt:TT) (ρ:Operand->Option SV) (o:Oper):PC SV:=
 match o.op with
 | .move x=>(ρ x).bind ok
 | .assign x=>(ρ x).bind ok
 | .pick c a b=>match ρ c with
  | some (.bool t)=>match qyh (ρ a),qyh (ρ b) with
   | some (.bool x),some (.bool y)=>ok (.bool (bif t then x else y))
   | some (.int k x),some (.int k' y)=>if k=k' then ok (.int k (bif t then x else y)) else none
   | some x,none=>some ([t=true],x)
   | none,some y=>some ([t=false],y)
   | _,_=>none
  | _=>none
 | .build t parts=>match qdr ρ parts,lk tt t with
  | some ps,some ti=>if q14 ps then match ti.kind,ti.zero with
   | .struct fs,z=>match qdp tt fs ps z with
    | some l=>ok (.agg l)
    | none=>none
   | .array _ et,[.arr n e z]=>match lk tt et,qfv e ps z with
    | some te,some l=>if te.size=e.size then ok (.arr n e l) else none
    | _,_=>none
   | _,_=>none else none
  | _,_=>none
 | .nilCheck x=>match ρ x with
  | some (.ptr id o)=>ok (.ptr id o)
  | some (.elp e id i o)=>ok (.elp e id i o)
  | some (.fn f a c)=>ok (.fn f a c)
  | _=>none
 | .binOp op t x y _=>match ρ x,ρ y with
  | some a,some b=>pbin (lk tt t) op a b
  | _,_=>none
 | .unOp op _ x=>match op,ρ x with
  | .not,some (.bool b)=>ok (.bool (!b))
  | .neg,some (.int k n)=>ok (.int k (k.wrap (0-n)))
  | _,_=>none
 | .convert s d x=>match kOf tt s,kOf tt d,ρ x with
  | some (.int _),some (.int k),some (.int _ n)=>ok (.int k (k.wrap n))
  | _,_,_=>none
 | .makeInterface t x=>match kOf tt t,ρ x with
  | some (.struct _),some s=>if qen s=true then none else ok (.ifc t (qg0 s) (items s))
  | some (.ptr _),some (.ptr id o)=>ok (.ifc t false [.ptr id o])
  | _,_=>none
 | .makeFunc (.func f) a c=>match qbb ρ a,qbb ρ c with
  | some x,some y=>if x.all qbi&&y.all qbi then ok (.fn f x y) else none
  | _,_=>none
 | .fieldAddr s x f=>match ρ x,kOf tt s with
  | some p,some (.struct fs)=>match fs[f]? with
   | some (off,t)=>match lk tt t with
    | some ti=>if ti.size=0 then none else qku off ti.size p
    | none=>none
   | none=>none
  | _,_=>none
 | .field s x f=>match ρ x,kOf tt s with
  | some (.agg l),some (.struct fs)=>match fs[f]? with
   | some (off,t)=>match lk tt t with
    | some ti=>match qi3 l off ti.size with
     | some r=>(mkV ti.agg r).bind ok
     | none=>none
    | none=>none
   | none=>none
  | _,_=>none
 | .indexAddr t x i=>match ρ x,ρ i with
  | some (.win _ e id lo n),some (.int _ i)=>match kOf tt t with
   | some (.slice et)=>match lk tt et with
    | some ti=>if ti.size=e.size then some ([0<=i,i<(n:Int)],.elp e id (lo+i.toNat) 0) else none
    | none=>none
   | _=>none
  | some (.sl e l),some (.int _ i)=>match kOf tt t with
   | some (.slice et)=>match lk tt et with
    | some ti=>if ti.size=e.size then some ([0<=i,i<(l.length:Int)],.elv e (gt e l i.toNat)) else none
    | none=>none
   | _=>none
  | some (.ptr id o),some (.int _ i)=>match kOf tt t with
   | some (.array n et)=>match lk tt et with
    | some ti=>if ti.sh.size=ti.size then some ([0<=i,i<(n:Int)],.aep ti.sh id o i.toNat 0) else if ti.size=1 then some ([0<=i,i<(n:Int)],.aep .bool id o i.toNat 0) else none
    | none=>none
   | _=>none
  | some (.elv (.arr n e) l),some (.int _ i)=>match kOf tt t with
   | some (.array n' et)=>match lk tt et with
    | some ti=>if ti.size=e.size/\n'=n then some ([0<=i,i<(n:Int)],.elv e (gt e l i.toNat)) else none
    | none=>none
   | _=>none
  | some (.elp (.arr n e) id r 0),some (.int _ i)=>match kOf tt t with
   | some (.array n' et)=>match lk tt et with
    | some ti=>if ti.size=e.size/\n'=n then some ([0<=i,i<(n:Int)],.elp (.arr n e) id r (i.toNat * e.size)) else none
    | none=>none
   | _=>none
  | _,_=>none
 | .index t x i=>match ρ x,ρ i with
  | some (.arr n e l),some (.int _ i)=>match kOf tt t with
   | some (.array n' et)=>match lk tt et with
    | some ti=>if ti.size=e.size/\n'=n/\ti.agg=e.isAgg then some ([0<=i,i<(n:Int)],ofD e (gt e l i.toNat)) else none
    | none=>none
   | _=>none
  | some (.str l),some (.int _ i)=>match kOf tt t with
   | some .str=>some ([0<=i,i<(l.length:Int)],.int .u8 (((l[i.toNat]?).getD 0).toNat:Int))
   | _=>none
  | _,_=>none
 | .extract t i=>match ρ t with
  | some (.tup l)=>(l[i]?).bind ok
  | _=>none
 | .call c=>match c.callee with
  | .builtin .len=>match qbb ρ c.args,(c.argTypes[0]?).bind (kOf tt) with
   | some [x],some k=>match plen k x with
    | some n=>ok (.int .i64 n)
    | none=>none
   | _,_=>none
  | .builtin .min=>match qbb ρ c.args with
   | some [.int k a,.int _ b]=>ok (.int k (min a b))
   | _=>none
  | .builtin .max=>match qbb ρ c.args with
   | some [.int k a,.int _ b]=>ok (.int k (max a b))
   | _=>none
  | _=>none
 | _=>none
def bnd (ρ:Operand->Option SV):Option Operand->Option (Option Int)
 | none=>some none
 | some x=>match ρ x with
  | some (.int _ n)=>some (some n)
  | _=>none
def toB (n:Int):UInt8:=UInt8.ofNat n.toNat
def ofB (b:UInt8):Int:=(b.toNat:Int)
def part {α:Type} (l:List α):Option Int->Option Int->List α
 | none,none=>l
 | some a,none=>l.drop a.toNat
 | none,some b=>l.take b.toNat
 | some a,some b=>(l.take b.toNat).drop a.toNat
def qay (n:Nat):Option Int->Option Int->List Prop
 | none,none=>[]
 | some a,none=>[0<=a,a<=(n:Int)]
 | none,some b=>[0<=b,b<=(n:Int)]
 | some a,some b=>[0<=a,a<=b,b<=(n:Int)]
def qa1:Option Int->Nat
 | none=>0
 | some a=>a.toNat
def qa3 (n:Nat):Option Int->Nat
 | none=>n
 | some b=>b.toNat
def winL (e:Sh) (lo n:Nat) (xs:List e.D):List e.D:=(xs.drop lo).take n
def eqK:(κ:Sh)->κ.D->κ.D->Bool
 | .int _,(a:Int),(b:Int)=>decide (a=b)
 | .bool,(a:Bool),(b:Bool)=>decide (a=b)
 | .str,(a:List UInt8),(b:List UInt8)=>decide (a=b)
 | _,_,_=>false
def keyK:Sh->TK->Bool
 | .int k,.int k'=>decide (k=k')
 | .bool,.bool=>true
 | .str,.str=>true
 | _,_=>false
def shK:TK->Option Sh
 | .int k=>some (.int k)
 | .bool=>some .bool
 | .str=>some .str
 | _=>none
def getM {κ σ:Sh}:List (κ.D × σ.D)->κ.D->Option σ.D
 | [],_=>none
 | p::l,k=>match eqK κ k p.1 with
  | true=>some p.2
  | false=>getM l k
def updM {κ σ:Sh}:List (κ.D × σ.D)->κ.D->σ.D->List (κ.D × σ.D)
 | [],k,v=>[(k,v)]
 | p::l,k,v=>match eqK κ k p.1 with
  | true=>(k,v)::l
  | false=>p::updM l k v
def toF (σ:Sh) (s:SV):Option σ.D:=if qg0 s=σ.isAgg/\qen s=false then toD σ s else none
def qub (l:List UInt8) (i:Nat):Nat × Nat:=Utf8.decode ⟨l.toArray⟩ i
def q45 (l:List UInt8) (pos:Nat):Bool->SV
 | true=>.tup [.bool true,.int .i64 (pos:Nat),.int .i32 ((qub l pos).1:Nat)]
 | false=>.tup [.bool false]
def qz0 (l:List UInt8) (pos:Nat):Bool->Nat
 | true=>pos+(qub l pos).2
 | false=>pos
def opnL (e:Sh):List SV->Option (Nat × List SV)
 | .arr _ .unit _::.arr m e' _::s=>match decide (e'=e) with
  | true=>some (m,s)
  | false=>none
 | _=>none
def memT (t:Nat):TT->Bool
 | []=>false
 | (a,_)::l=>match Nat.beq a t with
  | true=>true
  | false=>memT t l
def cntT (t:Nat):TT->Bool
 | []=>false
 | (a,_)::l=>match Nat.beq a t with
  | true=>memT t l
  | false=>cntT t l
def opnT (tt:TT) (t:TypeId):Bool:=cntT t tt
def oneP (n:Nat):List (Nat × SV)->Option (List SV)
 | [(0,.agg l)]=>match Nat.beq n 1 with
  | true=>some l
  | false=>none
 | _=>none
def q3f:List SV->Option (Nat × Sh)
 | .arr n (.int k) _::_=>some (n,.int k)
 | _=>none
def qww (e:Sh) (i:Nat):List SV->Option (Nat × e.D)
 | .arr n e' xs::_=>if h:e'=e then some (n,gt e (h ▸ xs) i) else none
 | _=>none
def pR (tt:TT) (ρ:Operand->Option SV) (blk:List (Nat × LB)) (o:Oper):PC SV:=
 match o.op with
 | .load t p=>match lk tt t,ρ p with
  | some ti,some (.ptr id off)=>match lk blk id with
   | some (.var l)=>match qi3 l off ti.size with
    | some r=>(mkV ti.agg r).bind ok
    | none=>none
   | _=>none
  | some ti,some (.aep e id base i off)=>match lk blk id with
   | some (.var l)=>match cutAt l base with
    | some (_,.arr n e' xs::_)=>if h:e'=e then match qj6 e (gt e (h ▸ xs) i) off ti.size with
      | some ⟨τ,y⟩=>(mkV ti.agg (qdy τ y)).bind λ s=>some ([i<n],s)
      | none=>none else none
    | some (_,.pta n _ j [m]::_)=>if e.size=1/\off=0/\ti.size=1/\ti.agg=false then (mkV false [m]).bind λ s=>some ([i<n,i=j],s) else none
    | _=>none
   | _=>none
  | some ti,some (.elp e id i off)=>match lk blk id with
   | some (.row _ e' xs)=>if h:e'=e then match qj6 e (gt e (h ▸ xs) i) off ti.size with
     | some ⟨τ,y⟩=>(mkV ti.agg (qdy τ y)).bind λ s=>some ([i<xs.length],s)
     | none=>none else none
   | some (.var l)=>match opnL e l with
    | some (m,s)=>match qi3 s off ti.size with
     | some r=>(mkV ti.agg r).bind λ s=>some ([i=m],s)
     | none=>none
    | none=>match qww e i l with
     | some (n,y)=>if e.size=1/\off=0/\ti.size=1/\ti.agg=false then (mkV false (qdy e y)).bind λ s=>some ([i<n],s) else none
     | none=>none
   | _=>none
  | some ti,some (.elv σ x)=>match qj6 σ x 0 ti.size with
   | some ⟨τ,y⟩=>(mkV ti.agg (qdy τ y)).bind ok
   | none=>none
  | _,_=>none
 | .slice t x lo hi none=>match ρ x,bnd ρ lo,bnd ρ hi,kOf tt t with
  | some (.win _ e id w n),some a,some b,some (.slice et)=>match lk blk id,lk tt et with
   | some (.row _ e' xs),some ti=>if e'=e/\ti.size=e.size then some (qay n a b++[w+n<=xs.length],.win false e id (w+qa1 a) (qa3 n b-qa1 a)) else none
   | _,_=>none
  | some (.sl e l),some a,some b,some (.slice et)=>match lk tt et with
   | some ti=>if ti.size=e.size then some (qay l.length a b,.sl e (part l a b)) else none
   | _=>none
  | some (.str l),some a,some b,some .str=>some (qay l.length a b,.str (part l a b))
  | some (.ptr id 0),some none,some (some b),some (.array n et)=>match lk blk id,lk tt et with
   | some (.var l),some ti=>match q3f l with
    | some (n',e)=>if n'=n/\ti.size=1/\e.size=1/\n<=1048576 then some ([0<=b,b<=(n:Int)],.win false e id 0 b.toNat) else none
    | none=>none
   | _,_=>none
  | _,_,_,_=>none
 | .slice t x (some lo) (some hi) (some mx)=>match ρ x,ρ lo,ρ hi,ρ mx,kOf tt t with
  | some (.sl e l),some (.int _ a),some (.int _ b),some (.int _ c),some (.slice et)=>match lk tt et with
   | some ti=>if ti.size=e.size then some ([0<=a,a<b,b<=c,c<=(l.length:Int),c<1099511627776],.sl e (part l (some a) (some b))) else none
   | _=>none
  | _,_,_,_,_=>none
 | .convert s d x=>match kOf tt s,kOf tt d with
  | some (.slice et),some .str=>match kOf tt et,ρ x with
   | some (.int .u8),some (.win _ (.int .u8) id lo n)=>match lk blk id with
    | some (.row _ (.int .u8) xs)=>some ([lo+n<=xs.length],.str ((winL (.int .u8) lo n xs).map toB))
    | _=>none
   | some (.int .u8),some (.sl (.int .u8) l)=>ok (.str (l.map toB))
   | some (.int .u8),some .nils=>ok (.str [])
   | _,_=>none
  | some (.slice _),some (.slice et)=>match kOf tt et,ρ x with
   | some (.int .u8),some (.win true (.int .u8) id 0 n)=>match lk blk id with
    | some (.row _ (.int .u8) xs)=>if s=d then some ([0<n,n=xs.length],.win true (.int .u8) id 0 n) else none
    | _=>none
   | _,_=>none
  | _,_=>none
 | .lookup t x k com=>match kOf tt t,ρ k with
  | some (.map kt et),some ks=>match kOf tt kt,lk tt et with
   | some kk,some ei=>match ρ x with
    | some (.mp id)=>match lk blk id with
     | some (.mp κ σ l)=>if keyK κ kk=true/\ei.sh=σ/\ei.agg=σ.isAgg/\σ.size=ei.size then match toF κ ks with
       | some y=>ok (match com with
        | true=>.tup [ofD σ ((getM l y).getD σ.dflt),.bool (getM l y).isSome]
        | false=>ofD σ ((getM l y).getD σ.dflt))
       | none=>none
      else none
     | _=>none
    | some .nilm=>if ei.agg=ei.sh.isAgg/\ei.sh.size=ei.size then match shK kk with
      | some κ=>match toF κ ks with
       | some _=>ok (match com with
        | true=>.tup [ofD ei.sh ei.sh.dflt,.bool false]
        | false=>ofD ei.sh ei.sh.dflt)
       | none=>none
      | none=>none
     else none
    | _=>none
   | _,_=>none
  | _,_=>none
 | _=>none
def pF (tt:TT) (ρ:Operand->Option SV) (d:Nat) (o:Oper):PC (SV × LB):=
 match o.op with
 | .alloc t=>match lk tt t with
  | some ti=>ok (.ptr d 0,.var ti.zero)
  | none=>none
 | .box _ x=>match ρ x with
  | some (.tup _)=>none
  | some s=>ok (.ptr d 0,.var (items s))
  | none=>none
 | .buildSlice t n parts=>match qdr ρ parts,kOf tt t with
  | some ps,some (.slice et)=>match lk tt et with
   | some ti=>match opnT tt et with
    | true=>match oneP n ps with
     | some l=>if ti.agg=true/\SV.size.sizeL l=ti.size/\ti.sh.size=ti.size/\0<ti.size/\ti.size<=2 ^ 24 then ok (.win true ti.sh d 0 1,.var l) else none
     | none=>none
    | false=>if ti.sh.size=ti.size/\0<ti.size/\n*ti.size<=2 ^ 24/\q14 ps=true then match qfv ti.sh ps (List.replicate n ti.sh.dflt) with
     | some xs=>ok (.win true ti.sh d 0 n,.row et ti.sh xs)
     | none=>none else none
   | none=>none
  | _,_=>none
 | .makeSlice t l c=>match ρ l,ρ c,kOf tt t with
  | some (.int _ l),some (.int _ c),some (.slice et)=>match lk tt et with
   | some ti=>if ti.sh.size=ti.size/\0<ti.size then some ([0<=l,l<=c,c<2 ^ 24,(ti.bytes:Int)*c<=2 ^ 48],(.win true ti.sh d 0 l.toNat,.row et ti.sh (List.replicate l.toNat ti.sh.dflt))) else none
   | none=>none
  | _,_,_=>none
 | .convert s t x=>match kOf tt s,kOf tt t,ρ x with
  | some .str,some (.slice et),some (.str l)=>match kOf tt et with
   | some (.int .u8)=>some ([l.length<2 ^ 40],(.win true (.int .u8) d 0 l.length,.row et (.int .u8) (l.map ofB)))
   | _=>none
  | _,_,_=>none
 | .range t x=>match kOf tt t,ρ x with
  | some .str,some (.str l)=>ok (.ptr d 0,.iter l 0)
  | _,_=>none
 | .makeMap t none=>match kOf tt t with
  | some (.map kt et)=>match lk tt kt,lk tt et with
   | some ki,some ei=>if ki.sh.plain=true/\ei.sh.plain=true then ok (.mp d,.mp ki.sh ei.sh []) else none
   | _,_=>none
  | _=>none
 | _=>none
def newL (blk:List (Nat × LB)) (e:Sh):SV->PC (List e.D)
 | .nils=>ok []
 | .sl e' l=>if h:e'=e then ok (h ▸ l) else none
 | .str l=>match e with
  | .int .u8=>ok (l.map ofB)
  | _=>none
 | .win _ e' id lo n=>match lk blk id with
  | some (.row _ e2 xs)=>if h:e2=e then if e'=e then some ([lo+n<=(h ▸ xs:List e.D).length],winL e lo n (h ▸ xs)) else none else none
  | _=>none
 | _=>none
def setRow {α:Type} (xs:List α) (lo:Nat) (ys:List α):List α:=xs.take lo++ys++xs.drop (lo+ys.length)
def isPS:SV->Bool
 | .ptr _ _=>true
 | .nilp=>true
 | _=>false
inductive Ac where
 | turn (id:Nat) (lb:LB)
 | fresh (gone:Option Nat) (lb:LB)
def pW (tt:TT) (ρ:Operand->Option SV) (blk:List (Nat × LB)) (d:Option Nat) (o:Oper):PC (Option SV × Ac):=
 match o.op with
 | .store t p x=>match lk tt t,ρ p,ρ x with
  | some ti,some (.ptr id off),some s=>match lk blk id,s with
   | _,.tup _=>none
   | some (.var l),s=>if SV.size.sizeL (items s)=ti.size then match qj8 l off ti.size (items s) with
    | some l'=>ok (none,.turn id (.var l'))
    | none=>none else none
   | _,_=>none
  | some ti,some (.aep e id base i off),some s=>match lk blk id with
   | some (.var l)=>match cutAt l base with
    | some (_,.arr n e' xs::_)=>if h:e'=e then if qen s=true\/SV.size.sizeL (items s)≠ti.size then none else match setAt e (gt e (h ▸ xs) i) off ti.size s with
      | some y=>match qj8 l base (n*e.size) [.arr n e ((h ▸ xs:List e.D).set i y)] with
       | some l'=>some ([i<n],(none,.turn id (.var l')))
       | none=>none
      | none=>none else none
    | some (_,.pta n q j [_]::_)=>if e.size=1/\off=0/\ti.size=1/\isPS s=true then match qj8 l base n [.pta n q j [s]] with
      | some l'=>some ([i<n,i=j],(none,.turn id (.var l')))
      | none=>none else none
    | _=>none
   | _=>none
  | some ti,some (.elp e id i off),some s=>match lk blk id with
   | some (.row et e' xs)=>if h:e'=e then if qen s=true\/SV.size.sizeL (items s)≠ti.size then none else match setAt e (gt e (h ▸ xs) i) off ti.size s with
     | some y=>some ([i<xs.length],(none,.turn id (.row et e ((h ▸ xs:List e.D).set i y))))
     | none=>none else none
   | _=>none
  | _,_,_=>none
 | .call c=>match c.callee,d with
  | .builtin .append,some d=>match qbb ρ c.args,(c.argTypes[0]?).bind (lk tt),c.argTypes[1]?.bind (lk tt) with
   | some [s,x],some t0,some t1=>match t0.kind with
    | .slice et=>if t1.kind.seq then match lk tt et with
     | some ti=>match newL blk ti.sh x with
      | some (cs0,ys)=>if ti.sh.size=ti.size/\0<ti.size then match s with
       | .nils=>some (cs0++[ys.length<2 ^ 30,ti.bytes<=2 ^ 10],(some (.win true ti.sh d 0 ys.length),.fresh none (.row et ti.sh ys)))
       | .win r e id lo n=>match lk blk id with
        | some (.row et' e' xs)=>if h:e'=ti.sh then if e=ti.sh/\et'=et then
          some (cs0++(if r then [n=xs.length] else [0<n,n<=xs.length])++[lo=0,n+ys.length<2 ^ 30,ti.bytes<=2 ^ 10],
           (some (.win true ti.sh d 0 (n+ys.length)),Ac.fresh (some id) (.row et ti.sh (if r then (h ▸ xs:List ti.sh.D)++ys else (h ▸ xs:List ti.sh.D).take n++ys)))) else none else none
        | _=>none
       | _=>none else none
      | none=>none
     | none=>none else none
    | _=>none
   | _,_,_=>none
  | .builtin .copy,_=>match qbb ρ c.args,(c.argTypes[0]?).bind (lk tt) with
   | some [.win _ e id lo n,x],some t0=>match t0.kind with
    | .slice et=>match lk tt et with
     | some ti=>match newL blk e x,lk blk id with
      | some (cs0,ys),some (.row et' e' xs)=>if h:e'=e then if ti.size=e.size then
        some (cs0++[lo+n<=xs.length],(some (.int .i64 (min ys.length n:Nat)),Ac.turn id (.row et' e (setRow (h ▸ xs) lo (ys.take n))))) else none else none
      | _,_=>none
     | none=>none
    | _=>none
   | _,_=>none
  | .builtin .clear,_=>match qbb ρ c.args,(c.argTypes[0]?).bind (lk tt) with
   | some [.win _ e id lo n],some t0=>match t0.kind with
    | .slice et=>match lk tt et with
     | some ti=>match lk blk id with
      | some (.row et' e' xs)=>if h:e'=e then if ti.sh=e/\e.size=ti.size then
        some ([lo+n<=xs.length],(some (.tup []),Ac.turn id (.row et' e (setRow (h ▸ xs) lo (List.replicate n e.dflt))))) else none else none
      | _=>none
     | none=>none
    | _=>none
   | _,_=>none
  | _,_=>none
 | .mapUpdate t m k x | .insert t m k x=>match ρ m,ρ k,ρ x,kOf tt t with
  | some (.mp id),some ks,some xs,some (.map kt _)=>match lk blk id,kOf tt kt with
   | some (.mp κ σ l),some kk=>if keyK κ kk=true then match toF κ ks,toF σ xs with
     | some y,some z=>ok (none,.turn id (.mp κ σ (updM l y z)))
     | _,_=>none
    else none
   | _,_=>none
  | _,_,_,_=>none
 | .next it true=>match ρ it with
  | some (.ptr id 0)=>match lk blk id with
   | some (.iter l pos)=>ok (some (q45 l pos (decide (pos<l.length))),.turn id (.iter l (qz0 l pos (decide (pos<l.length)))))
   | _=>none
  | _=>none
 | _=>none
section
variable {Z:Nat->Option ABlk} {ν:Nu}
mutual
theorem CR.len:∀ (s:SV) (vs:List Value),CR Z ν s vs->vs.length=s.size
 | .nils,_,h=>by simp only[CR] at h;subst h;rfl
 | .dead,_,h=>by simp only[CR] at h;obtain ⟨v,rfl,_⟩:=h;rfl
 | .int _ _,_,h=>by simp only[CR] at h;subst h;rfl
 | .bool _,_,h=>by simp only[CR] at h;subst h;rfl
 | .str _,_,h=>by simp only[CR] at h;subst h;rfl
 | .sl e l,vs,h=>RV.len (.sl e) l vs h
 | .arr n e l,vs,h=>RV.len (.arr n e) l vs h
 | .win _ _ _ _ _,_,h=>by simp only[CR] at h;obtain ⟨v,rfl,_⟩:=h;rfl
 | .ptr _ _,_,h=>by simp only[CR] at h;obtain ⟨ni,_,rfl⟩:=h;rfl
 | .elp _ _ _ _,_,h=>by simp only[CR] at h;obtain ⟨ni,_,rfl⟩:=h;rfl
 | .aep _ _ _ _ _,_,h=>by simp only[CR] at h;obtain ⟨ni,_,rfl⟩:=h;rfl
 | .elv _ _,_,h=>by simp only[CR] at h;obtain ⟨_,_,_,_,_,rfl,_⟩:=h;rfl
 | .agg l,vs,h=>by simp only[CR] at h;simp only[SV.size];exact CRL.len l vs h
 | .tup _,_,h=>by simp only[CR] at h
 | .fn _ _ _,_,h=>by simp only[CR] at h;obtain ⟨_,_,rfl,_⟩:=h;rfl
 | .yl _,_,h=>by simp only[CR] at h;subst h;rfl
 | .mp _,_,h=>by simp only[CR] at h;obtain ⟨ni,_,rfl⟩:=h;rfl
 | .nilm,_,h=>by simp only[CR] at h;subst h;rfl
 | .nilp,_,h=>by simp only[CR] at h;subst h;rfl
 | .ifc _ _ _,_,h=>by simp only[CR] at h;obtain ⟨_,_,_,rfl,_⟩:=h;rfl
 | .pta n l j m,_,h=>by simp only[CR] at h;obtain ⟨_,_,_,_,_,_,h1,rfl⟩:=h;simp only[SV.size,List.length_set];exact h1
theorem CRL.len:∀ (l:List SV) (vs:List Value),CRL Z ν l vs->vs.length=SV.size.sizeL l
 | [],_,h=>by simp only[CRL] at h;subst h;rfl
 | s::l,_,h=>by
  simp only[CRL] at h;obtain ⟨u,w,rfl,h1,h2⟩:=h;simp only[SV.size.sizeL,List.length_append,CR.len s u h1,CRL.len l w h2]
end
theorem CRL.app:∀ {l m:List SV} {vs ws:List Value},CRL Z ν l vs->CRL Z ν m ws->CRL Z ν (l++m) (vs++ws)
 | [],_,_,_,h,k=>by simp only[CRL] at h;subst h;exact k
 | s::l,m,_,ws,h,k=>by
  simp only[CRL,List.cons_append] at h |-;obtain ⟨u,w,rfl,h1,h2⟩:=h;exact ⟨u,w++ws,by simp,h1,CRL.app h2 k⟩
theorem CRL.single {s:SV} {vs:List Value} (h:CR Z ν s vs):CRL Z ν [s] vs:=by
 simp only[CRL];exact ⟨vs,[],by simp,h,rfl⟩
theorem CRL.single_inv {s:SV} {vs:List Value} (h:CRL Z ν [s] vs):CR Z ν s vs:=by
 simp only[CRL] at h;obtain ⟨u,w,rfl,h1,rfl⟩:=h;simpa using h1
theorem qbh:∀ (l:List SV) (n:Nat) {a r:List SV} {vs:List Value},CRL Z ν l vs->cutAt l n=some (a,r)->∃ u w,vs=u++w/\u.length=n/\CRL Z ν a u/\CRL Z ν r w
 | l,0,a,r,vs,h,e=>by
  rw[cutAt] at e;cases e;exact ⟨[],vs,rfl,rfl,by simp only[CRL],h⟩
 | [],n+1,_,_,_,_,e=>by rw[cutAt] at e;cases e
 | s::l,n+1,a,r,vs,h,e=>by
  rw[cutAt] at e;split at e
  next hc=>simp only[CRL] at h;obtain ⟨u,w,rfl,h1,h2⟩:=h;rw[Option.map_eq_some_iff] at e;obtain ⟨⟨a',r'⟩,e1,e2⟩:=e;cases e2;obtain ⟨u',w',rfl,hl,h3,h4⟩:=qbh l _ h2 e1;have:=CR.len s u h1;refine ⟨u++u',w',by simp,by rw[List.length_append,hl,this];omega,?_,h4⟩;simp only[CRL];exact ⟨u,u',rfl,h1,h3⟩
  ·cases e
theorem qfn {l x:List SV} {off n:Nat} {vs:List Value} (h:CRL Z ν l vs) (e:qi3 l off n=some x):CRL Z ν x ((vs.drop off).take n)/\off+n<=vs.length:=by
 unfold qi3 at e;split at e
 next a r h1=>
  obtain ⟨u,w,rfl,hl,_,hw⟩:=qbh _ _ h h1;split at e
  next x' c h2=>cases e;obtain ⟨u2,w2,rfl,hl2,hu2,_⟩:=qbh _ _ hw h2;rw[<- hl,List.drop_left,<- hl2,List.take_left];exact ⟨hu2,by simp only[List.length_append];omega⟩
  ·cases e
 ·cases e
theorem qcr {l l' new:List SV} {off n:Nat} {vs nv:List Value} (h:CRL Z ν l vs) (hn:CRL Z ν new nv) (e:qg8 l off n new=some l'):CRL Z ν l' (vs.take off++nv++vs.drop (off+n))/\off+n<=vs.length:=by
 unfold qg8 at e;split at e
 next a r h1=>
  obtain ⟨u,w,rfl,hl1,hu,hw⟩:=qbh _ _ h h1;split at e
  next x' c h2=>
   cases e;obtain ⟨u2,w2,rfl,hl2,_,hw2⟩:=qbh _ _ hw h2;have e1:(u++(u2++w2)).take off=u:=by rw[<- hl1,List.take_left]
   have e2:(u++(u2++w2)).drop (off+n)=w2:=by rw[<- hl1,<- hl2,<- List.drop_drop,List.drop_left,List.drop_left]
   rw[e1,e2];exact ⟨(hu.app hn).app hw2,by simp only[List.length_append];omega⟩
  ·cases e
 ·cases e
theorem qam:∀ (σ:Sh) (x:σ.D) {vs:List Value},RV Z σ x vs->CRL Z ν (qdy σ x) vs
 | .int _,_,_,h=>by simp only[RV] at h;subst h;exact CRL.single (by simp only[CR])
 | .bool,_,_,h=>by simp only[RV] at h;subst h;exact CRL.single (by simp only[CR])
 | .str,_,_,h=>by simp only[RV] at h;subst h;exact CRL.single (by simp only[CR])
 | .unit,_,_,h=>by simp only[RV] at h;subst h;simp only[qdy,CRL]
 | .pair a b,x,_,h=>by
  simp only[RV] at h;obtain ⟨u,v,rfl,h1,h2⟩:=h;exact (qam a x.1 h1).app (qam b x.2 h2)
 | .arr n e,l,vs,h=>CRL.single (s:=.arr n e l) (by simp only[CR];exact h)
 | .sl e,l,vs,h=>CRL.single (s:=.sl e l) (by simp only[CR];exact h)
theorem qcd {agg:Bool} {l:List SV} {s:SV} {vs:List Value} {v:Value} (e:mkV agg l=some s) (h:CRL Z ν l vs) (hv:if agg then v=.agg vs.toArray else vs=[v]):VS Z ν s v:=by
 unfold mkV at e;split at e
 ·cases e;simp only[if_true] at hv
  exact ⟨vs,hv,h.single_inv⟩
 ·cases e;simp only[if_true] at hv
  exact ⟨vs,hv,h⟩
 ·cases e
 ·cases e
 ·cases e
 next h1 h2 h3=>
  cases e;simp only[Bool.false_eq_true,if_false] at hv;subst hv;have:=h.single_inv
  cases s with
  | agg l=>exact absurd rfl (h2 l)
  | arr n e l=>exact absurd rfl (h1 n e l)
  | tup l=>exact absurd rfl (h3 l)
  | _=>exact this
 ·cases e
theorem V1.one {s:SV} {v:Value} (h:V1 Z ν s v) (hs:∀ l,s≠.agg l) (ha:∀ n e l,s≠.arr n e l):CR Z ν s [v]:=by
 cases s with
 | agg l=>exact absurd rfl (hs l)
 | arr n e l=>exact absurd rfl (ha n e l)
 | _=>exact h
theorem CR.ptas {n:Nat} {l:List Value} {j:Nat} {m:List SV} {vs:List Value} (h:CR Z ν (.pta n l j m) vs):∀ w∈vs,ptV w:=by
 simp only[CR] at h;obtain ⟨us,v,_,_,h3,h4,_,rfl⟩:=h;intro w hw;rcases List.mem_or_eq_of_mem_set hw with hw | rfl
 ·exact h4 w hw
 ·exact h3
theorem CR.ptaAt {n:Nat} {l:List Value} {j:Nat} {m:List SV} {vs:List Value} (h:CR Z ν (.pta n l j m) vs) (hj:j<n):∃ v,CRL Z ν m [v]/\(∀ h:j<vs.length,vs[j]=v)/\vs.length=n:=by
 simp only[CR] at h;obtain ⟨us,v,h1,rfl,h3,h4,h5,rfl⟩:=h;exact ⟨v,h1,λ h=>by simp,by rw[List.length_set];exact h5⟩
theorem CR.ptaSet {n:Nat} {l:List Value} {j:Nat} {m m':List SV} {vs:List Value} {w:Value} (h:CR Z ν (.pta n l j m) vs) (hj:j<n) (hw:CRL Z ν m' [w]) (hp:ptV w):CR Z ν (.pta n l j m') (vs.take j++[w]++vs.drop (j+1)):=by
 simp only[CR] at h |-;obtain ⟨us,v,h1,rfl,h3,h4,h5,rfl⟩:=h;refine ⟨[w],w,hw,rfl,hp,h4,h5,?_⟩;have hl:j<(l.set j v).length:=by rw[List.length_set,h5];exact hj
 have:=List.set_eq_take_append_cons_drop (l:=l.set j v) (i:=j) (a:=w);rw[if_pos hl,List.set_set] at this;rw[this,List.append_assoc];rfl
theorem CR.oneCells {s:SV} {v:Value} (h:CR Z ν s [v]) (hs:∀ l,s≠.agg l) (ha:∀ n e l,s≠.arr n e l):v.cells=#[v]:=by
 cases s with
 | agg l=>exact absurd rfl (hs l)
 | arr n e l=>exact absurd rfl (ha n e l)
 | tup l=>simp only[CR] at h
 | sl e l=>
  simp only[CR,RV] at h;obtain ⟨w,e1,h⟩:=h;cases e1;rcases h with ⟨_,rfl | rfl⟩ | ⟨_,_,_,_,_,_,rfl,_⟩ <;> rfl
 | win r e id lo len=>
  simp only[CR,WinR] at h;obtain ⟨w,e1,h⟩:=h;cases e1;split at h
  ·obtain ⟨_,_,rfl | ⟨_,rfl⟩⟩:=h <;> rfl
  ·rcases h with ⟨_,_,rfl | ⟨_,_,rfl,_⟩⟩ | ⟨_,rfl,_⟩ <;> rfl
 | nils=>simp only[CR] at h;cases h;rfl
 | dead=>simp only[CR] at h;obtain ⟨w,e1,h,_⟩:=h;cases e1;exact h
 | int k n=>simp only[CR] at h;cases h;rfl
 | bool b=>simp only[CR] at h;cases h;rfl
 | str l=>simp only[CR] at h;cases h;rfl
 | ptr id off=>simp only[CR] at h;obtain ⟨_,_,h⟩:=h;cases h;rfl
 | elp e id i off=>simp only[CR] at h;obtain ⟨_,_,h⟩:=h;cases h;rfl
 | aep e id b i off=>simp only[CR] at h;obtain ⟨_,_,h⟩:=h;cases h;rfl
 | elv σ x=>simp only[CR] at h;obtain ⟨_,_,_,_,_,h,_⟩:=h;cases h;rfl
 | fn f a c=>simp only[CR] at h;obtain ⟨_,_,h,_⟩:=h;cases h;rfl
 | yl l=>simp only[CR] at h;cases h;rfl
 | mp id=>simp only[CR] at h;obtain ⟨_,_,h⟩:=h;cases h;rfl
 | nilm=>simp only[CR] at h;cases h;rfl
 | nilp=>simp only[CR] at h;cases h;rfl
 | ifc t g l=>simp only[CR] at h;obtain ⟨_,_,_,h,_⟩:=h;cases h;rfl
 | pta n l j m=>obtain ⟨x,rfl⟩:=h.ptas v (by simp);rfl
theorem V1.items {s:SV} {v:Value} (h:V1 Z ν s v):CRL Z ν (items s) v.cells.toList:=by
 cases s with
 | agg l=>obtain ⟨vs,rfl,h⟩:=h;simpa [Value.cells,Px.items] using h
 | arr n e l=>
  obtain ⟨vs,rfl,h⟩:=h;simp only[Value.cells,Px.items];exact CRL.single (s:=.arr n e l) (by simp only[CR];exact h)
 | _=>
  have h1:=V1.one h (by intros;simp) (by intros;simp);rw[h1.oneCells (by intros;simp) (by intros;simp)];exact CRL.single h1
theorem VS.v1 {s:SV} {v:Value} (h:VS Z ν s v) (hs:∀ l,s≠.tup l):V1 Z ν s v:=by
 cases s with
 | tup l=>exact absurd rfl (hs l)
 | _=>exact h
theorem qbl:∀ (σ:Sh) {l r:List SV} {x:σ.D} {vs:List Value},toDL σ l=some (x,r)->CRL Z ν l vs->∃ u w,vs=u++w/\RV Z σ x u/\CRL Z ν r w
 | .unit,l,r,x,vs,e,h=>by
  simp only[toDL,Option.some.injEq,Prod.mk.injEq] at e;obtain ⟨_,rfl⟩:=e;exact ⟨[],vs,rfl,by simp only[RV],h⟩
 | .pair a b,l,r,x,vs,e,h=>by
  simp only[toDL] at e;split at e
  next x1 l1 e1=>
   split at e
   next y l2 e2=>cases e;obtain ⟨u,w,rfl,h1,h2⟩:=qbl a e1 h;obtain ⟨u2,w2,rfl,h3,h4⟩:=qbl b e2 h2;exact ⟨u++u2,w2,by simp,by simp only[RV];exact ⟨u,u2,rfl,h1,h3⟩,h4⟩
   ·cases e
  ·cases e
 | .int k,l,r,x,vs,e,h=>by
  simp only[toDL] at e;unfold toI at e;split at e
  ·split at e
   next hk=>cases e;subst hk;simp only[CRL,CR] at h;obtain ⟨u,w,rfl,rfl,h2⟩:=h;exact ⟨_,w,rfl,by simp only[RV],h2⟩
   ·cases e
  ·cases e
 | .bool,l,r,x,vs,e,h=>by
  simp only[toDL] at e;unfold toBo at e;split at e
  ·cases e;simp only[CRL,CR] at h
   obtain ⟨u,w,rfl,rfl,h2⟩:=h;exact ⟨_,w,rfl,by simp only[RV],h2⟩
  ·cases e
 | .str,l,r,x,vs,e,h=>by
  simp only[toDL] at e;unfold toSt at e;split at e
  ·cases e;simp only[CRL,CR] at h
   obtain ⟨u,w,rfl,rfl,h2⟩:=h;exact ⟨_,w,rfl,by simp only[RV],h2⟩
  ·cases e
 | .sl s,l,r,x,vs,e,h=>by
  simp only[toDL] at e;unfold toSl at e;split at e
  ·split at e
   next he=>subst he;cases e;simp only[CRL] at h;obtain ⟨u,w,rfl,h1,h2⟩:=h;simp only[CR] at h1;exact ⟨_,w,rfl,h1,h2⟩
   ·cases e
  ·cases e;simp only[CRL,CR] at h
   obtain ⟨u,w,rfl,rfl,h2⟩:=h;exact ⟨_,w,rfl,by simp only[RV];exact ⟨_,rfl,.inl ⟨rfl,.inl rfl⟩⟩,h2⟩
  ·cases e
 | .arr n s,l,r,x,vs,e,h=>by
  simp only[toDL] at e;unfold toAr at e;split at e
  ·split at e
   next he=>
    subst he;split at e
    next hn=>subst hn;cases e;simp only[CRL] at h;obtain ⟨u,w,rfl,h1,h2⟩:=h;simp only[CR] at h1;exact ⟨_,w,rfl,h1,h2⟩
    ·cases e
   ·cases e
  ·cases e
theorem qg4 {σ:Sh} {s:SV} {x:σ.D} {vs:List Value} (e:toD σ s=some x) (h:CRL Z ν (items s) vs):RV Z σ x vs:=by
 unfold toD at e;split at e
 next x' e1=>cases e;obtain ⟨u,w,rfl,h1,h2⟩:=qbl σ e1 h;simp only[CRL] at h2;subst h2;simpa using h1
 ·cases e
theorem qmd {vs u w:List Value} {off n a:Nat} (e:vs=u++w) (ha:u.length=a) (h:off+n<=a):(vs.drop off).take n=(u.drop off).take n:=by
 subst e;rw[List.drop_append_of_le_length (by omega),List.take_append_of_le_length (by rw[List.length_drop];omega)]
theorem qxc {vs u w:List Value} {off n a:Nat} (e:vs=u++w) (ha:u.length=a) (h:a<=off):(vs.drop off).take n=(w.drop (off-a)).take n:=by
 subst e;rw[List.drop_append,List.drop_of_length_le (by omega),ha,List.nil_append]
theorem qj5:∀ (σ:Sh) (x:σ.D) {off n:Nat} {r:(τ:Sh) × τ.D} {vs:List Value},RV Z σ x vs->qj6 σ x off n=some r->r.1.size=n/\off+n<=vs.length/\RV Z r.1 r.2 ((vs.drop off).take n):=by
 have base:∀ (σ:Sh) (x:σ.D) {off n:Nat} {r:(τ:Sh) × τ.D} {vs:List Value},RV Z σ x vs->(if off=0/\n=σ.size then some ⟨σ,x⟩ else none)=some r->r.1.size=n/\off+n<=vs.length/\RV Z r.1 r.2 ((vs.drop off).take n):=by
  intro σ x off n r vs h e;split at e
  next hc=>obtain ⟨rfl,rfl⟩:=hc;cases e;have:=RV.len σ x vs h;refine ⟨rfl,by omega,?_⟩;rw[List.drop_zero,List.take_of_length_le (by omega)];exact h
  ·cases e
 intro σ
 induction σ with
 | pair a b iha ihb=>
  intro x off n r vs h e;rw[qj6] at e;by_cases hc:off=0/\n=(Sh.pair a b).size
  ·exact base (.pair a b) x h (by rw[if_pos hc] at e |-;exact e)
  ·rw[if_neg hc] at e;simp only[RV] at h;obtain ⟨u,w,rfl,h1,h2⟩:=h;have hu:=RV.len a x.1 u h1;have hw:=RV.len b x.2 w h2;split at e
   next hle=>obtain ⟨q1,q2,q3⟩:=iha x.1 h1 e;rw[qmd rfl hu hle];exact ⟨q1,by rw[List.length_append];omega,q3⟩
   ·split at e
    next hle=>obtain ⟨q1,q2,q3⟩:=ihb x.2 h2 e;rw[qxc rfl hu hle];exact ⟨q1,by rw[List.length_append];omega,q3⟩
    ·cases e
 | arr m a _=>
  intro x off n r vs h e;rw[qj6] at e;by_cases hc:off=0/\n=(Sh.arr m a).size
  ·exact base (.arr m a) x h (by rw[if_pos hc] at e |-;exact e)
  ·rw[if_neg hc] at e;split at e
   next hle=>
    obtain ⟨c1,c2,c3⟩:=hle;cases e;simp only[RV] at h;obtain ⟨h1,h2⟩:=h;have hlen:=RVL.len (λ x u k=>RV.len a x u k) h2;have ho:off<List.length x:=by omega
    have hx:(x:List a.D)[off]?=some x[off]:=List.getElem?_eq_getElem ho;have g:=RVL.get (λ x u k=>RV.len a x u k) h2 hx;rw[c2,Nat.mul_one] at g hlen;refine ⟨by rw[c1],by omega,?_⟩;simp only[hx,Option.getD_some];rw[show n=1 by omega];exact g
   ·cases e
 | _=>intro x off n r vs h e;exact base _ x h (by simpa only[qj6] using e)
theorem qqx {vs u w nv:List Value} {off n a:Nat} (e:vs=u++w) (ha:u.length=a) (h:off+n<=a):vs.take off++nv++vs.drop (off+n)=(u.take off++nv++u.drop (off+n))++w:=by
 subst e;rw[List.take_append_of_le_length (by omega),List.drop_append_of_le_length (by omega)];simp only[List.append_assoc]
theorem qqz {vs u w nv:List Value} {off n a:Nat} (e:vs=u++w) (ha:u.length=a) (h:a<=off):vs.take off++nv++vs.drop (off+n)=u++(w.take (off-a)++nv++w.drop (off-a+n)):=by
 subst e;rw[List.take_append,List.take_of_length_le (by omega),List.drop_append,List.drop_of_length_le (by omega),ha,List.nil_append,show off+n-a=off-a+n by omega];simp only[List.append_assoc]
theorem qq0 {α:Type} {R:α->List Value->Prop} (hR:∀ x u,R x u->u.length=1):∀ {l:List α} {vs nv:List Value} {y:α} {i:Nat},RVL R l vs->R y nv->nv.length=1->i<l.length->RVL R (l.set i y) (vs.take i++nv++vs.drop (i+1))/\True
 | [],_,_,_,_,_,_,_,hi=>by simp at hi
 | x::l,_,nv,y,0,⟨u,v,e,a,b⟩,hy,hn,_=>by
  subst e;have:=hR _ _ a;refine ⟨⟨nv,v,?_,hy,b⟩,trivial⟩;rw[List.take_zero,List.nil_append,List.drop_append,List.drop_of_length_le (by omega),this];simp
 | x::l,_,nv,y,i+1,⟨u,v,e,a,b⟩,hy,hn,hi=>by
  subst e;have:=hR _ _ a;have ih:=(qq0 hR b hy hn (show i<l.length by simpa using hi)).1;refine ⟨⟨u,_,?_,a,ih⟩,trivial⟩;rw[List.take_append,List.take_of_length_le (by omega),List.drop_append,List.drop_of_length_le (by omega),this,List.nil_append];rw[show i+1-1=i by omega,show i+1+1-1=i+1 by omega];simp only[List.append_assoc]
theorem qpe:∀ (σ:Sh) (x:σ.D) {off n:Nat} {s:SV} {y:σ.D} {vs nv:List Value},RV Z σ x vs->CRL Z ν (items s) nv->nv.length=n->setAt σ x off n s=some y->RV Z σ y (vs.take off++nv++vs.drop (off+n))/\off+n<=vs.length:=by
 have base:∀ (σ:Sh) (x:σ.D) {off n:Nat} {s:SV} {y:σ.D} {vs nv:List Value},RV Z σ x vs->CRL Z ν (items s) nv->nv.length=n->(if off=0/\n=σ.size then toD σ s else none)=some y->RV Z σ y (vs.take off++nv++vs.drop (off+n))/\off+n<=vs.length:=by
  intro σ x off n s y vs nv h hn hl e;split at e
  next hc=>obtain ⟨rfl,rfl⟩:=hc;have:=RV.len σ x vs h;rw[List.take_zero,List.nil_append,List.drop_of_length_le (by omega),List.append_nil];exact ⟨qg4 e hn,by omega⟩
  ·cases e
 intro σ
 induction σ with
 | pair a b iha ihb=>
  intro x off n s y vs nv h hn hl e;rw[setAt] at e;by_cases hc:off=0/\n=(Sh.pair a b).size
  ·exact base (.pair a b) x h hn hl (by rw[if_pos hc] at e |-;exact e)
  ·rw[if_neg hc] at e;simp only[RV] at h;obtain ⟨u,w,rfl,h1,h2⟩:=h;have hu:=RV.len a x.1 u h1;have hw:=RV.len b x.2 w h2;split at e
   next hle=>rw[Option.map_eq_some_iff] at e;obtain ⟨y1,e,rfl⟩:=e;obtain ⟨q1,q2⟩:=iha x.1 h1 hn hl e;rw[qqx rfl hu hle];exact ⟨by simp only[RV];exact ⟨_,w,rfl,q1,h2⟩,by rw[List.length_append];omega⟩
   ·split at e
    next hle=>rw[Option.map_eq_some_iff] at e;obtain ⟨y1,e,rfl⟩:=e;obtain ⟨q1,q2⟩:=ihb x.2 h2 hn hl e;rw[qqz rfl hu hle];exact ⟨by simp only[RV];exact ⟨u,_,rfl,h1,q1⟩,by rw[List.length_append];omega⟩
    ·cases e
 | arr m a _=>
  intro x off n s y vs nv h hn hl e;rw[setAt] at e;by_cases hc:off=0/\n=(Sh.arr m a).size
  ·exact base (.arr m a) x h hn hl (by rw[if_pos hc] at e |-;exact e)
  ·rw[if_neg hc] at e;split at e
   next hle=>obtain ⟨c1,c2,c3⟩:=hle;rw[Option.map_eq_some_iff] at e;obtain ⟨y1,e,rfl⟩:=e;simp only[RV] at h;obtain ⟨h1,h2⟩:=h;have h3:=qg4 e hn;have hlen:=RVL.len (λ x u k=>RV.len a x u k) h2;rw[c2,Nat.mul_one] at hlen;obtain ⟨q1,q2⟩:=qq0 (λ x u k=>(RV.len a x u k).trans c2) h2 h3 (by rw[hl,c1,c2]) (show off<x.length by omega);refine ⟨?_,by omega⟩;simp only[RV];exact ⟨by rw[List.length_set];exact h1,by rw[show n=1 by omega];exact q1⟩
   ·cases e
 | _=>intro x off n s y vs nv h hn hl e;exact base _ x h hn hl (by simpa only[setAt] using e)
end
def KOK (P:Program) (t:TypeId):TK->Prop
 | .int k=>qaa P (underlying t)=some (.int k)
 | .bool=>qaa P (underlying t)=some .bool
 | .str=>qaa P (underlying t)=some .string
 | .slice e=>qaa P (underlying t)=some (.slice e)
 | .array n e=>qaa P (underlying t)=some (.array n e)
 | .struct fs=>∃ fields places,qaa P (underlying t)=some (.struct fields)/\fields.toList.map (λ f=>(f.offset,f.type))=fs /\
   qaa P (fields.mapM λ f=>do pure (f.offset,<- sizeOf f.type))=some places/\allS (fs.map λ f=>(qaa P (sizeOf f.2)).map λ n=>(f.1,n))=some places.toList
 | .map k e=>qaa P (underlying t)=some (.map k e)
 | .ptr e=>qaa P (underlying t)=some (.pointer e)
 | .other=>True
structure TOK (P:Program) (t:TypeId) (i:TI):Prop where
 size:qaa P (sizeOf t)=some i.size
 agg:qaa P (isAgg t)=some i.agg
 kind:KOK P t i.kind
 one:i.agg=false->i.size=1
 bytes:∃ inf,qaa P (typeInfo t)=some inf/\inf.bytes=i.bytes/\inf.size=i.size
 zero:∃ z,qaa P (zeroValue t)=some z/\Ax.flat z=true/\(∀ Z ν,CRL Z ν i.zero z.cells.toList)/\z.cells.size=i.size/\(i.sh.size=i.size->∀ Z,RV Z i.sh i.sh.dflt z.cells.toList)
 zf:∀ z,qaa P (zeroValue t)=some z->if i.agg then z=.agg z.cells else z.cells=#[z]
 zm:∀ id,qaf id i.zero=false
 meq:qpx i=true->P.eqGuardType P.depth t=false/\∀ X Y:List Cl,X.map Cl.k=qpw i.sh->Y.map Cl.k=qpw i.sh->qaa P (Op.equal t (clV X) (clV Y))=some (decide (X=Y))
 ieq:qpx i=false->∀ k,i.ieq=some k->P.eqGuardType P.depth t=false/\∀ X Y:List Int,X.length=i.size->Y.length=i.size->qaa P (Op.equal t (qfl k X) (qfl k Y))=some (decide (X=Y))
def TTOK (P:Program) (tt:TT):Prop:=∀ t i,lk tt t=some i->TOK P t i
section
variable {P:Program} {tt:TT} {Z:Nat->Option ABlk} {ν:Nu}
theorem qye {t:TypeId} {k:TK} (h:kOf tt t=some k):∃ i,lk tt t=some i/\i.kind=k:=by
 unfold kOf at h;split at h
 next i hi=>cases h;exact ⟨i,hi,rfl⟩
 ·cases h
theorem TTOK.kind (ht:TTOK P tt) {t:TypeId} {k:TK} (h:kOf tt t=some k):KOK P t k:=by
 obtain ⟨i,hi,rfl⟩:=qye h;exact (ht t i hi).kind
theorem VS.int {k:IntKind} {n:Int} {v:Value} (h:VS Z ν (.int k n) v):v=.int k n:=by
 have:CR Z ν (.int k n) [v]:=h;simp only[CR] at this;cases this;rfl
theorem VS.bool {b:Bool} {v:Value} (h:VS Z ν (.bool b) v):v=.bool b:=by
 have:CR Z ν (.bool b) [v]:=h;simp only[CR] at this;cases this;rfl
theorem VS.str {l:List UInt8} {v:Value} (h:VS Z ν (.str l) v):v=bstr l:=by
 have:CR Z ν (.str l) [v]:=h;simp only[CR] at this;cases this;rfl
theorem VS.nils {v:Value} (h:VS Z ν .nils v):v=.slice none 0 0:=by
 have:CR Z ν .nils [v]:=h;simp only[CR] at this;cases this;rfl
theorem VS.sl {e:Sh} {l:List e.D} {v:Value} (h:VS Z ν (.sl e l) v):SlR Z (λ x u=>RV Z e x u) e.size l v:=by
 have:CR Z ν (.sl e l) [v]:=h;simp only[CR,RV] at this;obtain ⟨w,e1,h⟩:=this;cases e1;exact h
theorem VS.win {r:Bool} {e:Sh} {id lo n:Nat} {v:Value} (h:VS Z ν (.win r e id lo n) v):WinR r ν e id lo n v:=by
 have:CR Z ν (.win r e id lo n) [v]:=h;simp only[CR] at this;obtain ⟨w,e1,h⟩:=this;cases e1;exact h
theorem VS.agg {l:List SV} {v:Value} (h:VS Z ν (.agg l) v):∃ vs,v=.agg vs.toArray/\CRL Z ν l vs:=h
theorem VS.arr {n:Nat} {e:Sh} {l:List e.D} {v:Value} (h:VS Z ν (.arr n e l) v):∃ vs,v=.agg vs.toArray/\RV Z (.arr n e) l vs:=h
theorem VS.mkInt {k:IntKind} {n:Int}:VS Z ν (.int k n) (.int k n):=by show CR Z ν _ _;simp only[CR]
theorem VS.mkBool {b:Bool}:VS Z ν (.bool b) (.bool b):=by show CR Z ν _ _;simp only[CR]
theorem VS.mkStr {l:List UInt8}:VS Z ν (.str l) (bstr l):=by show CR Z ν _ _;simp only[CR]
theorem VS.mkSl {e:Sh} {l:List e.D} {v:Value} (h:SlR Z (λ x u=>RV Z e x u) e.size l v):VS Z ν (.sl e l) v:=by
 show CR Z ν _ _
 simp only[CR,RV];exact ⟨v,rfl,h⟩
theorem VS.mkWin {r:Bool} {e:Sh} {id lo n:Nat} {v:Value} (h:WinR r ν e id lo n v):VS Z ν (.win r e id lo n) v:=by
 show CR Z ν _ _
 simp only[CR];exact ⟨v,rfl,h⟩
theorem qfk {k:IntKind}:∀ {l:List SV} {X:List Int} {vs:List Value},qlu k l=some X->CRL Z ν l vs->vs=X.map (Value.int k)
 | [],X,vs,e,h=>by simp only[qlu,Option.some.injEq] at e;subst e;simp only[CRL] at h;subst h;rfl
 | s::l,X,vs,e,h=>by
  unfold qlu at e;split at e
  next heq=>cases heq
  next heq=>
   cases heq;split at e
   next hk=>subst hk;rw[Option.map_eq_some_iff] at e;obtain ⟨Y,e,rfl⟩:=e;simp only[CRL,CR] at h;obtain ⟨u,w,rfl,rfl,h2⟩:=h;rw[qfk e h2];rfl
   ·cases e
  ·cases e
theorem qes:∀ {l:List SV} {X:List Cl} {vs:List Value},qp7 l=some X->CRL Z ν l vs->vs=X.map Cl.v
 | [],X,vs,e,h=>by simp only[qp7,Option.some.injEq] at e;subst e;simp only[CRL] at h;subst h;rfl
 | s::l,X,vs,e,h=>by
  unfold qp7 at e;split at e
  next heq=>cases heq
  next heq=>cases heq;rw[Option.map_eq_some_iff] at e;obtain ⟨Y,e,rfl⟩:=e;simp only[CRL,CR] at h;obtain ⟨u,w,rfl,rfl,h2⟩:=h;rw[qes e h2];rfl
  next heq=>cases heq;rw[Option.map_eq_some_iff] at e;obtain ⟨Y,e,rfl⟩:=e;simp only[CRL,CR] at h;obtain ⟨u,w,rfl,rfl,h2⟩:=h;rw[qes e h2];rfl
  ·cases e
theorem qh8 {t:TypeId} {xo yo:Operand} {op:BinOp} {k:IntKind} {a b:Int} (ho:op=.and\/op=.or\/op=.xor\/op=.andNot):aBin P op t xo yo (.int k a) (.int k b)=some (.int k (bitI op k a b)):=by
 rcases ho with rfl | rfl | rfl | rfl <;> simp[aBin,flat,eqGuard,binOp,Op.intBits,qac,bitI]
theorem qed {t:TypeId} {xo yo:Operand} {op:BinOp} {k:IntKind} {a b:Int} (p:Prop) [Decidable p] (ho:qvp op=true) (hp:cmpP op a b↔p):aBin P op t xo yo (.int k a) (.int k b)=some (.bool (decide p)):=by
 by_cases h:p
 ·rw[qw1 ho (hp.2 h),decide_eq_true h]
 ·rw[qw2 ho (λ k=>h (hp.1 k)),decide_eq_false h]
theorem qze {t:TypeId} {xo yo:Operand} {k:IntKind} {a b:Int}:aBin P .eql t xo yo (.int k a) (.int k b)=some (.bool (decide (a=b))):=qed (a=b) rfl Iff.rfl
theorem qy7 {t:TypeId} {xo yo:Operand} {k:IntKind} {a b:Int}:aBin P .neq t xo yo (.int k a) (.int k b)=some (.bool (decide (a≠b))):=qed (a≠b) rfl Iff.rfl
theorem qza {t:TypeId} {xo yo:Operand} {k:IntKind} {a b:Int}:aBin P .lss t xo yo (.int k a) (.int k b)=some (.bool (decide (a<b))):=qed (a<b) rfl Iff.rfl
theorem qzb {t:TypeId} {xo yo:Operand} {k:IntKind} {a b:Int}:aBin P .leq t xo yo (.int k a) (.int k b)=some (.bool (decide (a<=b))):=qed (a<=b) rfl Iff.rfl
theorem qzc {t:TypeId} {xo yo:Operand} {k:IntKind} {a b:Int}:aBin P .gtr t xo yo (.int k a) (.int k b)=some (.bool (decide (b<a))):=qed (b<a) rfl Iff.rfl
theorem qzd {t:TypeId} {xo yo:Operand} {k:IntKind} {a b:Int}:aBin P .geq t xo yo (.int k a) (.int k b)=some (.bool (decide (b<=a))):=qed (b<=a) rfl Iff.rfl
theorem qmb {t:TypeId} {xo yo:Operand} {k k2:IntKind} {a b:Int} (h0:0<=b):aBin P .shl t xo yo (.int k a) (.int k2 b)=some (.int k (k.wrap (a*2 ^ (min b.toNat k.bits)))) /\
  aBin P .shr t xo yo (.int k a) (.int k2 b)=some (.int k (a.fdiv (2 ^ (min b.toNat k.bits)))):=by
 constructor <;> simp[aBin,flat,eqGuard,binOp,Op.shift,qac,Int.not_lt.2 h0]
theorem qpf {k:IntKind}:∀ {l:List Int} {vs:List Value},RVL (λ (x:Int) u=>u=[Value.int k x]) l vs->vs=l.map (Value.int k)
 | [],vs,h=>(show vs=[] from h)
 | x::l,vs,⟨u,v,e,a,b⟩=>by
  rw[e,a,qpf b];rfl
theorem qn6 (ht:TTOK P tt) {t:TypeId} {xo yo:Operand} {a b:SV} {va vb:Value} {r:Bool} (e:peq (lk tt t) a b=some r) (ha:VS Z ν a va) (hb:VS Z ν b vb) :
  aBin P .eql t xo yo va vb=some (.bool r)/\aBin P .neq t xo yo va vb=some (.bool (!r)):=by
 unfold peq at e;split at e
 next ti x y h1=>
  split at e
  next hk=>
   cases e;rw[ha.bool,hb.bool];have hu:=(ht t ti h1).kind;rw[hk] at hu;simp only[KOK] at hu;have q:qaa P (Op.equal t (.bool x) (.bool y))=some (x == y):=by
    unfold Op.equal;rw[show Op.maxDepth=9999+1 from rfl,Op.equalIn];simp[qad,hu,qac]
   constructor <;> simp[aBin,flat,eqGuard,binOp,qdc,q]
  ·cases e
 next ti l m h1=>
  split at e
  next hmx=>
   split at e
   next X Y hX hY=>
    split at e
    next hl=>cases e;obtain ⟨vs,rfl,hv⟩:=ha.agg;obtain ⟨ws,rfl,hw⟩:=hb.agg;rw[qes hX hv,qes hY hw];obtain ⟨hg,hq⟩:=(ht t ti h1).meq hmx;exact qzg (hq X Y hl.1 hl.2) hg
    ·cases e
   ·cases e
  next hmx=>
   split at e
   next k hk=>
    split at e
    next X Y hX hY=>
     split at e
     next hl=>cases e;obtain ⟨vs,rfl,hv⟩:=ha.agg;obtain ⟨ws,rfl,hw⟩:=hb.agg;rw[qfk hX hv,qfk hY hw];obtain ⟨hg,hq⟩:=(ht t ti h1).ieq hmx k hk;exact qr5 (hq X Y hl.1 hl.2) hg
     ·cases e
    ·cases e
   ·cases e
 next ti id off h1=>
  split at e
  next pe hk=>
   cases e;have hu:=(ht t ti h1).kind;rw[hk] at hu;simp only[KOK] at hu;have h2:CR Z ν (.ptr id off) [va]:=ha;have h3:CR Z ν .nilp [vb]:=hb;simp only[CR] at h2 h3;obtain ⟨ni,_,h2⟩:=h2
   cases h2;cases h3
   constructor <;> simp[aBin,flat,hu,qc4]
  ·cases e
 next ti h1=>
  split at e
  next pe hk=>
   cases e;have hu:=(ht t ti h1).kind;rw[hk] at hu;simp only[KOK] at hu;have h2:CR Z ν .nilp [va]:=ha;have h3:CR Z ν .nilp [vb]:=hb;simp only[CR] at h2 h3
   cases h2;cases h3
   have q:qaa P (Op.equal t (.pointer none) (.pointer none))=some true:=by
    unfold Op.equal;rw[show Op.maxDepth=9999+1 from rfl,Op.equalIn];simp[qad,hu,qac]
   constructor <;> simp[aBin,flat,eqGuard,binOp,qdc,q]
  ·cases e
 next ti n k X n' k' Y h1=>
  split at e
  next k2 hk=>
   split at e
   next hc=>obtain ⟨hmx,rfl,rfl,hn,hn'⟩:=hc;cases e;obtain ⟨vs,rfl,hv⟩:=ha.arr;obtain ⟨ws,rfl,hw⟩:=hb.arr;simp only[RV] at hv hw;rw[qpf hv.2,qpf hw.2];obtain ⟨hg,hq⟩:=(ht t ti h1).ieq hmx _ hk;exact qr5 (hq X Y (hv.1.trans hn) (hw.1.trans hn')) hg
   ·cases e
  ·cases e
 ·cases e
theorem qsk (ht:TTOK P tt) {op:BinOp} {t:TypeId} {xo yo:Operand} {a b s:SV} {va vb:Value} {cs:List Prop} (e:pbin (lk tt t) op a b=some (cs,s)) (hc:∀ c∈cs,c) (ha:VS Z ν a va) (hb:VS Z ν b vb) :
  ∃ v,aBin P op t xo yo va vb=some v/\VS Z ν s v:=by
 unfold pbin at e;split at e <;> try (cases e;done)
 all_goals first
  | (split at e <;> first | (cases e;done) | skip)
  | skip
 all_goals try (rename_i hk;subst hk)
 all_goals try (cases e)
 all_goals try (rw[ha.int,hb.int])
 all_goals try (rw[ha.str,hb.str])
 ·exact ⟨_,qzi,VS.mkInt⟩
 ·exact ⟨_,qy4,VS.mkInt⟩
 ·exact ⟨_,qy9,VS.mkInt⟩
 ·exact ⟨_,qy6 (hc _ (by simp)),VS.mkInt⟩
 ·exact ⟨_,qy5 (hc _ (by simp)),VS.mkInt⟩
 ·exact ⟨_,qh8 (by simp),VS.mkInt⟩
 ·exact ⟨_,qh8 (by simp),VS.mkInt⟩
 ·exact ⟨_,qh8 (by simp),VS.mkInt⟩
 ·exact ⟨_,qh8 (by simp),VS.mkInt⟩
 ·exact ⟨_,(qmb (hc _ (by simp))).1,VS.mkInt⟩
 ·exact ⟨_,(qmb (hc _ (by simp))).2,VS.mkInt⟩
 ·exact ⟨_,qze,VS.mkBool⟩
 ·exact ⟨_,qy7,VS.mkBool⟩
 ·exact ⟨_,qza,VS.mkBool⟩
 ·exact ⟨_,qzb,VS.mkBool⟩
 ·exact ⟨_,qzc,VS.mkBool⟩
 ·exact ⟨_,qzd,VS.mkBool⟩
 ·exact ⟨_,qzh (hc _ (by simp)),VS.mkStr⟩
 ·exact ⟨_,qzf,VS.mkBool⟩
 ·exact ⟨_,qy8,VS.mkBool⟩
 next r hr=>exact ⟨_,(qn6 ht hr ha hb).1,VS.mkBool⟩
 next r hr=>exact ⟨_,(qn6 ht hr ha hb).2,VS.mkBool⟩
end
def VSL (Z:Nat->Option ABlk) (ν:Nu):List SV->List Value->Prop
 | [],vs=>vs=[]
 | s::l,vs=>∃ v w,vs=v::w/\VS Z ν s v/\VSL Z ν l w
def PVL (Z:Nat->Option ABlk) (ν:Nu):List (Nat × SV)->List (Nat × Value)->Prop
 | [],vs=>vs=[]
 | (i,s)::l,vs=>∃ v w,vs=(i,v)::w/\VS Z ν s v/\PVL Z ν l w
section
variable {P:Program} {tt:TT} {Z:Nat->Option ABlk} {ν:Nu} {ρ:Operand->Option SV} {ρ':Operand->Option Value}
theorem qaw (hρ:∀ x s,ρ x=some s->∃ v,ρ' x=some v/\VS Z ν s v) {xs:Array Operand} {l:List SV} (h:qbb ρ xs=some l):∃ vs,qno ρ' xs=some vs/\VSL Z ν l vs:=by
 unfold qbb at h;unfold qno;revert l
 induction xs.toList with
 | nil=>intro l h;cases h;exact ⟨[],rfl,rfl⟩
 | cons x xs ih=>
  intro l h;simp only[List.map_cons] at h |-
  cases hx:ρ x with
  | none=>rw[hx] at h;simp[allS] at h
  | some s=>
   rw[hx] at h;simp only[allS] at h;split at h
   next r hr=>cases h;obtain ⟨v,hv,hs⟩:=hρ _ _ hx;obtain ⟨vs,hvs,hl⟩:=ih hr;exact ⟨v::vs,by rw[hv];simp[qbw,hvs],v,vs,rfl,hs,hl⟩
   ·cases h
theorem qfb (hρ:∀ x s,ρ x=some s->∃ v,ρ' x=some v/\VS Z ν s v) {xs:Array (Nat × Operand)} {l:List (Nat × SV)} (h:qdr ρ xs=some l):∃ vs,ql9 ρ' xs=some vs/\PVL Z ν l vs:=by
 unfold qdr at h;unfold ql9;revert l
 induction xs.toList with
 | nil=>intro l h;cases h;exact ⟨[],rfl,rfl⟩
 | cons x xs ih=>
  intro l h;simp only[List.map_cons] at h |-
  cases hx:ρ x.2 with
  | none=>rw[hx] at h;simp[allS] at h
  | some s=>
   rw[hx] at h;simp only[allS,Option.map_some] at h;split at h
   next r hr=>cases h;obtain ⟨v,hv,hs⟩:=hρ _ _ hx;obtain ⟨vs,hvs,hl⟩:=ih hr;exact ⟨(x.1,v)::vs,by rw[hv];simp[qbw,hvs],v,vs,rfl,hs,hl⟩
   ·cases h
theorem qoq (off:Nat):∀ (xs:List Value) (k:Nat) (cs:Array Value),off+k+xs.length<=cs.size ->
  ((xs.zipIdx k).foldl (λ cs p=>cs.setIfInBounds (off+p.2) p.1) cs).toList=cs.toList.take (off+k)++xs++cs.toList.drop (off+k+xs.length)
 | [],k,cs,h=>by simp
 | x::xs,k,cs,h=>by
  simp only[List.zipIdx_cons,List.foldl_cons,List.length_cons] at h |-;rw[qoq off xs (k+1) _ (by simp;omega)];rw[Array.toList_setIfInBounds];have hl:off+k<cs.toList.length:=by simp;omega
  rw[qha _ _ _ hl];have e1:(cs.toList.take (off+k)).length=off+k:=by rw[List.length_take];omega
  rw[show off+(k+1)=off+k+1 by omega];have e2:(cs.toList.take (off+k)++[x]++cs.toList.drop (off+k+1)).take (off+k+1)=cs.toList.take (off+k)++[x]:=by
   rw[List.take_append_of_le_length (by simp;omega),List.take_of_length_le (by simp;omega)]
  have e3:(cs.toList.take (off+k)++[x]++cs.toList.drop (off+k+1)).drop (off+k+1+xs.length)=cs.toList.drop (off+k+(xs.length+1)):=by
   rw[List.drop_append,List.drop_of_length_le (by simp;omega),List.nil_append,List.drop_drop]
   congr 1;simp;omega
  rw[e2,e3];simp only[List.append_assoc,List.singleton_append]
theorem qkt {place:Nat->Option (Nat × Nat)} {cells:Array Value} {i off size:Nat} {v:Value} {rest:List (Nat × Value)} (hp:place i=some (off,size)) (hs:v.cells.size=size) (hb:off+size<=cells.size) :
  ∃ cells',cells'.toList=cells.toList.take off++v.cells.toList++cells.toList.drop (off+size)/\Instr.fill place cells ((i,v)::rest)=Instr.fill place cells' rest:=by
 refine ⟨_,?_,by rw[Instr.fill,hp];simp only;rw[if_neg (by simp;omega)]⟩;rw[<- Array.foldl_toList,Array.toList_zipIdx];have:=qoq off v.cells.toList 0 cells (by simp;omega);rw[this];simp[hs]
theorem qr1 {α β:Type} {f:α->Option β}:∀ {l:List α} {r:List β},allS (l.map f)=some r->∀ (i:Nat) (x:α),l[i]?=some x->∃ y,f x=some y/\r[i]?=some y
 | [],_,_,i,x,h=>by simp at h
 | a::l,r,h,i,x,hx=>by
  simp only[List.map_cons] at h
  cases hf:f a with
  | none=>rw[hf] at h;simp[allS] at h
  | some y=>
   rw[hf] at h;simp only[allS] at h;split at h
   next r' hr=>
    cases h
    cases i with
    | zero=>simp at hx;subst hx;exact ⟨y,hf,rfl⟩
    | succ i=>simp at hx;obtain ⟨y',h1,h2⟩:=qr1 hr i x hx;exact ⟨y',h1,by simpa using h2⟩
   ·cases h
theorem qge (ht:TTOK P tt) {fs:List (Nat × TypeId)} {places:Array (Nat × Nat)} (hpl:allS (fs.map λ f=>(qaa P (sizeOf f.2)).map λ n=>(f.1,n))=some places.toList) :
  ∀ {ps:List (Nat × SV)} {l l':List SV} {vs:List (Nat × Value)} {cells:Array Value},qdp tt fs ps l=some l'->(∀ p∈ps,∀ m,p.2≠.tup m)->PVL Z ν ps vs->CRL Z ν l cells.toList ->
   ∃ out,Instr.fill (places[·]?) cells vs=some out/\CRL Z ν l' out.toList
 | [],l,l',vs,cells,e,_,hv,hl=>by
  simp only[qdp,Option.some.injEq] at e;subst e;simp only[PVL] at hv;subst hv;exact ⟨cells,rfl,hl⟩
 | (i,s)::ps,l,l',vs,cells,e,hnt,hv,hl=>by
  simp only[PVL] at hv;obtain ⟨v,w,rfl,hs,hw⟩:=hv;simp only[qdp] at e;split at e
  next off t hf=>
   split at e
   next ti hti=>
    split at e
    next hsz=>
     split at e
     next l2 hsp=>obtain ⟨y,hy,hpy⟩:=qr1 hpl i _ hf;rw[(ht t ti hti).size] at hy;simp only[Option.map_some,Option.some.injEq] at hy;subst hy;have hit:=(hs.v1 (hnt (i,s) (by simp))).items;have hlen:=hit.len;obtain ⟨q1,q2⟩:=qcr hl hit hsp;simp only[Array.length_toList] at hlen q2;obtain ⟨cells',hc',hf'⟩:=qkt (place:=(places[·]?)) (i:=i) (rest:=w) (v:=v) (cells:=cells) (off:=off) (size:=ti.size) (by simpa using hpy) (by rw[hlen,hsz]) (by simpa using q2);rw[hf'];exact qge ht hpl e (λ p hp=>hnt p (by simp[hp])) hw (by rw[hc'];exact q1)
     ·cases e
    ·cases e
   ·cases e
  ·cases e
theorem qdv            {σ:Sh}:∀ {ps:List (Nat × SV)} {l l':List σ.D} {vs:List (Nat × Value)} {cells:Array Value},qfv      σ ps l=some l'→(∀ p∈ps,∀ m,p.2≠.tup m)→PVL Z ν ps vs→RVL (fun x u=>RV Z σ x u) l cells.toList →
   ∃ out,Instr.fill (λ i=>some (i*σ.size,σ.size)) cells vs=some out/\RVL (λ x u=>RV Z σ x u) l' out.toList/\l'.length=l.length
 | [],l,l',vs,cells,e,_,hv,hl=>by
  simp only[qfv,Option.some.injEq] at e;subst e;simp only[PVL] at hv;subst hv;exact ⟨cells,rfl,hl,rfl⟩
 | (i,s)::ps,l,l',vs,cells,e,hnt,hv,hl=>by
  simp only[PVL] at hv;obtain ⟨v,w,rfl,hs,hw⟩:=hv;simp only[qfv] at e;split at e
  next x hx=>
   split at e
   next hi=>
    have hit:=(hs.v1 (hnt (i,s) (by simp))).items;have hr:=qg4 hx hit;have hsz:=RV.len σ x _ hr;have hll:=hl.len (λ x u k=>RV.len σ x u k);simp only[Array.length_toList] at hsz hll;have hb:i*σ.size+σ.size<=cells.size:=by
     rw[hll,<- Nat.succ_mul];exact Nat.mul_le_mul_right _ hi
    obtain ⟨cells',hc',hf'⟩:=qkt (place:=λ i=>some (i*σ.size,σ.size)) (i:=i) (rest:=w) (v:=v) (cells:=cells) rfl hsz hb;rw[hf'];have:=RVL.set (λ x u k=>RV.len σ x u k) hl hi hr;rw[Array.length_toList,hsz] at this;obtain ⟨out,h1,h2,h3⟩:=qdv e (λ p hp=>hnt p (by simp[hp])) hw (cells:=cells') (by rw[hc'];exact this);exact ⟨out,h1,h2,by rw[h3,List.length_set]⟩
   ·cases e
  ·cases e
theorem qhn {σ:Sh} {x:σ.D} {u:List Value} {v:Value} (h:RV Z σ x u) (hv:if σ.isAgg then v=.agg u.toArray else u=[v]):VS Z ν (ofD σ x) v:=by
 cases σ with
 | pair a b=>simp only[Sh.isAgg,if_true] at hv;exact ⟨u,hv,qam (.pair a b) x h⟩
 | unit=>simp only[Sh.isAgg,if_true] at hv;exact ⟨u,hv,by simp only[RV] at h;subst h;simp only[CRL]⟩
 | arr n e=>simp only[Sh.isAgg,if_true] at hv;exact ⟨u,hv,h⟩
 | int k=>simp only[Sh.isAgg,Bool.false_eq_true,if_false] at hv;subst hv;simp only[RV] at h;cases h;exact VS.mkInt
 | bool=>simp only[Sh.isAgg,Bool.false_eq_true,if_false] at hv;subst hv;simp only[RV] at h;cases h;exact VS.mkBool
 | str=>simp only[Sh.isAgg,Bool.false_eq_true,if_false] at hv;subst hv;simp only[RV] at h;cases h;exact VS.mkStr
 | sl e=>simp only[Sh.isAgg,Bool.false_eq_true,if_false] at hv;subst hv;simp only[RV] at h;obtain ⟨w,e1,h⟩:=h;cases e1;exact VS.mkSl h
theorem q2n {σ:Sh} {l:List σ.D} {i:Nat} (h:i<l.length):l[i]?=some (gt σ l i):=by
 unfold gt;rw[List.getElem?_eq_getElem h];rfl
theorem qr4 {t:TypeId} {ti:TI} (ht:TOK P t ti) {cs:Array Value} {off:Nat} {u:List Value} (hu:(cs.toList.drop off).take ti.size=u) (hl:u.length=ti.size) (h1:ti.agg=false->ti.size=1) :
  ∃ v,qs6 P t cs off=some v/\(if ti.agg then v=.agg u.toArray else u=[v]):=by
 unfold qs6;rw[ht.agg]
 cases ha:ti.agg with
 | true=>
  simp only[ht.size,if_true];refine ⟨_,rfl,?_⟩
  congr 1
  apply Array.ext';rw[Array.toList_extract,List.extract_eq_take_drop];simp only;rw[<- hu];congr 1;omega
 | false=>
  have h1:=h1 ha;rw[h1] at hu hl
  match u,hl,hu with
  | [v],_,hu=>
   refine ⟨v,?_,by simp⟩;simp only;have:cs.toList[off]?=some v:=by
    have h2:((cs.toList.drop off).take 1)[0]?=some v:=by rw[hu];rfl
    rw[List.getElem?_take_of_lt (by omega),List.getElem?_drop] at h2;simpa using h2
   simpa using this
end
section
variable {P:Program} {tt:TT} {Z:Nat->Option ABlk} {ν:Nu} {ρ:Operand->Option SV} {ρ':Operand->Option Value}
theorem qm1 {ps:List (Nat × SV)} (h:q14 ps=true):∀ p∈ps,∀ m,p.2≠.tup m:=by
 intro p hp m e;have:=List.all_eq_true.1 h p hp;rw[e] at this;simp[qen] at this
theorem VS.one {s:SV} {v:Value} (h:VS Z ν s v) (ho:qbi s=true):CR Z ν s [v]:=by
 cases s with
 | agg l=>simp[qbi] at ho
 | arr n e l=>simp[qbi] at ho
 | tup l=>simp[qbi] at ho
 | _=>exact h
theorem VS.of_one {s:SV} {v:Value} (h:CR Z ν s [v]) (ho:qbi s=true):VS Z ν s v:=by
 cases s with
 | agg l=>simp[qbi] at ho
 | arr n e l=>simp[qbi] at ho
 | tup l=>simp[qbi] at ho
 | _=>exact h
theorem VSL.cro:∀ {l:List SV} {vs:List Value},VSL Z ν l vs->l.all qbi=true->CRO Z ν l vs
 | [],vs,h,_=>by simp only[VSL] at h;subst h;simp only[CRO]
 | s::l,vs,h,k=>by
  simp only[VSL] at h;obtain ⟨v,w,rfl,h1,h2⟩:=h;simp only[List.all_cons,Bool.and_eq_true] at k;simp only[CRO];exact ⟨v,w,rfl,h1.one k.1,VSL.cro h2 k.2⟩
theorem VS.ptr {id off:Nat} {v:Value} (h:VS Z ν (.ptr id off) v):∃ ni,ν id=some ni/\v=.pointer (some ⟨ni.b,off,none⟩):=by
 have:CR Z ν (.ptr id off) [v]:=h;simp only[CR] at this;obtain ⟨ni,h1,h2⟩:=this;cases h2;exact ⟨ni,h1,rfl⟩
theorem VS.elp {e:Sh} {id i off:Nat} {v:Value} (h:VS Z ν (.elp e id i off) v):∃ ni,ν id=some ni/\v=.pointer (some ⟨ni.b,i*e.size+off,none⟩):=by
 have:CR Z ν (.elp e id i off) [v]:=h;simp only[CR] at this;obtain ⟨ni,h1,h2⟩:=this;cases h2;exact ⟨ni,h1,rfl⟩
theorem VS.aep {e:Sh} {id b i off:Nat} {v:Value} (h:VS Z ν (.aep e id b i off) v):∃ ni,ν id=some ni/\v=.pointer (some ⟨ni.b,b+i*e.size+off,none⟩):=by
 have:CR Z ν (.aep e id b i off) [v]:=h;simp only[CR] at this;obtain ⟨ni,h1,h2⟩:=this;cases h2;exact ⟨ni,h1,rfl⟩
theorem VS.elv {σ:Sh} {x:σ.D} {v:Value} (h:VS Z ν (.elv σ x) v):∃ b o cs et k,v=.pointer (some ⟨b,o,none⟩)/\Z b=some (.cells cs et k)/\o+σ.size<=cs.length/\RV Z σ x ((cs.drop o).take σ.size):=by
 have:CR Z ν (.elv σ x) [v]:=h;simp only[CR] at this;obtain ⟨b,o,cs,et,k,h1,h2⟩:=this;cases h1;exact ⟨b,o,cs,et,k,rfl,h2⟩
theorem VS.fn {f:FuncId} {a c:List SV} {v:Value} (h:VS Z ν (.fn f a c) v):∃ va vc,v=.func (.func f) va.toArray vc.toArray/\CRO Z ν a va/\CRO Z ν c vc:=by
 have:CR Z ν (.fn f a c) [v]:=h;simp only[CR] at this;obtain ⟨va,vc,h1,h2⟩:=this;cases h1;exact ⟨va,vc,rfl,h2⟩
theorem qou {s t:TypeId} {f off:Nat} {ti:TI} {fs:List (Nat × TypeId)} (hk:KOK P s (.struct fs)) (hf:fs[f]?=some (off,t)) (ht:TOK P t ti) (hn:ti.size≠0) (b o:Nat) :
  qec P s f (.pointer (some ⟨b,o,none⟩))=some (.pointer (some ⟨b,o+off,none⟩)):=by
 simp only[KOK] at hk;obtain ⟨fields,_,hu,hm,_⟩:=hk;subst hm;rw[List.getElem?_map,Option.map_eq_some_iff] at hf;obtain ⟨fd,hfd,e⟩:=hf;cases e;have hfd':fields[f]?=some fd:=by simpa using hfd
 simp[qec,hu,hfd',ht.size,hn,qaz]
theorem qnc {off n:Nat} {p s:SV} {cs:List Prop} {v:Value} (e:qku off n p=some (cs,s)) (h:VS Z ν p v):∃ b o,v=.pointer (some ⟨b,o,none⟩)/\VS Z ν s (.pointer (some ⟨b,o+off,none⟩)):=by
 unfold qku at e;split at e
 ·cases e;obtain ⟨ni,h1,rfl⟩:=h.ptr
  refine ⟨_,_,rfl,VS.of_one ?_ rfl⟩;simp only[CR];exact ⟨ni,h1,rfl⟩
 ·cases e;obtain ⟨ni,h1,rfl⟩:=h.elp
  refine ⟨_,_,rfl,VS.of_one ?_ rfl⟩;simp only[CR];exact ⟨ni,h1,by simp[Nat.add_assoc]⟩
 ·cases e;obtain ⟨ni,h1,rfl⟩:=h.aep
  refine ⟨_,_,rfl,VS.of_one ?_ rfl⟩;simp only[CR];exact ⟨ni,h1,by simp[Nat.add_assoc]⟩
 ·split at e
  next τ y hs=>cases e;obtain ⟨b,o,cs',et,k,rfl,h2,h3,h4⟩:=h.elv;obtain ⟨q1,q2,q3⟩:=qj5 _ _ h4 hs;refine ⟨b,o,rfl,VS.of_one ?_ rfl⟩;simp only at q1 q2 q3;have hl:((cs'.drop o).take _).length=_:=RV.len _ _ _ h4;simp only[CR];refine ⟨b,o+off,cs',et,k,rfl,h2,by rw[q1];rw[hl] at q2;omega,?_⟩;rw[q1];rw[List.drop_take,List.take_take,List.drop_drop] at q3;rw[hl] at q2;rw[Nat.min_eq_left (by omega)] at q3;exact q3
  ·cases e
 ·cases e
theorem qyn {s t:TypeId} {f off:Nat} {ti:TI} {fs:List (Nat × TypeId)} {l r:List SV} {x:SV} {v:Value} (hk:KOK P s (.struct fs)) (hf:fs[f]?=some (off,t)) (ht:TOK P t ti) (h:VS Z ν (.agg l) v)
  (hc:qi3 l off ti.size=some r) (hm:mkV ti.agg r=some x):∃ y,qo5 P s f v=some y/\VS Z ν x y:=by
 simp only[KOK] at hk;obtain ⟨fields,_,hu,hmap,_⟩:=hk;subst hmap;rw[List.getElem?_map,Option.map_eq_some_iff] at hf;obtain ⟨fd,hfd,e⟩:=hf;cases e;have hfd':fields[f]?=some fd:=by simpa using hfd
 obtain ⟨vs,rfl,hv⟩:=h.agg;obtain ⟨q1,q2⟩:=qfn hv hc;have hlen:((vs.drop fd.offset).take ti.size).length=ti.size:=by rw[List.length_take,List.length_drop];omega
 obtain ⟨y,hy,hyv⟩:=qr4 ht (cs:=vs.toArray) (off:=fd.offset) (u:=(vs.drop fd.offset).take ti.size) (by simp) hlen ht.one;refine ⟨y,by simp[qo5,hu,hfd',hy],qcd hm q1 hyv⟩
theorem qi0 {t et:TypeId} {ti:TI} {n c b o:Nat} {k:IntKind} {i:Int} (hk:KOK P t (.slice et)) (ht:TOK P et ti) (h0:0<=i) (h1:i<n) :
  qb8 P t (.slice (some ⟨b,o,none⟩) n c) (.int k i)=some (.pointer (some ⟨b,o+i.toNat * ti.size,none⟩)):=by
 simp only[KOK] at hk;simp[qb8,hk,ht.size,h0,h1,qaz]
theorem qc2 {t et:TypeId} {ti:TI} {n b o:Nat} {k:IntKind} {i:Int} (hk:KOK P t (.array n et)) (ht:TOK P et ti) (h0:0<=i) (h1:i<n) :
  qb8 P t (.pointer (some ⟨b,o,none⟩)) (.int k i)=some (.pointer (some ⟨b,o+i.toNat * ti.size,none⟩)):=by
 simp only[KOK] at hk;simp[qb8,hk,ht.size,h0,h1,qaz]
theorem qt8 {e:Sh} {l:List e.D} {b off cap:Nat} {cs:List Value} {et:TypeId} {k:Nat} {i:Nat} (hz:Z b=some (.cells cs et k)) (hl:off+l.length*e.size<=cs.length) (hv:RVL (λ x u=>RV Z e x u) l ((cs.drop off).take (l.length*e.size))) (hi:i<l.length) (_c:cap=cap) :
  CR Z ν (.elv e (gt e l i)) [.pointer (some ⟨b,off+i*e.size,none⟩)]:=by
 simp only[CR];have h1:i*e.size+e.size<=l.length*e.size:=by rw[<- Nat.succ_mul];exact Nat.mul_le_mul_right _ hi
 refine ⟨b,_,cs,et,k,rfl,hz,by omega,?_⟩;have:=RVL.get (λ x u k=>RV.len e x u k) hv (q2n hi);rw[List.drop_take,List.take_take,List.drop_drop,Nat.min_eq_left (by omega)] at this;exact this
theorem qdh (ht:TTOK P tt) {t:TypeId} {x y s:SV} {v w:Value} {cs:List Prop} {o:Oper} {xo io:Operand} (ho:o.op=.indexAddr t xo io) (hx:ρ xo=some x) (hy:ρ io=some y) (e:pA tt ρ o=some (cs,s)) (hc:∀ c∈cs,c) (h:VS Z ν x v) (hi:VS Z ν y w) :
  ∃ r,qb8 P t v w=some r/\VS Z ν s r:=by
 unfold pA at e;simp only[ho,hx,hy] at e;split at e
 next r e1 id lo n k i h1 h2=>
  cases h1;cases h2
  split at e
  next et hk=>
   split at e
   next ti hti=>
    split at e
    next hsz=>
     cases e;have c0:=hc (0<=i) (by simp);have c1:=hc (i<(n:Int)) (by simp);rw[hi.int];have hw:=h.win;unfold WinR at hw;split at hw
     ·omega
     next ni hn=>
      rcases hw with ⟨_,rfl,_⟩ | ⟨cap,rfl,_⟩
      ·omega
      ·refine ⟨_,qi0 (ht.kind hk) (ht _ _ hti) c0 c1,VS.of_one ?_ rfl⟩;simp only[CR];exact ⟨ni,hn,by rw[hsz,Nat.add_mul,Nat.add_zero]⟩
    ·cases e
   ·cases e
  ·cases e
 next e1 l k i h1 h2=>
  cases h1;cases h2
  split at e
  next et hk=>
   split at e
   next ti hti=>
    split at e
    next hsz=>
     cases e;have c0:=hc (0<=i) (by simp);have c1:=hc (i<(l.length:Int)) (by simp);rw[hi.int];rcases h.sl with ⟨rfl,_⟩ | ⟨b,off,cap,cs',et',kk,rfl,hz,hl,hv,hcap⟩
     ·simp at c1;omega
     ·refine ⟨_,qi0 (ht.kind hk) (ht _ _ hti) c0 c1,VS.of_one ?_ rfl⟩;rw[hsz];exact qt8 hz hl hv (by omega) (rfl:cap=cap)
    ·cases e
   ·cases e
  ·cases e
 next id off k i h1 h2=>
  cases h1;cases h2
  split at e
  next n et hk=>
   split at e
   next ti hti=>
    split at e
    next hsz=>cases e;have c0:=hc (0<=i) (by simp);have c1:=hc (i<(n:Int)) (by simp);rw[hi.int];obtain ⟨ni,hn,rfl⟩:=h.ptr;refine ⟨_,qc2 (ht.kind hk) (ht _ _ hti) c0 c1,VS.of_one ?_ rfl⟩;simp only[CR];exact ⟨ni,hn,by rw[hsz,Nat.add_zero]⟩
    ·split at e
     next hsz=>cases e;have c0:=hc (0<=i) (by simp);have c1:=hc (i<(n:Int)) (by simp);rw[hi.int];obtain ⟨ni,hn,rfl⟩:=h.ptr;refine ⟨_,qc2 (ht.kind hk) (ht _ _ hti) c0 c1,VS.of_one ?_ rfl⟩;simp only[CR];exact ⟨ni,hn,by rw[hsz,Nat.add_zero];rfl⟩
     ·cases e
   ·cases e
  ·cases e
 next n e1 l k i h1 h2=>
  cases h1;cases h2
  split at e
  next n' et hk=>
   split at e
   next ti hti=>
    split at e
    next hsz=>obtain ⟨hsz,rfl⟩:=hsz;cases e;have c0:=hc (0<=i) (by simp);have c1:=hc (i<(n':Int)) (by simp);rw[hi.int];obtain ⟨b,off,cs',et',kk,rfl,hz,hl,hv⟩:=h.elv;refine ⟨_,qc2 (ht.kind hk) (ht _ _ hti) c0 c1,VS.of_one ?_ rfl⟩;simp only[RV,Sh.size] at hv hl;obtain ⟨hln,hv⟩:=hv;rw[hsz];refine qt8 (cap:=0) hz (by rw[hln];exact hl) (by rw[hln];exact hv) (by omega) rfl
    ·cases e
   ·cases e
  ·cases e
 next n e1 id r k i h1 h2=>
  cases h1;cases h2
  split at e
  next n' et hk=>
   split at e
   next ti hti=>
    split at e
    next hsz=>obtain ⟨hsz,rfl⟩:=hsz;cases e;have c0:=hc (0<=i) (by simp);have c1:=hc (i<(n':Int)) (by simp);rw[hi.int];obtain ⟨ni,hn,rfl⟩:=h.elp;refine ⟨_,qc2 (ht.kind hk) (ht _ _ hti) c0 c1,VS.of_one ?_ rfl⟩;simp only[CR];exact ⟨ni,hn,by rw[hsz,Nat.add_zero]⟩
    ·cases e
   ·cases e
  ·cases e
 ·cases e
end
section
variable {P:Program} {tt:TT} {Z:Nat->Option ABlk} {ν:Nu} {ρ:Operand->Option SV} {ρ':Operand->Option Value}
theorem qsj (ht:TTOK P tt) {x:SV} {n:Int} {v:Value} {ts:Array TypeId} {t:TypeId} {k:TK} (hk:(ts[0]?).bind (kOf tt)=some k) (e:plen k x=some n) (h:VS Z ν x v):aLen P ts t #[v]=some (.int .i64 n):=by
 rw[Option.bind_eq_some_iff] at hk;obtain ⟨t0,ht0,hk⟩:=hk;have hk:=ht.kind hk;unfold plen at e;split at e
 ·cases e;simp only[KOK] at hk
  have hw:=h.win;unfold WinR at hw;split at hw
  ·obtain ⟨rfl,rfl,rfl | ⟨_,rfl⟩⟩:=hw
   ·simp[aLen,flat,Builtin.len_,ht0,hk,goInt,qad,qac]
   ·simp[aLen,emptySlice,ht0,hk,goInt]
  ·rcases hw with ⟨_,rfl,rfl | ⟨_,_,rfl,_⟩⟩ | ⟨cap,rfl,_⟩
   ·simp[aLen,emptySlice,ht0,hk,goInt]
   ·simp[aLen,ht0,hk,goInt]
   ·simp[aLen,ht0,hk,goInt]
 ·cases e;simp only[KOK] at hk
  rcases h.sl with ⟨rfl,rfl | rfl⟩ | ⟨b,off,cap,cs',et',kk,rfl,_⟩
  ·simp[aLen,flat,Builtin.len_,ht0,hk,goInt,qad,qac]
  ·simp[aLen,emptySlice,ht0,hk,goInt]
  ·simp[aLen,ht0,hk,goInt]
 ·cases e;simp only[KOK] at hk
  rw[h.nils];simp[aLen,flat,Builtin.len_,ht0,hk,goInt,qad,qac]
 ·cases e;simp only[KOK] at hk
  rw[h.str];simp[aLen,bstr,flat,Builtin.len_,ht0,hk,goInt,qc8,qad,qac]
 ·cases e
theorem qgv (ht:TTOK P tt) {t:TypeId} {x y s:SV} {v w:Value} {cs:List Prop} {o:Oper} {xo io:Operand} (ho:o.op=.index t xo io) (hx:ρ xo=some x) (hy:ρ io=some y) (e:pA tt ρ o=some (cs,s)) (hc:∀ c∈cs,c) (h:VS Z ν x v) (hi:VS Z ν y w) :
  ∃ r,qma P t v w=some r/\VS Z ν s r:=by
 unfold pA at e;simp only[ho,hx,hy] at e;split at e
 next n e1 l k i h1 h2=>
  cases h1;cases h2
  split at e
  next n' et hk=>
   split at e
   next ti hti=>
    split at e
    next hsz=>
     obtain ⟨hsz,rfl,hag⟩:=hsz;cases e;have c0:=hc (0<=i) (by simp);have c1:=hc (i<(n':Int)) (by simp);rw[hi.int];obtain ⟨vs,rfl,hv⟩:=h.arr;simp only[RV] at hv;obtain ⟨hln,hv⟩:=hv;have hk:=ht.kind hk;simp only[KOK] at hk;have hil:i.toNat<l.length:=by omega
     have hel:=RVL.get (λ x u k=>RV.len e1 x u k) hv (q2n hil);have hel':=RV.len _ _ _ hel;obtain ⟨r,hr,hrv⟩:=qr4 (ht _ _ hti) (cs:=vs.toArray) (off:=i.toNat * e1.size) (u:=(vs.drop (i.toNat * e1.size)).take e1.size) (by simp[hsz]) (by rw[hel',hsz]) (ht _ _ hti).one;refine ⟨r,?_,qhn hel (by rw[<- hag];exact hrv)⟩;simp[qma,hk,(ht _ _ hti).size,c0,c1,hsz,hr]
    ·cases e
   ·cases e
  ·cases e
 next l k i h1 h2=>
  cases h1;cases h2
  split at e
  next hk=>
   cases e;have c0:=hc (0<=i) (by simp);have c1:=hc (i<(l.length:Int)) (by simp);rw[hi.int,h.str];have hk:=ht.kind hk;simp only[KOK] at hk;have hil:i.toNat<l.length:=by omega
   have hg:(⟨l.toArray⟩:ByteArray)[i.toNat]?=some l[i.toNat]:=by
    rw[getElem?_pos (⟨l.toArray⟩:ByteArray) i.toNat (by rw[qc8];exact hil)];rfl
   refine ⟨.int .u8 (((l[i.toNat]?).getD 0).toNat:Int),?_,VS.mkInt⟩;simp[qma,bstr,Instr.index,asIntOf,qad,qac,hk,c0,hg,List.getElem?_eq_getElem hil,flat]
  ·cases e
 ·cases e
theorem VSL.one2 {a b:SV} {vs:List Value} (h:VSL Z ν [a,b] vs):∃ v w,vs=[v,w]/\VS Z ν a v/\VS Z ν b w:=by
 simp only[VSL] at h;obtain ⟨v,_,rfl,h1,w,_,rfl,h2,rfl⟩:=h;exact ⟨v,w,rfl,h1,h2⟩
theorem VSL.one1 {a:SV} {vs:List Value} (h:VSL Z ν [a] vs):∃ v,vs=[v]/\VS Z ν a v:=by
 simp only[VSL] at h;obtain ⟨v,_,rfl,h1,rfl⟩:=h;exact ⟨v,rfl,h1⟩
theorem V1.vs {s:SV} {v:Value} (h:V1 Z ν s v):VS Z ν s v:=by
 cases s with
 | tup l=>have:CR Z ν (.tup l) [v]:=h;simp only[CR] at this
 | _=>exact h
theorem V1L.get:∀ {l:List SV} {vs:List Value},V1L Z ν l vs->∀ (i:Nat) (s:SV),l[i]?=some s->∃ v,vs[i]?=some v/\V1 Z ν s v
 | [],_,_,i,s,e=>by simp at e
 | a::l,_,⟨v,w,e1,h1,h2⟩,i,s,e=>by
  subst e1
  cases i with
  | zero=>simp at e;subst e;exact ⟨v,rfl,h1⟩
  | succ i=>simp at e;obtain ⟨v',h3,h4⟩:=V1L.get h2 i s e;exact ⟨v',by simpa using h3,h4⟩
theorem VS.tup {l:List SV} {v:Value} (h:VS Z ν (.tup l) v):∃ vs,v=.tuple vs.toArray/\V1L Z ν l vs:=h
theorem qnn {t:TypeId} {z:Value} {fields:Array Field} {places:Array (Nat × Nat)} {parts:Array (Nat × Value)} (hz:qaa P (zeroValue t)=some z) (hf:Ax.flat z=true) (hu:qaa P (underlying t)=some (.struct fields))
  (hm:qaa P (fields.mapM λ f=>do pure (f.offset,<- sizeOf f.type))=some places):qk7 P t parts=(Instr.fill (places[·]?) z.cells parts.toList).map .agg:=by
 unfold qk7;simp only[hz,hf,if_true,hu,hm]
theorem qo7 {t et:TypeId} {z:Value} {n sz:Nat} {parts:Array (Nat × Value)} (hz:qaa P (zeroValue t)=some z) (hf:Ax.flat z=true) (hu:qaa P (underlying t)=some (.array n et))
  (hm:qaa P (sizeOf et)=some sz):qk7 P t parts=(Instr.fill (λ i=>some (i*sz,sz)) z.cells parts.toList).map .agg:=by
 unfold qk7;simp only[hz,hf,if_true,hu,hm]
theorem qx0 (ht:TTOK P tt) (hρ:∀ x s,ρ x=some s->∃ v,ρ' x=some v/\VS Z ν s v) {F:FuncId->Bool} {H:AHeap} {o:Oper} {cs:List Prop} {s:SV} (h:pA tt ρ o=some (cs,s)) (hc:∀ c∈cs,c) :
  ∃ v,aOp P F ρ' H o=some (.val v,H)/\VS Z ν s v:=by
 obtain ⟨dst,op,type,pos,after,guard⟩:=o
 cases op with
 | move x=>
  simp only[pA] at h;rw[Option.bind_eq_some_iff] at h;obtain ⟨s',hs,h⟩:=h;cases h;obtain ⟨v,hv,hvs⟩:=hρ _ _ hs;exact ⟨v,by simp[aOp,hv],hvs⟩
 | assign x=>
  simp only[pA] at h;rw[Option.bind_eq_some_iff] at h;obtain ⟨s',hs,h⟩:=h;cases h;obtain ⟨v,hv,hvs⟩:=hρ _ _ hs;exact ⟨v,by simp[aOp,hv],hvs⟩
 | pick c a b=>
  simp only[pA] at h;split at h
  next t hct=>
   obtain ⟨vc,hvc,hcs⟩:=hρ _ _ hct;rw[hcs.bool] at hvc;split at h
   next x y ha hb=>
    cases h;obtain ⟨va,hva,has⟩:=hρ _ _ (qb7 ha);obtain ⟨vb,hvb,hbs⟩:=hρ _ _ (qb7 hb);rw[has.bool] at hva;rw[hbs.bool] at hvb;cases t
    ·exact ⟨_,by simp[aOp,hvc,hvb],VS.mkBool⟩
    ·exact ⟨_,by simp[aOp,hvc,hva],VS.mkBool⟩
   next k x k' y ha hb=>
    split at h
    next hk=>
     subst hk;cases h;obtain ⟨va,hva,has⟩:=hρ _ _ (qb7 ha);obtain ⟨vb,hvb,hbs⟩:=hρ _ _ (qb7 hb);rw[has.int] at hva;rw[hbs.int] at hvb;cases t
     ·exact ⟨_,by simp[aOp,hvc,hvb],VS.mkInt⟩
     ·exact ⟨_,by simp[aOp,hvc,hva],VS.mkInt⟩
    ·cases h
   next x ha hb=>cases h;have ht':t=true:=hc _ (by simp);subst ht';obtain ⟨va,hva,has⟩:=hρ _ _ (qb7 ha);exact ⟨_,by simp[aOp,hvc,hva],has⟩
   next y ha hb=>cases h;have ht':t=false:=hc _ (by simp);subst ht';obtain ⟨vb,hvb,hbs⟩:=hρ _ _ (qb7 hb);exact ⟨_,by simp[aOp,hvc,hvb],hbs⟩
   ·cases h
  ·cases h
 | build t parts=>
  simp only[pA] at h;split at h
  next ps ti hps hti=>
   split at h
   next hnt=>
    obtain ⟨vs,hvs,hpv⟩:=qfb hρ hps;obtain ⟨z,hz,hzf,hzc,hzs,_⟩:=(ht _ _ hti).zero;split at h
    next fs z0 hk=>
     split at h
     next l hl=>cases h;have hkk:=(ht _ _ hti).kind;rw[hk] at hkk;simp only[KOK] at hkk;obtain ⟨fields,places,hu,_,hm,hpl⟩:=hkk;obtain ⟨out,ho,hout⟩:=qge ht hpl hl (qm1 hnt) hpv (hzc Z ν);refine ⟨.agg out,?_,⟨out.toList,by simp,hout⟩⟩;have:=qnn (parts:=vs.toArray) hz hzf hu hm;simp only[aOp,hvs,Option.bind_some,this,ho,Option.map_some]
     ·cases h
    next n et n2 e z0 hk hzz=>
     split at h
     next te l hte hl=>
      split at h
      next hsz=>cases h;have hkk:=(ht _ _ hti).kind;rw[hk] at hkk;simp only[KOK] at hkk;have hz1:=hzc Z ν;rw[hzz] at hz1;have hz2:=hz1.single_inv;simp only[CR,RV] at hz2;obtain ⟨out,ho,hout,hlen⟩:=qdv hl (qm1 hnt) hpv hz2.2;have:=qo7 (parts:=vs.toArray) hz hzf hkk (ht _ _ hte).size;rw[hsz] at this;refine ⟨.agg out,by simp only[aOp,hvs,Option.bind_some,this,ho,Option.map_some],⟨out.toList,by simp,?_⟩⟩;simp only[RV];exact ⟨by rw[hlen];exact hz2.1,hout⟩
      ·cases h
     ·cases h
    ·cases h
   ·cases h
  ·cases h
 | nilCheck x=>
  simp only[pA] at h;split at h
  next id off hx=>cases h;obtain ⟨v,hv,hvs⟩:=hρ _ _ hx;obtain ⟨ni,h1,rfl⟩:=hvs.ptr;exact ⟨_,by simp[aOp,hv],hvs⟩
  next e0 id i0 off hx=>cases h;obtain ⟨v,hv,hvs⟩:=hρ _ _ hx;obtain ⟨ni,h1,rfl⟩:=hvs.elp;exact ⟨_,by simp[aOp,hv],hvs⟩
  next f a c hx=>cases h;obtain ⟨v,hv,hvs⟩:=hρ _ _ hx;obtain ⟨va,vc,rfl,_⟩:=hvs.fn;exact ⟨_,by simp[aOp,hv],hvs⟩
  ·cases h
 | binOp op t x y yt=>
  simp only[pA] at h;split at h
  next a b ha hb=>obtain ⟨va,hva,has⟩:=hρ _ _ ha;obtain ⟨vb,hvb,hbs⟩:=hρ _ _ hb;obtain ⟨v,hv,hvs⟩:=qsk (xo:=x) (yo:=y) ht h hc has hbs;exact ⟨v,by simp[aOp,hva,hvb,hv],hvs⟩
  ·cases h
 | unOp op t x=>
  simp only[pA] at h;split at h
  next b hb=>cases h;obtain ⟨v,hv,hvs⟩:=hρ _ _ hb;rw[hvs.bool] at hv;exact ⟨_,by simp[aOp,hv,flat,Op.unary,qac],VS.mkBool⟩
  next k n hb=>cases h;obtain ⟨v,hv,hvs⟩:=hρ _ _ hb;rw[hvs.int] at hv;exact ⟨.int k (k.wrap (0-n)),by simp[aOp,hv,flat,Op.unary,Op.intArith,qac],VS.mkInt⟩
  ·cases h
 | convert t d x=>
  simp only[pA] at h;split at h
  next k0 k k1 n hk0 hk hx=>
   cases h;obtain ⟨v,hv,hvs⟩:=hρ _ _ hx;rw[hvs.int] at hv;have h0:=ht.kind hk0;have h1:=ht.kind hk;simp only[KOK] at h0 h1;have hi:qgi P t=true:=by simp[qgi,h0]
   have:qaa P (convert t d (.int k1 n))=some (.int k (k.wrap n)):=by
    simp[convert,qad,qac,h0,h1,Conv.intToInt]
   exact ⟨_,by simp[aOp,hv,hi,qw0,this,flat],VS.mkInt⟩
  ·cases h
 | makeInterface t x=>
  simp only[pA] at h;split at h
  next fs s hk hx=>
   split at h
   ·cases h
   next hnt=>
    cases h;obtain ⟨v,hv,hvs⟩:=hρ _ _ hx;have hkk:=ht.kind hk;simp only[KOK] at hkk;obtain ⟨fields,places,hu,_,_,_⟩:=hkk;have hnt':qen s=false:=by cases h:qen s <;> simp_all
    have hv1:=hvs.v1 (λ l e=>by subst e;simp[qen] at hnt');refine ⟨.iface t v,by simp[aOp,hv,hu],VS.of_one ?_ rfl⟩;simp only[CR];refine ⟨v.cells.toList,v,hv1.items,rfl,?_⟩
    cases s with
    | agg l=>obtain ⟨vs,rfl,_⟩:=hv1;simp[qg0,Value.cells]
    | arr n e l=>obtain ⟨vs,rfl,_⟩:=hv1;simp[qg0,Value.cells]
    | tup l=>simp[qen] at hnt'
    | _=>
     have h1:=V1.one hv1 (by intros;simp) (by intros;simp);simp only[qg0];rw[h1.oneCells (by intros;simp) (by intros;simp)]
  next pe id o hk hx=>cases h;obtain ⟨v,hv,hvs⟩:=hρ _ _ hx;have hkk:=ht.kind hk;simp only[KOK] at hkk;refine ⟨.iface t v,by simp[aOp,hv,hkk],VS.of_one ?_ rfl⟩;simp only[CR];exact ⟨[v],v,CRL.single (s:=.ptr id o) hvs,rfl,rfl⟩
  ·cases h
 | makeFunc fn a c=>
  cases fn with
  | func f=>
   simp only[pA] at h;split at h
   next x y hx hy=>
    split at h
    next ho=>cases h;simp only[Bool.and_eq_true] at ho;obtain ⟨vx,hvx,hxs⟩:=qaw hρ hx;obtain ⟨vy,hvy,hys⟩:=qaw hρ hy;refine ⟨.func (.func f) vx.toArray vy.toArray,by simp[aOp,hvx,hvy],VS.of_one ?_ rfl⟩;simp only[CR];exact ⟨vx,vy,rfl,hxs.cro ho.1,hys.cro ho.2⟩
    ·cases h
   ·cases h
  | _=>simp only[pA] at h;cases h
 | fieldAddr t x f=>
  simp only[pA] at h;split at h
  next p fs hp hk=>
   split at h
   next off ft hf=>
    split at h
    next ti hti=>
     split at h
     ·cases h
     next hn=>obtain ⟨v,hv,hvs⟩:=hρ _ _ hp;obtain ⟨b,o,rfl,hs⟩:=qnc h hvs;exact ⟨_,by simp[aOp,hv,qou (ht.kind hk) hf (ht _ _ hti) hn],hs⟩
    ·cases h
   ·cases h
  ·cases h
 | field t x f=>
  simp only[pA] at h;split at h
  next l fs hp hk=>
   split at h
   next off ft hf=>
    split at h
    next ti hti=>
     split at h
     next r hr=>rw[Option.bind_eq_some_iff] at h;obtain ⟨s',hm,h⟩:=h;cases h;obtain ⟨v,hv,hvs⟩:=hρ _ _ hp;obtain ⟨y,hy,hys⟩:=qyn (ht.kind hk) hf (ht _ _ hti) hvs hr hm;exact ⟨y,by simp[aOp,hv,hy],hys⟩
     ·cases h
    ·cases h
   ·cases h
  ·cases h
 | indexAddr t x i=>
  have h':=h;simp only[pA] at h'
  cases hx:ρ x with
  | none=>rw[hx] at h';simp at h'
  | some a=>
   cases hi:ρ i with
   | none=>rw[hx,hi] at h';simp at h'
   | some b=>
    obtain ⟨v,hv,hvs⟩:=hρ _ _ hx;obtain ⟨w,hw,hws⟩:=hρ _ _ hi;obtain ⟨r,hr,hrs⟩:=qdh ht (o:=⟨dst,.indexAddr t x i,type,pos,after,guard⟩) rfl hx hi h hc hvs hws;exact ⟨r,by simp[aOp,hv,hw,hr],hrs⟩
 | index t x i=>
  have h':=h;simp only[pA] at h'
  cases hx:ρ x with
  | none=>rw[hx] at h';simp at h'
  | some a=>
   cases hi:ρ i with
   | none=>rw[hx,hi] at h';simp at h'
   | some b=>
    obtain ⟨v,hv,hvs⟩:=hρ _ _ hx;obtain ⟨w,hw,hws⟩:=hρ _ _ hi;obtain ⟨r,hr,hrs⟩:=qgv ht (o:=⟨dst,.index t x i,type,pos,after,guard⟩) rfl hx hi h hc hvs hws;exact ⟨r,by simp[aOp,hv,hw,hr],hrs⟩
 | extract t i=>
  simp only[pA] at h;split at h
  next l hl=>rw[Option.bind_eq_some_iff] at h;obtain ⟨s',hs,h⟩:=h;cases h;obtain ⟨v,hv,hvs⟩:=hρ _ _ hl;obtain ⟨vs,rfl,hvl⟩:=hvs.tup;obtain ⟨v,h1,h2⟩:=hvl.get _ _ hs;exact ⟨v,by simp[aOp,hv,h1],h2.vs⟩
  ·cases h
 | call c=>
  simp only[pA] at h;split at h
  next hcal=>
   split at h
   next x k hx hk=>
    split at h
    next n hn=>cases h;obtain ⟨vs,hvs,hl⟩:=qaw hρ hx;obtain ⟨v,rfl,hv⟩:=hl.one1;have:=qsj (t:=type) ht hk hn hv;exact ⟨_,by simp[aOp,qh7,hcal,hvs,qc5,this],VS.mkInt⟩
    ·cases h
   ·cases h
  next hcal=>
   split at h
   next k a k' b hx=>
    cases h;obtain ⟨vs,hvs,hl⟩:=qaw hρ hx;obtain ⟨v,w,rfl,hv,hw⟩:=hl.one2;rw[hv.int,hw.int] at hvs;refine ⟨.int k (if b<a then b else a),by simp[aOp,qh7,hcal,hvs,qc5,qbd,flat,Builtin.min_,Builtin.min2,qac],?_⟩;rw[show (if b<a then b else a)=min a b by split <;> omega]
    exact VS.mkInt
   ·cases h
  next hcal=>
   split at h
   next k a k' b hx=>
    cases h;obtain ⟨vs,hvs,hl⟩:=qaw hρ hx;obtain ⟨v,w,rfl,hv,hw⟩:=hl.one2;rw[hv.int,hw.int] at hvs;refine ⟨.int k (if b > a then b else a),by simp[aOp,qh7,hcal,hvs,qc5,qbd,flat,Builtin.max_,Builtin.max2,qac],?_⟩;rw[show (if b > a then b else a)=max a b by split <;> omega]
    exact VS.mkInt
   ·cases h
  ·cases h
 | _=>simp only[pA] at h;cases h
end
end Go.Px
