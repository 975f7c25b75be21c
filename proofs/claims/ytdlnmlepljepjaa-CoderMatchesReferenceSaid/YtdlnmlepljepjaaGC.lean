/-
  A part of the proof: a run over an abstract memory, its soundness and its rules; each theorem says its conditions.
-/
import Derived.Test.YtdlnmlepljepjaaGB
set_option linter.unusedVariables false
set_option linter.unusedSimpArgs false
namespace Go.Ax
def RdR (M:Map):Option Nat->Option Nat->Prop
 | none,r=>r=none
 | some l,r=>∃ b,M[l]?=some b/\r=some b.real
theorem RdR.mono {M M':Map} (h:Ext M M') {x y:Option Nat} (k:RdR M x y):RdR M' x y:=by
 cases x with
 | none=>exact k
 | some l=>obtain ⟨b,hb,e⟩:=k;exact ⟨b,h _ _ hb,e⟩
def FrOK (M:Map) (fs:FrS) (b:Frame):Prop:=b.fn=fs.fn/\b.kind=.normal/\RdR M fs.rd b.roundOf
theorem FrOK.mono {M M':Map} (h:Ext M M') {fs:FrS} {b:Frame} (k:FrOK M fs b):FrOK M' fs b:=⟨k.1,k.2.1,k.2.2.mono h⟩
def DR (M:Map):List Nat->List Deferred->Prop
 | [],ds=>ds=[]
 | i::l,ds=>∃ b ds',M[i]?=some b/\ds={ target:=.collected b.real,args:=#[] }::ds'/\DR M l ds'
theorem DR.mono {M M':Map} (h:Ext M M'):∀ {l:List Nat} {ds:List Deferred},DR M l ds->DR M' l ds
 | [],_,k=>k
 | _::_,_,⟨b,ds',hb,e,k⟩=>⟨b,ds',h _ _ hb,e,DR.mono h k⟩
structure SR (base:Prot) (M:Map) (n:Nat) (s:AS) (a:Act) (w:World):Prop where
 er:ER M n s.env a.tmps
 dr:DR M s.defs a.defers
 rel:Rel base M s.H w
def Arr (P:Program) (m:Machine) (b:Frame) (k:List Item) (cs:List Frame):AExit->Act->World->Prop
 | .normal,a,w=>Steps P m (lone (Fr b a k) cs w)
 | .exit id,a,w=>∃ k0,Steps P m (lone (Fr b a (.code (.exit id)::k0)) cs w)/\exitTo id k0=exitTo id k
 | .goto l,a,w=>∃ k0,Steps P m (lone (Fr b a (.code (.goto l)::k0)) cs w)/\gotoIn l k0=gotoIn l k
 | .ret,a,w=>∃ k0,Steps P m (lone (Fr b a (.code .ret::k0)) cs w)
def q0m (P:Program) (base:Prot):Req->Res->Prop
 | .code fs c s,.exit e s'=>∀ M b a k cs w,FrOK M fs b->SR base M fs.n s a w->∃ M' a' w',Ext M M'/\SR base M' fs.n s' a' w'/\Below base w w'/\Arr P (lone (Fr b a (.code c::k)) cs w) b k cs e a' w'
 | .again fs c s,.exit e s'=>∀ M b a k cs w,FrOK M fs b->SR base M fs.n s a w->∃ M' a' w',Ext M M'/\SR base M' fs.n s' a' w'/\Below base w w'/\Arr P (lone (Fr b a (.inLoop c::k)) cs w) b k cs e a' w'
 | .scope fs body rest s,.exit e s'=>∀ M b a k cs w,FrOK M fs b->SR base M fs.n s a w->∃ M' a' w',Ext M M'/\SR base M' fs.n s' a' w'/\Below base w w'/\Arr P (lone (Fr b a (.code rest::.inScope body::k)) cs w) b k cs e a' w'
 | .call f args H,.value v H'=>∀ M args' w cs,VRA M args args'->Rel base M H w->∃ M' w' v' fr',Ext M M'/\VR M' v v'/\Rel base M' H' w'/\Below base w w' /\
   Steps P (lone (Frame.enter P f args' .normal) cs w) (lone fr' cs w')/\fr'.fn=f/\fr'.leaving P w' (.returned v')
 | .round l args H,.value v H'=>∀ M b args' w c cs,M[l]?=some b->VRA M args args'->Rel base M H w->∃ M' w' v' fn tmps assign body,(Instr.yield b.real args').run P w=.ok (.round b.real fn tmps assign body) w /\
   Ext M M'/\VR M' v v'/\Rel base M' H' w'/\Below base w w'/\Steps P (lone (Frame.round b.real fn tmps assign body .normal) (c::cs) w) (lone (c.finish v') cs w')
 | _,_=>False
section
variable {P:Program} {F:FuncId->Bool} {ev:Req->Option Res} {ops:Array Oper} {n:Nat} {base:Prot}
theorem qb4 {M:Map} {E:T Value} {a:Act} (h:ER M n E a.tmps) (hg:∀ g,g<qla->M[g]?=some { real:=g }) (x:Operand) (v:Value) (hv:qcx E x=some v):VR M v (a.eval x):=by
 cases x with
 | tmp t=>
  obtain ⟨r,hr,hvr⟩:=h.2 t v hv;simp only[Act.eval,Array.getD_eq_getD_getElem?,hr,Option.getD_some];exact hvr
 | const c=>
  simp only[qcx] at hv;split at hv
  next hf=>cases hv;exact VR.self hf
  ·cases hv
 | global g=>
  simp only[qcx] at hv;split at hv
  next hl=>cases hv;simp only[VR];exact ⟨_,hg g hl,rfl⟩
  ·cases hv
 | func f=>
  simp only[qcx,Option.some.injEq] at hv;subst hv;exact VR.self rfl
theorem qbs {M:Map} {E E':T Value} {a:Act} {dst:Option Tmp} {v r:Value} (h:ER M n E a.tmps) (hp:putE n dst v E=some E') (hv:VR M v r):ER M n E' (a.put dst r).tmps/\(a.put dst r).defers=a.defers:=by
 cases dst with
 | none=>cases hp;exact ⟨h,rfl⟩
 | some d=>
  simp only[putE] at hp;split at hp
  next hc=>
   cases hp;obtain ⟨hc1,hc2⟩:=hc;refine ⟨⟨by simp[Act.put,h.1],λ t u hu=>?_⟩,rfl⟩;simp only[Act.put];by_cases e:t=d
   ·subst e;rw[T.get_set_same 20 _ _ _ (Nat.lt_trans (Nat.succ_lt_succ hc2) (by decide))] at hu;cases hu;refine ⟨r,?_,hv⟩;rw[Array.getElem?_setIfInBounds];simp[h.1,hc1]
   ·rw[T.get_set_other _ _ _ _ _ e] at hu;obtain ⟨x,hx,hvx⟩:=h.2 t u hu;refine ⟨x,?_,hvx⟩;rw[Array.getElem?_setIfInBounds_ne (λ e'=>e e'.symm)];exact hx
  ·cases hp
theorem qci {M:Map} {E:T Value} {a:Act} {o:Oper} {t:Bool} (h:ER M n E a.tmps) (hw:qak ops o E=some t):Region.wanted o (yielded ops a.tmps)=t:=by
 unfold qak at hw;unfold Region.wanted;split at hw
 next hg=>cases hw;rw[hg]
 next j want hg=>
  rw[hg];simp only;rw[Option.map_eq_some_iff] at hw;obtain ⟨y,hy,rfl⟩:=hw;have:yielded ops a.tmps j=y:=by
   unfold qi6 at hy;unfold yielded;split at hy
   next d hd=>
    rw[hd];simp only[Option.bind_some];split at hy
    next b hb=>cases hy;obtain ⟨r,hr,hv⟩:=h.2 _ _ hb;simp only[VR] at hv;subst hv;rw[hr]
    next cs hb=>cases hy;obtain ⟨r,hr,hv⟩:=h.2 _ _ hb;simp only[VR] at hv;obtain ⟨cs',_,rfl⟩:=hv;rw[hr]
    ·cases hy
   ·cases hy
  rw[this]
theorem qck {ρ:Operand->Option Value} {H H':AHeap} {o:Oper} {r:ANext} (h:aOp P F ρ H o=some (r,H')) (c:Call):o.op≠.defer c:=by
 intro e;simp only[aOp,e] at h;cases h
theorem qa0 (hF:∀ f,F f=true->∀ args w,(callFunc f args).run P w=.ok (.enter f args) w) (hev:∀ r res,ev r=some res->q0m P base r res)
  {i:Nat} {rest:List Nat} {E E':T Value} {H H':AHeap} (h:qbm P F ev n ops i (E,H)=some (E',H')) {M:Map} {a:Act} {w:World} (her:ER M n E a.tmps) (hrel:Rel base M H w) (b:Frame) (k:List Item) (cs:List Frame) :
  ∃ M' a' w',Ext M M'/\ER M' n E' a'.tmps/\a'.defers=a.defers/\Rel base M' H' w'/\Below base w w'/\Steps P (lone (Fr b a (.inRegion ops (i::rest)::k)) cs w) (lone (Fr b a' (.inRegion ops rest::k)) cs w'):=by
 unfold qbm at h
 cases ho:ops[i]? with
 | none=>rw[ho] at h;cases h
 | some o=>
  rw[ho] at h;simp only at h;rw[Option.bind_eq_some_iff] at h;obtain ⟨⟨v,H1⟩,he,h⟩:=h;rw[Option.map_eq_some_iff] at h;obtain ⟨E1,hp,e⟩:=h;cases e;simp only at hp;unfold qhm at he
  cases hw:qak ops o E with
  | none=>rw[hw] at he;cases he
  | some t=>
   rw[hw] at he;have hwr:=qci her hw
   cases t with
   | false=>
    cases he;obtain ⟨h1,h2⟩:=qbs her hp (VR.self (M:=M) (v:=undef) rfl)
    refine ⟨M,a.put o.dst undef,w,Ext.refl M,h1,h2,hrel,Below.refl _ _,?_⟩;have:=qsd (P:=P) (b:=b) (a:=a) (k:=k) (cs:=cs) (w:=w) (ops:=ops) (i:=i) (rest:=rest) (by simp[ho,hwr]);simp only[ho,Option.bind_some] at this;exact .one this
   | true=>
    simp only at he
    cases ha:aOp P F (qcx E) H o with
    | none=>rw[ha] at he;cases he
    | some r=>
     obtain ⟨r,H2⟩:=r;rw[ha] at he;have hnd:=qck ha;have hs:=qfs (P:=P) hrel hF (qb4 her hrel.glob) ha
     cases r with
     | val v0=>
      cases he;obtain ⟨M',w',r,hr,hext,hv,hrel',hbel⟩:=hs
      obtain ⟨h1,h2⟩:=qbs (her.mono hext) hp hv;exact ⟨M',_,w',hext,h1,h2,hrel',hbel,.one (st_op ho hwr hnd hr)⟩
     | skip=>
      cases he;obtain ⟨w',hr,hrel',hbel⟩:=hs
      obtain ⟨h1,h2⟩:=qbs her hp (VR.self (M:=M) (v:=undef) rfl);exact ⟨M,_,w',Ext.refl M,h1,h2,hrel',hbel,.one (qsc ho hwr hnd hr)⟩
     | enter f args=>
      simp only at he;obtain ⟨args',hr,hva,hrel'⟩:=hs;split at he
      next v0 H3 hc=>cases he;obtain ⟨M',w',v',fr',hext,hv,hrel2,hbel,hst,hfn,hlv⟩:=hev _ _ hc M args' w (Fr b a (.inRegion ops (i::rest)::k)::cs) hva hrel';obtain ⟨h1,h2⟩:=qbs (her.mono hext) hp hv;refine ⟨M',a.put o.dst v',w',hext,h1,h2,hrel2,hbel,.head (qef ho hwr hnd hr) (hst.trans (.one ?_))⟩;have:=step_leave_returned (c:=Fr b a (.inRegion ops (i::rest)::k)) (cs:=cs) hlv;rw[this,Fr.finish,ho];rfl
      ·cases he
     | yld l args=>
      simp only at he;obtain ⟨bi,args',hb,hva,hrel',hr⟩:=hs;split at he
      next v0 H3 hc=>
       cases he;obtain ⟨M',w',v',fn,tmps,assign,body,hy,hext,hv,hrel2,hbel,hst⟩:=hev _ _ hc M bi args' w (Fr b a (.inRegion ops (i::rest)::k)) cs hb hva hrel';obtain ⟨h1,h2⟩:=qbs (her.mono hext) hp hv;refine ⟨M',a.put o.dst v',w',hext,h1,h2,hrel2,hbel,.head (qj7 ho hwr hnd (hr.trans hy)) ?_⟩;have:(Fr b a (.inRegion ops (i::rest)::k)).finish v'=Fr b (a.put o.dst v') (.inRegion ops rest::k):=by rw[Fr.finish,ho];rfl
       rw[this] at hst;exact hst
      ·cases he
end
section
variable {P:Program} {F:FuncId->Option Func} {ev:Req->Option Res} {base:Prot}
theorem run_getLoop {w:World} {l:Nat} {L:Loop} (h:w.heap[l]?=some (.loop L)):(Instr.getLoop l).run P w=.ok L w:=by
 simp[Instr.getLoop,qc6 h (by simp)]
end
section
variable {P:Program} {F:FuncId->Option Func} {base:Prot}
theorem qcl:∀ (l:List Value) (k:Nat) (E:T Value) (t:Nat) (u:Value),k+l.length<500000->(qda k l E).get t=some u->(∃ i,t=k+i/\l[i]?=some u)\/(E.get t=some u)
 | [],_,_,_,_,_,h=>.inr h
 | v::l,k,E,t,u,hk,h=>by
  simp only[qda] at h;simp only[List.length_cons] at hk;rcases qcl l (k+1) _ t u (by omega) h with ⟨i,rfl,hi⟩ | h
  ·exact .inl ⟨i+1,by omega,by simpa using hi⟩
  ·by_cases e:t=k
   ·subst e
    rw[T.get_set_same 20 _ _ _ (by have:(2:Nat) ^ 20=1048576:=by decide
                                   omega)] at h
    cases h;exact .inl ⟨0,by omega,rfl⟩
   ·rw[T.get_set_other _ _ _ _ _ e] at h;exact .inr h
theorem qrs {M:Map} {args args':Array Value} (h:VRA M args args') {n:Nat} (hn:args.size<=n) (hs:args.size<1000):ER M n (qda 0 args.toList .nil) (args'++Array.replicate (n-args'.size) undef):=by
 rw[VRA.iff] at h;have hl:=h.length;simp only[Array.length_toList] at hl;refine ⟨by simp;omega,λ t u hu=>?_⟩;rcases qcl _ _ _ _ _ (by simp;omega) hu with ⟨i,rfl,hi⟩ | hu
 ·obtain ⟨r,hr,hv⟩:=h.get i u hi;refine ⟨r,?_,hv⟩;have hr':args'[i]?=some r:=by simpa using hr
  have:i<args'.size:=(Array.getElem?_eq_some_iff.1 hr').1;rw[Array.getElem?_append_left (by omega)];simpa using hr'
 ·simp[T.get] at hu
theorem run_takeDeferred {w:World} {r:Nat} (h:w.heap[r]?=some (.deferred (some []))):(Instr.takeDeferred r).run P w=.ok [] { w with heap:=w.heap.setIfInBounds r (.deferred none) }:=by
 simp[Instr.takeDeferred,qc6 h (by simp),qd1 h (by simp)]
theorem qg5 {M:Map} {b:Frame} {k:List Item} {cs:List Frame}:∀ (ds:List Nat) (H H2:AHeap) (a:Act) (w:World),qj2 H ds=some H2->DR M ds a.defers->Rel base M H w ->
  ∃ w',Rel base M H2 w'/\Below base w w'/\Steps P (lone { Fr b a k with mode:=.returning } cs w) (lone { Fr b { a with defers:=[] } k with mode:=.returning } cs w')
 | [],H,H2,a,w,h,hd,hrel=>by
  cases h;obtain ⟨tm,df⟩:=a;simp only[DR] at hd;subst hd;exact ⟨w,hrel,Below.refl _ _,.refl _ _⟩
 | d::ds,H,H2,a,w,h,hd,hrel=>by
  simp only[qj2] at h;split at h
  next hget=>
   split at h
   next hid=>obtain ⟨bi,ds',hb,e,hd⟩:=hd;obtain ⟨hbb,hcell⟩:=hrel.blk _ _ _ hb hget;have hlt:=hrel.lt _ _ _ hb hget;have ht:=qca w bi.real (.deferred none);have hrel2:=hrel.put (y:=.deferred false) hb hget rfl rfl hid ht.size ht.other ⟨hbb,qc9 _ hlt⟩;obtain ⟨tm,df⟩:=a;simp only at e;subst e;obtain ⟨w',r1,r2,r3⟩:=qg5 (b:=b) (k:=k) (cs:=cs) ds _ H2 { tmps:=tm,defers:=ds' } _ h hd hrel2;exact ⟨w',r1,(ht.below hbb).trans r2,.head (qnx (a:={ tmps:=tm,defers:=[] }) (run_takeDeferred hcell)) r3⟩
   ·cases h
  ·cases h
def resG (tm:Array Value):ResultVar->Sem Value
 | .tmp t=>pure (tm.getD t undef)
 | .cell a t=>do loadVar t (<- asAddr (tm.getD a undef))
theorem qse (fn:Func) (tm:Array Value):results fn tm=(do let vs <- fn.results.mapM (resG tm);pure (if h:vs.size=1 then vs[0] else .tuple vs)):=by
 unfold results
 congr 2
theorem qio {M:Map} {H:AHeap} {w:World} {E:T Value} {n:Nat} {tm:Array Value} (her:ER M n E tm) (hrel:Rel base M H w):∀ (rs:List ResultVar) (vs:List Value),qbw (rs.map (qka P E H))=some vs ->
  ∃ vs',(rs.mapM (resG tm)).run P w=.ok vs' w/\VRL M vs vs'
 | [],vs,h=>by simp only[List.map_nil,qbw,Option.some.injEq] at h;subst h;exact ⟨[],rfl,.nil⟩
 | r::rs,vs,h=>by
  simp only[List.map_cons] at h
  cases hr:qka P E H r with
  | none=>rw[hr] at h;cases h
  | some v=>
   rw[hr] at h;simp only[qbw,Option.map_eq_some_iff] at h;obtain ⟨vs2,h2,rfl⟩:=h;obtain ⟨vs',hr',hv'⟩:=qio her hrel rs vs2 h2;have one:∃ v',(resG tm r).run P w=.ok v' w/\VR M v v':=by
    cases r with
    | tmp t=>
     obtain ⟨x,hx,hvx⟩:=her.2 t v hr;exact ⟨x,by simp[resG,Array.getD_eq_getD_getElem?,hx],hvx⟩
    | cell a t=>
     simp only[qka] at hr;split at hr
     next p hp=>
      obtain ⟨x,hx,hvx⟩:=her.2 a p hp
      cases p with
      | pointer q=>
       cases q with
       | none=>simp[qjk] at hr
       | some q=>
        simp only[VR] at hvx;obtain ⟨bi,hb,rfl⟩:=hvx;obtain ⟨y,hy,hvy⟩:=qhs (P:=P) hrel hr hb;exact ⟨y,by simp[resG,Array.getD_eq_getD_getElem?,hx,asAddr,hy],hvy⟩
      | _=>simp[qjk] at hr
     ·cases hr
   obtain ⟨v',h1,h3⟩:=one;refine ⟨v'::vs',?_,.cons h3 hv'⟩;rw[List.mapM_cons];simp only[Sem.run_bind];rw[h1];simp only[Result.andThen_ok];rw[hr'];rfl
theorem qhd {M:Map} {H:AHeap} {w:World} {E:T Value} {n:Nat} {tm:Array Value} (her:ER M n E tm) (hrel:Rel base M H w) {fn:Func} {vs:List Value} (h:qbw (fn.results.toList.map (qka P E H))=some vs) :
  ∃ v',(results fn tm).run P w=.ok v' w/\VR M (qgq vs) v':=by
 obtain ⟨vs',hr,hv⟩:=qio (P:=P) her hrel _ _ h;refine ⟨if h:vs'.toArray.size=1 then vs'.toArray[0] else .tuple vs'.toArray,?_,?_⟩
 ·rw[qse,Array.mapM_eq_mapM_toList];simp only[Sem.run_bind,Sem.run_map];rw[hr];rfl
 ·match vs,vs',hv with
  | [],[],hv=>simp only[qgq];simp[VR,VRA,VRL]
  | [v],[v'],hv=>obtain ⟨x,l,hx,_,e⟩:=hv.cases;cases e;simpa [qgq] using hx
  | v::u::l,v'::u'::l',hv=>
   simp only[qgq];have:¬ (v'::u'::l').toArray.size=1:=by simp
   rw[dif_neg this];simp only[VR];exact ⟨_,VRA.iff.2 (by simpa using hv),rfl⟩
  | [],v'::l',hv=>have:=hv.length;simp at this
  | [v],[],hv=>have:=hv.length;simp at this
  | [v],v'::u'::l',hv=>have:=hv.length;simp at this
  | v::u::l,[],hv=>have:=hv.length;simp at this
  | v::u::l,[v'],hv=>have:=hv.length;simp at this
theorem run_beginRound {w:World} {l:Nat} {L:Loop} (h:w.heap[l]?=some (.loop L)) (hs:L.state=.ready) :
  (Instr.beginRound l).run P w=.ok () { w with heap:=w.heap.setIfInBounds l (.loop { L with state:=.busy }) }:=by
 simp[Instr.beginRound,run_getLoop h,qd1 h (by simp),hs]
end
section
variable {P:Program} {F:FuncId->Option Func} {base:Prot}
end
theorem qgk {P : Program} {f : FuncId} {fn : Func} (hf : P.funcs[f]? = some fn) (hn : (fn.name == "runtime.NumGoroutine") = false) (hb : fn.body.isSome = true) (args : Array Value) (w : World) :
  (callFunc f args).run P w=.ok (.enter f args) w:=by
 have hn' : ¬ fn.name = "runtime.NumGoroutine" := by simpa using hn
 have hb':¬ fn.body=none:=by cases h:fn.body <;> simp_all
 simp[callFunc,hf,hn',hb']
section
variable {P:Program} {F:FuncId->Bool} {ev ev':Req->Option Res} {ops:Array Oper} {n:Nat}
end
section
variable {P:Program} {F:FuncId->Option Func} {ev ev':Req->Option Res}
end
end Go.Ax
