/-
  A part of the proof: a run over an abstract memory, its soundness and its rules; each theorem says its conditions.
-/
import Derived.Test.YthejkhpeokeccaaDoorGB
set_option linter.unusedVariables false
set_option linter.unusedSimpArgs false
namespace Go.Ax
def RdR (M:Map):Option Nat->Option Nat->Prop
 | none,r=>r=none
 | some l,r=>∃ b,M[l]?=some b/\r=some b.real
theorem RdR.mono {M M':Map} (h:Ext M M') {x y:Option Nat} (k:RdR M x y):RdR M' x y:=by
 cases x with
 | none=>exact k
 | some l=>obtain ⟨b,hb,e⟩:=k;exact ⟨b,h _ _ hb,e⟩
def FrOK (M:Map) (fs:FrS) (b:Frame):Prop:=b.fn=fs.fn/\b.kind=.normal/\RdR M fs.rd b.roundOf
theorem FrOK.mono {M M':Map} (h:Ext M M') {fs:FrS} {b:Frame} (k:FrOK M fs b):FrOK M' fs b:=⟨k.1,k.2.1,k.2.2.mono h⟩
def DR (M:Map):List Nat->List Deferred->Prop
 | [],ds=>ds=[]
 | i::l,ds=>∃ b ds',M[i]?=some b/\ds={ target:=.collected b.real,args:=#[] }::ds'/\DR M l ds'
theorem DR.mono {M M':Map} (h:Ext M M'):∀ {l:List Nat} {ds:List Deferred},DR M l ds->DR M' l ds
 | [],_,k=>k
 | _::_,_,⟨b,ds',hb,e,k⟩=>⟨b,ds',h _ _ hb,e,DR.mono h k⟩
structure SR (base:Prot) (M:Map) (n:Nat) (s:AS) (a:Act) (w:World):Prop where
 er:ER M n s.env a.tmps
 dr:DR M s.defs a.defers
 rel:Rel base M s.H w
def Arr (P:Program) (m:Machine) (b:Frame) (k:List Item) (cs:List Frame):AExit->Act->World->Prop
 | .normal,a,w=>Steps P m (lone (Fr b a k) cs w)
 | .exit id,a,w=>∃ k0,Steps P m (lone (Fr b a (.code (.exit id)::k0)) cs w)/\exitTo id k0=exitTo id k
 | .goto l,a,w=>∃ k0,Steps P m (lone (Fr b a (.code (.goto l)::k0)) cs w)/\gotoIn l k0=gotoIn l k
 | .ret,a,w=>∃ k0,Steps P m (lone (Fr b a (.code .ret::k0)) cs w)
theorem Arr.of_steps {P:Program} {m m1:Machine} {b:Frame} {k:List Item} {cs:List Frame} {e:AExit} {a:Act} {w:World} (h:Steps P m m1) (h':Arr P m1 b k cs e a w):Arr P m b k cs e a w:=by
 cases e with
 | normal=>exact h.trans h'
 | exit id=>obtain ⟨k0,hs,he⟩:=h';exact ⟨k0,h.trans hs,he⟩
 | goto l=>obtain ⟨k0,hs,he⟩:=h';exact ⟨k0,h.trans hs,he⟩
 | ret=>obtain ⟨k0,hs⟩:=h';exact ⟨k0,h.trans hs⟩
def qxk:Item->Bool
 | .inBlock _ | .inScope _=>false
 | _=>true
theorem Arr.pass {P:Program} {m:Machine} {b:Frame} {x:Item} {k:List Item} {cs:List Frame} {e:AExit} {a:Act} {w:World} (hx:qxk x=true) (he:e≠.normal) (h:Arr P m b (x::k) cs e a w):Arr P m b k cs e a w:=by
 cases e with
 | normal=>exact absurd rfl he
 | exit id=>obtain ⟨k0,hs,hk⟩:=h;exact ⟨k0,hs,hk.trans (by cases x <;> simp_all [exitTo,qxk])⟩
 | goto l=>obtain ⟨k0,hs,hk⟩:=h;exact ⟨k0,hs,hk.trans (by cases x <;> simp_all [gotoIn,qxk])⟩
 | ret=>exact h
def qfe (P:Program) (base:Prot):Req->Res->Prop
 | .code fs c s,.exit e s'=>∀ M b a k cs w,FrOK M fs b->SR base M fs.n s a w->∃ M' a' w',Ext M M'/\SR base M' fs.n s' a' w'/\Below base w w'/\Arr P (lone (Fr b a (.code c::k)) cs w) b k cs e a' w'
 | .again fs c s,.exit e s'=>∀ M b a k cs w,FrOK M fs b->SR base M fs.n s a w->∃ M' a' w',Ext M M'/\SR base M' fs.n s' a' w'/\Below base w w'/\Arr P (lone (Fr b a (.inLoop c::k)) cs w) b k cs e a' w'
 | .scope fs body rest s,.exit e s'=>∀ M b a k cs w,FrOK M fs b->SR base M fs.n s a w->∃ M' a' w',Ext M M'/\SR base M' fs.n s' a' w'/\Below base w w'/\Arr P (lone (Fr b a (.code rest::.inScope body::k)) cs w) b k cs e a' w'
 | .call f args H,.value v H'=>∀ M args' w cs,VRA M args args'->Rel base M H w->∃ M' w' v' fr',Ext M M'/\VR M' v v'/\Rel base M' H' w'/\Below base w w' /\
   Steps P (lone (Frame.enter P f args' .normal) cs w) (lone fr' cs w')/\fr'.fn=f/\fr'.leaving P w' (.returned v')
 | .round l args H,.value v H'=>∀ M b args' w c cs,M[l]?=some b->VRA M args args'->Rel base M H w->∃ M' w' v' fn tmps assign body,(Instr.yield b.real args').run P w=.ok (.round b.real fn tmps assign body) w /\
   Ext M M'/\VR M' v v'/\Rel base M' H' w'/\Below base w w'/\Steps P (lone (Frame.round b.real fn tmps assign body .normal) (c::cs) w) (lone (c.finish v') cs w')
 | _,_=>False
section
variable {P:Program} {F:FuncId->Bool} {ev:Req->Option Res} {ops:Array Oper} {n:Nat} {base:Prot}
theorem qbg {M:Map} {E:T Value} {a:Act} (h:ER M n E a.tmps) (hg:∀ g,g<qjj->M[g]?=some { real:=g }) (x:Operand) (v:Value) (hv:qan E x=some v):VR M v (a.eval x):=by
 cases x with
 | tmp t=>
  obtain ⟨r,hr,hvr⟩:=h.2 t v hv;simp only[Act.eval,Array.getD_eq_getD_getElem?,hr,Option.getD_some];exact hvr
 | const c=>
  simp only[qan] at hv;split at hv
  ·rename_i hf;cases hv;exact VR.self hf
  ·cases hv
 | global g=>
  simp only[qan] at hv;split at hv
  ·rename_i hl;cases hv;simp only[VR];exact ⟨_,hg g hl,rfl⟩
  ·cases hv
 | func f=>
  simp only[qan,Option.some.injEq] at hv;subst hv;exact VR.self rfl
theorem qbo {M:Map} {E E':T Value} {a:Act} {dst:Option Tmp} {v r:Value} (h:ER M n E a.tmps) (hp:putE n dst v E=some E') (hv:VR M v r):ER M n E' (a.put dst r).tmps/\(a.put dst r).defers=a.defers:=by
 cases dst with
 | none=>cases hp;exact ⟨h,rfl⟩
 | some d=>
  simp only[putE] at hp;split at hp
  ·rename_i hc;cases hp;obtain ⟨hc1,hc2⟩:=hc;refine ⟨⟨by simp[Act.put,h.1],fun t u hu=>?_⟩,rfl⟩;simp only[Act.put];by_cases e:t=d
   ·subst e;rw[T.get_set_same 20 _ _ _ (Nat.lt_trans (Nat.succ_lt_succ hc2) (by decide))] at hu;cases hu;refine ⟨r,?_,hv⟩;rw[Array.getElem?_setIfInBounds];simp[h.1,hc1]
   ·rw[T.get_set_other _ _ _ _ _ e] at hu;obtain ⟨x,hx,hvx⟩:=h.2 t u hu;refine ⟨x,?_,hvx⟩;rw[Array.getElem?_setIfInBounds_ne (fun e'=>e e'.symm)];exact hx
  ·cases hp
theorem qcr {M:Map} {E:T Value} {a:Act} {o:Oper} {t:Bool} (h:ER M n E a.tmps) (hw:qaj ops o E=some t):Region.wanted o (yielded ops a.tmps)=t:=by
 unfold qaj at hw;unfold Region.wanted;split at hw
 ·rename_i hg;cases hw;rw[hg]
 ·rename_i j want hg;rw[hg];simp only;rw[Option.map_eq_some_iff] at hw;obtain ⟨y,hy,rfl⟩:=hw;have:yielded ops a.tmps j=y:=by
   unfold qi5 at hy;unfold yielded;split at hy
   ·rename_i d hd;rw[hd];simp only[Option.bind_some];split at hy
    ·rename_i b hb;cases hy;obtain ⟨r,hr,hv⟩:=h.2 _ _ hb;simp only[VR] at hv;subst hv;rw[hr]
    ·rename_i cs hb;cases hy;obtain ⟨r,hr,hv⟩:=h.2 _ _ hb;simp only[VR] at hv;obtain ⟨cs',_,rfl⟩:=hv;rw[hr]
    ·cases hy
   ·cases hy
  rw[this]
theorem qct {ρ:Operand->Option Value} {H H':AHeap} {o:Oper} {r:ANext} (h:aOp P F ρ H o=some (r,H')) (c:Call):o.op≠.defer c:=by
 intro e;simp only[aOp,e] at h;cases h
theorem qbc (hF:∀ f,F f=true->∀ args w,(callFunc f args).run P w=.ok (.enter f args) w) (hev:∀ r res,ev r=some res->qfe P base r res)
  {i:Nat} {rest:List Nat} {E E':T Value} {H H':AHeap} (h:qa7 P F ev n ops i (E,H)=some (E',H')) {M:Map} {a:Act} {w:World} (her:ER M n E a.tmps) (hrel:Rel base M H w) (b:Frame) (k:List Item) (cs:List Frame) :
  ∃ M' a' w',Ext M M'/\ER M' n E' a'.tmps/\a'.defers=a.defers/\Rel base M' H' w'/\Below base w w'/\Steps P (lone (Fr b a (.inRegion ops (i::rest)::k)) cs w) (lone (Fr b a' (.inRegion ops rest::k)) cs w'):=by
 unfold qa7 at h
 cases ho:ops[i]? with
 | none=>rw[ho] at h;cases h
 | some o=>
  rw[ho] at h;simp only at h;rw[Option.bind_eq_some_iff] at h;obtain ⟨⟨v,H1⟩,he,h⟩:=h;rw[Option.map_eq_some_iff] at h;obtain ⟨E1,hp,e⟩:=h;cases e;simp only at hp;unfold qba at he
  cases hw:qaj ops o E with
  | none=>rw[hw] at he;cases he
  | some t=>
   rw[hw] at he;have hwr:=qcr her hw
   cases t with
   | false=>
    cases he;obtain ⟨h1,h2⟩:=qbo her hp (VR.self (M:=M) (v:=undef) rfl)
    refine ⟨M,a.put o.dst undef,w,Ext.refl M,h1,h2,hrel,Below.refl _ _,?_⟩;have:=qut (P:=P) (b:=b) (a:=a) (k:=k) (cs:=cs) (w:=w) (ops:=ops) (i:=i) (rest:=rest) (by simp[ho,hwr]);simp only[ho,Option.bind_some] at this;exact .one this
   | true=>
    simp only at he
    cases ha:aOp P F (qan E) H o with
    | none=>rw[ha] at he;cases he
    | some r=>
     obtain ⟨r,H2⟩:=r;rw[ha] at he;have hnd:=qct ha;have hs:=qgd (P:=P) hrel hF (qbg her hrel.glob) ha
     cases r with
     | val v0=>
      cases he;obtain ⟨M',w',r,hr,hext,hv,hrel',hbel⟩:=hs
      obtain ⟨h1,h2⟩:=qbo (her.mono hext) hp hv;exact ⟨M',_,w',hext,h1,h2,hrel',hbel,.one (st_op ho hwr hnd hr)⟩
     | skip=>
      cases he;obtain ⟨w',hr,hrel',hbel⟩:=hs
      obtain ⟨h1,h2⟩:=qbo her hp (VR.self (M:=M) (v:=undef) rfl);exact ⟨M,_,w',Ext.refl M,h1,h2,hrel',hbel,.one (qus ho hwr hnd hr)⟩
     | enter f args=>
      simp only at he;obtain ⟨args',hr,hva,hrel'⟩:=hs;split at he
      ·rename_i v0 H3 hc;cases he;obtain ⟨M',w',v',fr',hext,hv,hrel2,hbel,hst,hfn,hlv⟩:=hev _ _ hc M args' w (Fr b a (.inRegion ops (i::rest)::k)::cs) hva hrel';obtain ⟨h1,h2⟩:=qbo (her.mono hext) hp hv;refine ⟨M',a.put o.dst v',w',hext,h1,h2,hrel2,hbel,.head (qeu ho hwr hnd hr) (hst.trans (.one ?_))⟩;have:=step_leave_returned (c:=Fr b a (.inRegion ops (i::rest)::k)) (cs:=cs) hlv;rw[this,Fr.finish,ho];rfl
      ·cases he
     | yld l args=>
      simp only at he;obtain ⟨bi,args',hb,hva,hrel',hr⟩:=hs;split at he
      ·rename_i v0 H3 hc;cases he;obtain ⟨M',w',v',fn,tmps,assign,body,hy,hext,hv,hrel2,hbel,hst⟩:=hev _ _ hc M bi args' w (Fr b a (.inRegion ops (i::rest)::k)) cs hb hva hrel';obtain ⟨h1,h2⟩:=qbo (her.mono hext) hp hv;refine ⟨M',a.put o.dst v',w',hext,h1,h2,hrel2,hbel,.head (qk7 ho hwr hnd (hr.trans hy)) ?_⟩;have:(Fr b a (.inRegion ops (i::rest)::k)).finish v'=Fr b (a.put o.dst v') (.inRegion ops rest::k):=by rw[Fr.finish,ho];rfl
       rw[this] at hst;exact hst
      ·cases he
theorem qd6 (hF:∀ f,F f=true->∀ args w,(callFunc f args).run P w=.ok (.enter f args) w) (hev:∀ r res,ev r=some res->qfe P base r res) :
  ∀ (l:List Nat) {E E':T Value} {H H':AHeap},qfx P F ev n ops l (E,H)=some (E',H')->∀ {M:Map} {a:Act} {w:World},ER M n E a.tmps->Rel base M H w->∀ (b:Frame) (k:List Item) (cs:List Frame),
  ∃ M' a' w',Ext M M'/\ER M' n E' a'.tmps/\a'.defers=a.defers/\Rel base M' H' w'/\Below base w w'/\Steps P (lone (Fr b a (.inRegion ops l::k)) cs w) (lone (Fr b a' k) cs w')
 | [],E,E',H,H',h,M,a,w,her,hrel,b,k,cs=>by
  cases h;exact ⟨M,a,w,Ext.refl M,her,rfl,hrel,Below.refl _ _,.one qdb⟩
 | i::l,E,E',H,H',h,M,a,w,her,hrel,b,k,cs=>by
  simp only[qfx] at h;rw[Option.bind_eq_some_iff] at h;obtain ⟨⟨E1,H1⟩,h1,h⟩:=h;obtain ⟨M1,a1,w1,x1,x2,x3,x4,x5,x6⟩:=qbc hF hev (rest:=l) h1 her hrel b k cs;obtain ⟨M2,a2,w2,y1,y2,y3,y4,y5,y6⟩:=qd6 hF hev l h x2 x4 b k cs;exact ⟨M2,a2,w2,x1.trans y1,y2,y3.trans x3,y4,x5.trans y5,x6.trans y6⟩
end
section
variable {P:Program} {F:FuncId->Option Func} {ev:Req->Option Res} {base:Prot}
theorem run_getLoop {w:World} {l:Nat} {L:Loop} (h:w.heap[l]?=some (.loop L)):(Instr.getLoop l).run P w=.ok L w:=by
 simp[Instr.getLoop,qdg h (by simp)]
theorem run_endLoop {w:World} {l:Nat} {L:Loop} (h:w.heap[l]?=some (.loop L)) (hs:(L.state == .busy)=false) :
  (Instr.endLoop l).run P w=.ok L.pending { w with heap:=w.heap.setIfInBounds l (.loop { L with state:=.exhausted }) }:=by
 have hs':¬ L.state=.busy:=by simpa using hs
 simp[Instr.endLoop,run_getLoop h,hs',qcv h (by simp)]
theorem qd3 {w:World} (fn:FuncId) (tmps:Array Value) (ps:Array Tmp) (assign body:Code) :
  (Instr.enterLoop fn tmps ps assign body none).run P w=.ok (w.heap.size+1,[{ target:=.collected w.heap.size,args:=#[] }])
   { w with heap:=(w.heap.push (.deferred (some []))).push (.loop { state:=.ready,pending:=none,fn,tmps,params:=ps,assign,body,defers:=w.heap.size }) }:=by
 simp[Instr.enterLoop];rfl
theorem qd2 {w:World} {l:Nat} {L:Loop} (h:w.heap[l]?=some (.loop L)) (fn:FuncId) (tmps:Array Value) (ps:Array Tmp) (assign body:Code) :
  (Instr.enterLoop fn tmps ps assign body (some l)).run P w=.ok (w.heap.size,[]) { w with heap:=w.heap.push (.loop { state:=.ready,pending:=none,fn,tmps,params:=ps,assign,body,defers:=L.defers }) }:=by
 simp[Instr.enterLoop,run_getLoop h]
theorem qm4 (_hF:∀ f fn,F f=some fn->∀ args w,(callFunc f args).run P w=.ok (.enter f args) w) (hev:∀ r res,ev r=some res->qfe P base r res)
  {fs:FrS} {s s':AS} {g:FuncId} {first captured:Array Value} {d:Nat} {H1 H3:AHeap} {defs:List Nat} {ps:Array Tmp} {assign body:Code} {e:AExit} {v:Value} {L:Loop} {E:T Value} {n:Nat}
  (hid:idOK H1.next)
  (hcall:ev (.call g (first++#[.func (.yield H1.next) #[] #[]]++captured) (H1.add (.loop { state:=.ready,pending:=none,fn:=fs.fn,tmps:=#[],params:=ps,assign,body,defers:=d } s.env fs.n)))=some (.value v H3))
  (hget:H3.t.get H1.next=some (.loop L E n)) (hbusy:(L.state == .busy)=false) (hex:qys L.pending=some e)
  (hs':s'={ s with defs:=defs,H:=H3.put H1.next (.loop { L with state:=.exhausted } E n) })
  {M:Map} {b:Frame} {a:Act} {k:List Item} {cs:List Frame} {w w1:World} {first' captured':Array Value} {mark:List Deferred} {rd:Nat}
  (hfr:FrOK M fs b) (her:ER M fs.n s.env a.tmps) (hrel:Rel base M H1 w1) (hdr:DR M defs (mark++a.defers)) (hb0:Below base w w1) (hx:VRA M first first') (hy:VRA M captured captured')
  (hrd:∃ bd,M[d]?=some bd/\rd=bd.real) {w2:World} (hw2:w2={ w1 with heap:=w1.heap.push (.loop { state:=.ready,pending:=none,fn:=b.fn,tmps:=a.tmps,params:=ps,assign,body,defers:=rd }) })
  {m:Machine} (hm:step P m=.next (lone (Frame.enter P g (first'++#[.func (.yield w1.heap.size) #[] #[]]++captured') .normal) (Fr b { a with defers:=mark++a.defers } (.inRangeFunc w1.heap.size::k)::cs) w2)) :
  ∃ M' a' w',Ext M M'/\SR base M' fs.n s' a' w'/\Below base w w'/\Arr P m b k cs e a' w':=by
 subst hs' hw2;obtain ⟨bd,hbd,rfl⟩:=hrd;have hrel2:=hrel.add (b:={ real:=w1.heap.size }) (x:=.loop { state:=.ready,pending:=none,fn:=fs.fn,tmps:=#[],params:=ps,assign,body,defers:=d } s.env fs.n)
  (o:=.loop { state:=.ready,pending:=none,fn:=b.fn,tmps:=a.tmps,params:=ps,assign,body,defers:=bd.real }) rfl hid
  ⟨hrel.fresh,_,qa5 w1 _,rfl,rfl,hfr.1,rfl,rfl,rfl,her.mono (Ext.snoc M _),bd,Ext.snoc M _ _ _ hbd,rfl⟩
 have hl:(M++[({ real:=w1.heap.size }:BI)])[H1.next]?=some { real:=w1.heap.size }:=by rw[<- hrel.len];exact qcp M _
 have hargs:VRA (M++[({ real:=w1.heap.size }:BI)]) (first++#[.func (.yield H1.next) #[] #[]]++captured) (first'++#[.func (.yield w1.heap.size) #[] #[]]++captured'):=by
  have h1:=VRA.mono (Ext.snoc M { real:=w1.heap.size }) _ _ hx;have h2:=VRA.mono (Ext.snoc M { real:=w1.heap.size }) _ _ hy;rw[VRA.iff] at h1 h2 |-;simp only[Array.toList_append];refine (h1.append (.cons ?_ .nil)).append h2;simp only[VR];exact ⟨_,#[],#[],⟨_,hl,rfl⟩,VRA.iff.2 .nil,VRA.iff.2 .nil,rfl⟩
 obtain ⟨M',w',v',fr',hext,hv,hrel3,hbel,hst,hfn,hlv⟩:=hev _ _ hcall _ _ _ (Fr b { a with defers:=mark++a.defers } (.inRangeFunc w1.heap.size::k)::cs) hargs hrel2;have hl':=hext _ _ hl;obtain ⟨hbb,L',hcell,q1,q2,q3,q4,q5,q6,q7,bq,q8,q9⟩:=hrel3.blk _ _ _ hl' hget;simp only at hcell hbb;have hlt:=hrel3.lt _ _ _ hl' hget;simp only at hlt;have hend:=run_endLoop (P:=P) hcell (by rw[q1];exact hbusy);have ht:=qaz w' w1.heap.size (.loop { L' with state:=.exhausted });have hrel4:=hrel3.put (y:=.loop { L with state:=.exhausted } E n) hl' hget rfl rfl hid ht.size ht.other ⟨hbb,{ L' with state:=.exhausted },qbf _ hlt,rfl,q2,q3,q4,q5,q6,q7,bq,q8,q9⟩;have hM:Ext M M':=(Ext.snoc M _).trans hext;have hfin:(Fr b { a with defers:=mark++a.defers } (.inRangeFunc w1.heap.size::k)).finish v'=Fr b { a with defers:=mark++a.defers } (.endRangeFunc w1.heap.size::k):=rfl;have hsteps:Steps P m (lone (Fr b { a with defers:=mark++a.defers } ((L'.pending.map Item.code).toList++k)) cs { w' with heap:=w'.heap.setIfInBounds w1.heap.size (.loop { L' with state:=.exhausted }) }):=by
  refine .head hm (hst.trans (.head (m₁:=lone (Fr b { a with defers:=mark++a.defers } (.endRangeFunc w1.heap.size::k)) cs w') ?_ (.one (qfl hend))));rw[step_leave_returned hlv,hfin]
 refine ⟨M',{ a with defers:=mark++a.defers },_,hM,⟨her.mono hM,hdr.mono hM,hrel4⟩,hb0.trans ((qbk hrel.base_le _).trans (hbel.trans (ht.below hbb))),?_⟩;have hj:(L'.pending.map Item.code).toList=(L.pending.map Item.code).toList:=by rw[q2]
 rw[hj] at hsteps
 cases hp:L.pending with
 | none=>rw[hp] at hex hsteps;cases hex;exact hsteps
 | some c=>
  rw[hp] at hex hsteps
  cases c <;> simp only[qys] at hex <;> first | (cases hex;done) | (cases hex)
  ·exact ⟨k,hsteps,rfl⟩
  ·exact ⟨k,hsteps,rfl⟩
  ·exact ⟨k,hsteps⟩
theorem qhc (hF:∀ f fn,F f=some fn->∀ args w,(callFunc f args).run P w=.ok (.enter f args) w) (hmix:P.follows .mixedOrders=true) (hev:∀ r res,ev r=some res->qfe P base r res)
  {fs:FrS} {c:Code} {s:AS} {res:Res} (h:qas P F ev fs c s=some res):qfe P base (.code fs c s) res:=by
 have hF':∀ f,(fun f=>(F f).isSome) f=true->∀ args w,(callFunc f args).run P w=.ok (.enter f args) w:=by
  intro f hf;obtain ⟨fn,hfn⟩:=Option.isSome_iff_exists.1 hf;exact hF f fn hfn
 cases c with
 | skip=>cases h;intro M b a k cs w hfr hsr;exact ⟨M,a,w,Ext.refl M,hsr,Below.refl _ _,.one qwh⟩
 | label l=>cases h;intro M b a k cs w hfr hsr;exact ⟨M,a,w,Ext.refl M,hsr,Below.refl _ _,.one qsv⟩
 | exit id=>cases h;intro M b a k cs w hfr hsr;exact ⟨M,a,w,Ext.refl M,hsr,Below.refl _ _,k,.refl _ _,rfl⟩
 | goto l=>cases h;intro M b a k cs w hfr hsr;exact ⟨M,a,w,Ext.refl M,hsr,Below.refl _ _,k,.refl _ _,rfl⟩
 | ret=>cases h;intro M b a k cs w hfr hsr;exact ⟨M,a,w,Ext.refl M,hsr,Below.refl _ _,k,.refl _ _⟩
 | refuse why=>cases h
 | seq x y=>
  simp only[qas] at h;split at h
  ·rename_i s1 hx;have h1:=hev _ _ hx;have h2:=hev _ _ h
   cases res with
   | value v H=>exact h2.elim
   | exit e s'=>
    intro M b a k cs w hfr hsr;obtain ⟨M1,a1,w1,x1,x2,x3,x4⟩:=h1 M b a (.code y::k) cs w hfr hsr;obtain ⟨M2,a2,w2,y1,y2,y3,y4⟩:=h2 M1 b a1 k cs w1 (hfr.mono x1) x2;exact ⟨M2,a2,w2,x1.trans y1,y2,x3.trans y3,.of_steps (.head qss x4) y4⟩
  ·rename_i hne;have h1:=hev _ _ h
   cases res with
   | value v H=>exact h1.elim
   | exit e s'=>
    intro M b a k cs w hfr hsr;obtain ⟨M1,a1,w1,x1,x2,x3,x4⟩:=h1 M b a (.code y::k) cs w hfr hsr;exact ⟨M1,a1,w1,x1,x2,x3,.of_steps (.one qss) (.pass (x:=.code y) rfl (fun e0=>by subst e0;exact hne _ h) x4)⟩
 | cond c x y=>
  simp only[qas] at h;split at h
  ·rename_i t hc;have h1:=hev _ _ h
   cases res with
   | value v H=>exact h1.elim
   | exit e s'=>
    intro M b a k cs w hfr hsr;have hv:=qbg hsr.er hsr.rel.glob c _ hc;simp only[VR] at hv;obtain ⟨M1,a1,w1,x1,x2,x3,x4⟩:=h1 M b a k cs w hfr hsr;exact ⟨M1,a1,w1,x1,x2,x3,.of_steps (.one (qwk hv)) x4⟩
  ·cases h
 | block id c=>
  simp only[qas] at h;split at h
  ·rename_i id' s1 hc;have h1:=hev _ _ hc;split at h
   ·rename_i hid;cases h;intro M b a k cs w hfr hsr;obtain ⟨M1,a1,w1,x1,x2,x3,k0,x4,x5⟩:=h1 M b a (.inBlock id::k) cs w hfr hsr;exact ⟨M1,a1,w1,x1,x2,x3,.head qkn (x4.trans (.one (qwj (by rw[x5];simp[exitTo,hid]))))⟩
   ·rename_i hid;cases h;intro M b a k cs w hfr hsr;obtain ⟨M1,a1,w1,x1,x2,x3,k0,x4,x5⟩:=h1 M b a (.inBlock id::k) cs w hfr hsr;refine ⟨M1,a1,w1,x1,x2,x3,k0,.head qkn x4,?_⟩;rw[x5];have:(id == id')=false:=by simp;exact fun e=>hid e.symm
    simp[exitTo,this]
  ·rename_i hne;have h1:=hev _ _ h
   cases res with
   | value v H=>exact h1.elim
   | exit e s'=>
    intro M b a k cs w hfr hsr;obtain ⟨M1,a1,w1,x1,x2,x3,x4⟩:=h1 M b a (.inBlock id::k) cs w hfr hsr;refine ⟨M1,a1,w1,x1,x2,x3,.of_steps (.one qkn) ?_⟩
    cases e with
    | normal=>exact x4.trans (.one qmx)
    | exit id'=>exact absurd h (hne _ _)
    | goto l=>obtain ⟨k0,y1,y2⟩:=x4;exact ⟨k0,y1,by rw[y2];simp[gotoIn]⟩
    | ret=>exact x4
 | loop c=>
  simp only[qas] at h;split at h
  ·rename_i s1 hc;have h1:=hev _ _ hc;have h2:=hev _ _ h
   cases res with
   | value v H=>exact h2.elim
   | exit e s'=>
    intro M b a k cs w hfr hsr;obtain ⟨M1,a1,w1,x1,x2,x3,x4⟩:=h1 M b a (.inLoop c::k) cs w hfr hsr;obtain ⟨M2,a2,w2,y1,y2,y3,y4⟩:=h2 M1 b a1 k cs w1 (hfr.mono x1) x2;exact ⟨M2,a2,w2,x1.trans y1,y2,x3.trans y3,.of_steps (.head qnu x4) y4⟩
  ·rename_i hne;have h1:=hev _ _ h
   cases res with
   | value v H=>exact h1.elim
   | exit e s'=>
    intro M b a k cs w hfr hsr;obtain ⟨M1,a1,w1,x1,x2,x3,x4⟩:=h1 M b a (.inLoop c::k) cs w hfr hsr;exact ⟨M1,a1,w1,x1,x2,x3,.of_steps (.one qnu) (.pass (x:=.inLoop c) rfl (fun e0=>by subst e0;exact hne _ h) x4)⟩
 | scope c=>
  simp only[qas] at h;have h1:=hev _ _ h
  cases res with
  | value v H=>exact h1.elim
  | exit e s'=>
   intro M b a k cs w hfr hsr;obtain ⟨M1,a1,w1,x1,x2,x3,x4⟩:=h1 M b a k cs w hfr hsr;exact ⟨M1,a1,w1,x1,x2,x3,.of_steps (.one qst) x4⟩
 | region id ops draw=>
  cases draw with
  | false=>
   simp only[qas] at h;rw[Option.map_eq_some_iff] at h;obtain ⟨⟨E',H'⟩,hr,h⟩:=h;cases h;intro M b a k cs w hfr hsr;obtain ⟨M1,a1,w1,x1,x2,x3,x4,x5,x6⟩:=qd6 hF' hev _ hr hsr.er hsr.rel b k cs;exact ⟨M1,a1,w1,x1,⟨x2,by rw[x3];exact hsr.dr.mono x1,x4⟩,x5,.head qk6 x6⟩
  | true=>
   simp only[qas] at h;rw[Option.map_eq_some_iff] at h;obtain ⟨⟨E',H'⟩,hr,h⟩:=h;cases h;intro M b a k cs w hfr hsr;have hsched:=qlb hmix (w.tape w.drawn (.order b.fn id)) hr;obtain ⟨M1,a1,w1,x1,x2,x3,x4,x5,x6⟩:=qd6 hF' hev _ hsched hsr.er (hsr.rel.of_heap (w':={ w with drawn:=w.drawn+1 }) rfl) b k cs;exact ⟨M1,a1,w1,x1,⟨x2,by rw[x3];exact hsr.dr.mono x1,x4⟩,(show Below base w { w with drawn:=w.drawn+1 } from ⟨rfl,rfl,rfl,Nat.le_refl _,fun _ _=>rfl⟩).trans x5,.head qea x6⟩
 | rangeFunc f ps assign body=>
  simp only[qas] at h;split at h
  ·rename_i g first captured hf;split at h
   ·rename_i hg;obtain ⟨fn,hfn⟩:=Option.isSome_iff_exists.1 hg;split at h
    ·-- no round around
     rename_i hrd;split at h
     ·rename_i hid0;split at h
      ·rename_i hid1;split at h
       ·rename_i v H3 hcall;split at h
        ·rename_i L E n hget;split at h
         ·cases h
         ·rename_i hbusy;split at h
          ·rename_i e hex;cases h;intro M b a k cs w hfr hsr;have hv:=qbg hsr.er hsr.rel.glob f _ hf;simp only[VR] at hv;obtain ⟨fn',x',y',hfn',hx,hy,hv⟩:=hv;simp only[FnR] at hfn';subst hfn';have hb0:b.roundOf=none:=by have:=hfr.2.2;rw[hrd] at this;exact this
           have hrel1:=hsr.rel.add (b:={ real:=w.heap.size }) (x:=.deferred true) (o:=.deferred (some [])) rfl hid0 ⟨hsr.rel.fresh,qa5 w _⟩;have hext1:=Ext.snoc M ({ real:=w.heap.size }:BI);have hd:(M++[({ real:=w.heap.size }:BI)])[s.H.next]?=some { real:=w.heap.size }:=by rw[<- hsr.rel.len];exact qcp M _
           have hen:=qd3 (P:=P) (w:=w) b.fn a.tmps ps assign body;rw[<- hb0] at hen;have hst:=qd0 (cs:=cs) (k:=k) hen hv (hF g fn hfn);have hsz:({ w with heap:=w.heap.push (.deferred (some [])) }:World).heap.size=w.heap.size+1:=by simp
           obtain ⟨M',a',w',z1,z2,z3,z4⟩:=qm4 (defs:=s.H.next::s.defs) hF hev hid1 hcall hget (by simpa using hbusy) hex rfl (M:=M++[({ real:=w.heap.size }:BI)]) (b:=b) (a:=a) (k:=k) (cs:=cs) (w:=w) (w1:={ w with heap:=w.heap.push (.deferred (some [])) })
            (first':=x') (captured':=y') (mark:=[{ target:=.collected w.heap.size,args:=#[] }]) (rd:=w.heap.size)
            (hfr.mono hext1) (hsr.er.mono hext1) hrel1 ⟨_,a.defers,hd,rfl,hsr.dr.mono hext1⟩ (qbk hsr.rel.base_le _) (VRA.mono hext1 _ _ hx) (VRA.mono hext1 _ _ hy) ⟨_,hd,rfl⟩ rfl (by rw[hsz];exact hst)
           exact ⟨M',a',w',hext1.trans z1,z2,z3,z4⟩
          ·cases h
        ·cases h
       ·cases h
      ·cases h
     ·cases h
    ·rename_i l hrd;split at h
     ·rename_i L0 E0 n0 hget0;split at h
      ·rename_i hid1;split at h
       ·rename_i v H3 hcall;split at h
        ·rename_i L E n hget;split at h
         ·cases h
         ·rename_i hbusy;split at h
          ·rename_i e hex;cases h;intro M b a k cs w hfr hsr;have hv:=qbg hsr.er hsr.rel.glob f _ hf;simp only[VR] at hv;obtain ⟨fn',x',y',hfn',hx,hy,hv⟩:=hv;simp only[FnR] at hfn';subst hfn';have hb0:=hfr.2.2;rw[hrd] at hb0;obtain ⟨bl,hbl,hb0⟩:=hb0;obtain ⟨_,L',hcell,_,_,_,_,_,_,_,bd,hbd,hde⟩:=hsr.rel.blk _ _ _ hbl hget0;have hen:=qd2 (P:=P) hcell b.fn a.tmps ps assign body;rw[<- hb0] at hen;have hst:=qd0 (cs:=cs) (k:=k) hen hv (hF g fn hfn);exact qm4 (defs:=s.defs) hF hev hid1 hcall hget (by simpa using hbusy) hex rfl (mark:=[]) (rd:=L'.defers) hfr hsr.er hsr.rel hsr.dr (Below.refl _ _) hx hy ⟨bd,hbd,hde⟩ rfl hst
          ·cases h
        ·cases h
       ·cases h
      ·cases h
     ·cases h
   ·cases h
  ·cases h
end
section
variable {P:Program} {F:FuncId->Option Func} {base:Prot}
theorem qcd:∀ (l:List Value) (k:Nat) (E:T Value) (t:Nat) (u:Value),k+l.length<500000->(qb5 k l E).get t=some u->(∃ i,t=k+i/\l[i]?=some u)\/(E.get t=some u)
 | [],_,_,_,_,_,h=>.inr h
 | v::l,k,E,t,u,hk,h=>by
  simp only[qb5] at h;simp only[List.length_cons] at hk;rcases qcd l (k+1) _ t u (by omega) h with ⟨i,rfl,hi⟩ | h
  ·exact .inl ⟨i+1,by omega,by simpa using hi⟩
  ·by_cases e:t=k
   ·subst e
    rw[T.get_set_same 20 _ _ _ (by have:(2:Nat) ^ 20=1048576:=by decide
                                   omega)] at h
    cases h;exact .inl ⟨0,by omega,rfl⟩
   ·rw[T.get_set_other _ _ _ _ _ e] at h;exact .inr h
theorem qi1 {M:Map} {args args':Array Value} (h:VRA M args args') {n:Nat} (hn:args.size<=n) (hs:args.size<1000):ER M n (qb5 0 args.toList .nil) (args'++Array.replicate (n-args'.size) undef):=by
 rw[VRA.iff] at h;have hl:=h.length;simp only[Array.length_toList] at hl;refine ⟨by simp;omega,fun t u hu=>?_⟩;rcases qcd _ _ _ _ _ (by simp;omega) hu with ⟨i,rfl,hi⟩ | hu
 ·obtain ⟨r,hr,hv⟩:=h.get i u hi;refine ⟨r,?_,hv⟩;have hr':args'[i]?=some r:=by simpa using hr
  have:i<args'.size:=(Array.getElem?_eq_some_iff.1 hr').1;rw[Array.getElem?_append_left (by omega)];simpa using hr'
 ·simp[T.get] at hu
theorem run_takeDeferred {w:World} {r:Nat} (h:w.heap[r]?=some (.deferred (some []))):(Instr.takeDeferred r).run P w=.ok [] { w with heap:=w.heap.setIfInBounds r (.deferred none) }:=by
 simp[Instr.takeDeferred,qdg h (by simp),qcv h (by simp)]
theorem qci {M:Map} {b:Frame} {k:List Item} {cs:List Frame}:∀ (ds:List Nat) (H H2:AHeap) (a:Act) (w:World),qet H ds=some H2->DR M ds a.defers->Rel base M H w ->
  ∃ w',Rel base M H2 w'/\Below base w w'/\Steps P (lone { Fr b a k with mode:=.returning } cs w) (lone { Fr b { a with defers:=[] } k with mode:=.returning } cs w')
 | [],H,H2,a,w,h,hd,hrel=>by
  cases h;obtain ⟨tm,df⟩:=a;simp only[DR] at hd;subst hd;exact ⟨w,hrel,Below.refl _ _,.refl _ _⟩
 | d::ds,H,H2,a,w,h,hd,hrel=>by
  simp only[qet] at h;split at h
  ·rename_i hget;split at h
   ·rename_i hid;obtain ⟨bi,ds',hb,e,hd⟩:=hd;obtain ⟨hbb,hcell⟩:=hrel.blk _ _ _ hb hget;have hlt:=hrel.lt _ _ _ hb hget;have ht:=qaz w bi.real (.deferred none);have hrel2:=hrel.put (y:=.deferred false) hb hget rfl rfl hid ht.size ht.other ⟨hbb,qbf _ hlt⟩;obtain ⟨tm,df⟩:=a;simp only at e;subst e;obtain ⟨w',r1,r2,r3⟩:=qci (b:=b) (k:=k) (cs:=cs) ds _ H2 { tmps:=tm,defers:=ds' } _ h hd hrel2;exact ⟨w',r1,(ht.below hbb).trans r2,.head (qo2 (a:={ tmps:=tm,defers:=[] }) (run_takeDeferred hcell)) r3⟩
   ·cases h
  ·cases h
def resG (tm:Array Value):ResultVar->Sem Value
 | .tmp t=>pure (tm.getD t undef)
 | .cell a t=>do loadVar t (<- asAddr (tm.getD a undef))
theorem qux (fn:Func) (tm:Array Value):results fn tm=(do let vs <- fn.results.mapM (resG tm);pure (if h:vs.size=1 then vs[0] else .tuple vs)):=by
 unfold results
 congr 2
theorem qjy {M:Map} {H:AHeap} {w:World} {E:T Value} {n:Nat} {tm:Array Value} (her:ER M n E tm) (hrel:Rel base M H w):∀ (rs:List ResultVar) (vs:List Value),qbl (rs.map (qfr P E H))=some vs ->
  ∃ vs',(rs.mapM (resG tm)).run P w=.ok vs' w/\VRL M vs vs'
 | [],vs,h=>by simp only[List.map_nil,qbl,Option.some.injEq] at h;subst h;exact ⟨[],rfl,.nil⟩
 | r::rs,vs,h=>by
  simp only[List.map_cons] at h
  cases hr:qfr P E H r with
  | none=>rw[hr] at h;cases h
  | some v=>
   rw[hr] at h;simp only[qbl,Option.map_eq_some_iff] at h;obtain ⟨vs2,h2,rfl⟩:=h;obtain ⟨vs',hr',hv'⟩:=qjy her hrel rs vs2 h2;have one:∃ v',(resG tm r).run P w=.ok v' w/\VR M v v':=by
    cases r with
    | tmp t=>
     obtain ⟨x,hx,hvx⟩:=her.2 t v hr;exact ⟨x,by simp[resG,Array.getD_eq_getD_getElem?,hx],hvx⟩
    | cell a t=>
     simp only[qfr] at hr;split at hr
     ·rename_i p hp;obtain ⟨x,hx,hvx⟩:=her.2 a p hp
      cases p with
      | pointer q=>
       cases q with
       | none=>simp[qgf] at hr
       | some q=>
        simp only[VR] at hvx;obtain ⟨bi,hb,rfl⟩:=hvx;obtain ⟨y,hy,hvy⟩:=qip (P:=P) hrel hr hb;exact ⟨y,by simp[resG,Array.getD_eq_getD_getElem?,hx,asAddr,hy],hvy⟩
      | _=>simp[qgf] at hr
     ·cases hr
   obtain ⟨v',h1,h3⟩:=one;refine ⟨v'::vs',?_,.cons h3 hv'⟩;rw[List.mapM_cons];simp only[Sem.run_bind];rw[h1];simp only[Result.andThen_ok];rw[hr'];rfl
theorem qcl {M:Map} {H:AHeap} {w:World} {E:T Value} {n:Nat} {tm:Array Value} (her:ER M n E tm) (hrel:Rel base M H w) {fn:Func} {vs:List Value} (h:qbl (fn.results.toList.map (qfr P E H))=some vs) :
  ∃ v',(results fn tm).run P w=.ok v' w/\VR M (qew vs) v':=by
 obtain ⟨vs',hr,hv⟩:=qjy (P:=P) her hrel _ _ h;refine ⟨if h:vs'.toArray.size=1 then vs'.toArray[0] else .tuple vs'.toArray,?_,?_⟩
 ·rw[qux,Array.mapM_eq_mapM_toList];simp only[Sem.run_bind,Sem.run_map];rw[hr];rfl
 ·match vs,vs',hv with
  | [],[],hv=>simp only[qew];simp[VR,VRA,VRL]
  | [v],[v'],hv=>obtain ⟨x,l,hx,_,e⟩:=hv.cases;cases e;simpa [qew] using hx
  | v::u::l,v'::u'::l',hv=>
   simp only[qew];have:¬ (v'::u'::l').toArray.size=1:=by simp
   rw[dif_neg this];simp only[VR];exact ⟨_,VRA.iff.2 (by simpa using hv),rfl⟩
  | [],v'::l',hv=>have:=hv.length;simp at this
  | [v],[],hv=>have:=hv.length;simp at this
  | [v],v'::u'::l',hv=>have:=hv.length;simp at this
  | v::u::l,[],hv=>have:=hv.length;simp at this
  | v::u::l,[v'],hv=>have:=hv.length;simp at this
theorem qdm {M:Map} {n:Nat}:∀ (ps:List Tmp) (vs vs':List Value) (E E':T Value) (tm:Array Value),qeg ps vs n E=some E'->VRL M vs vs'->ER M n E tm ->
  ER M n E' ((ps.zip vs').foldl (fun tmps (t,a)=>tmps.setIfInBounds t a) tm)
 | [],[],vs',E,E',tm,h,hv,her=>by cases h;rw[hv.nil_cases];exact her
 | p::ps,v::vs,vs',E,E',tm,h,hv,her=>by
  obtain ⟨v',l',hx,hl,rfl⟩:=hv.cases;simp only[qeg] at h;rw[Option.bind_eq_some_iff] at h;obtain ⟨E1,h1,h⟩:=h;have:=(qbo (a:={ tmps:=tm,defers:=[] }) her h1 hx).1;simp only[List.zip_cons_cons,List.foldl_cons];exact qdm ps vs l' E1 E' _ h hl this
 | [],_::_,_,_,_,_,h,_,_=>by cases h
 | _::_,[],_,_,_,_,h,_,_=>by cases h
theorem run_yield {w:World} {l:Nat} {L:Loop} {args:Array Value} (h:w.heap[l]?=some (.loop L)) (hs:args.size=L.params.size) :
  (Instr.yield l args).run P w=.ok (.round l L.fn ((L.params.zip args).foldl (fun tmps (t,a)=>tmps.setIfInBounds t a) L.tmps) L.assign L.body) w:=by
 simp[Instr.yield,run_getLoop h,hs]
theorem run_beginRound {w:World} {l:Nat} {L:Loop} (h:w.heap[l]?=some (.loop L)) (hs:L.state=.ready) :
  (Instr.beginRound l).run P w=.ok () { w with heap:=w.heap.setIfInBounds l (.loop { L with state:=.busy }) }:=by
 simp[Instr.beginRound,run_getLoop h,qcv h (by simp),hs]
theorem run_endRound {w:World} {l:Nat} {L:Loop} (jump:Option Code) (h:w.heap[l]?=some (.loop L)) :
  (Instr.endRound l jump).run P w=.ok (.bool jump.isNone) { w with heap:=w.heap.setIfInBounds l (.loop { L with state:=if jump.isNone then .ready else .done,pending:=jump }) }:=by
 simp[Instr.endRound,run_getLoop h,qcv h (by simp)]
end
section
variable {P:Program} {F:FuncId->Option Func} {base:Prot}
theorem qq4 {k:Nat} (hev:∀ r res,eval P F k r=some res->qfe P base r res) {l:Nat} {args:Array Value} {H:AHeap} {res:Res} (h:eval P F (k+1) (.round l args H)=some res):qfe P base (.round l args H) res:=by
 simp only[eval] at h;split at h
 ·rename_i L E n hget;split at h
  ·rename_i hc;obtain ⟨hst,hsz,hid⟩:=hc;split at h
   ·rename_i E1 hpp;split at h
    ·rename_i s1 hassign;split at h
     ·rename_i L1 E' n' hget1;split at h
      ·rename_i hst1;split at h
       ·rename_i e s3 hbody;split at h
        ·rename_i L3 E3 n3 hget3 hdefs;cases h;intro M b args' w c cs hb hargs hrel;obtain ⟨hbb,L',hcell,q1,q2,q3,q4,q5,q6,q7,bq,q8,q9⟩:=hrel.blk _ _ _ hb hget;have hal:=(VRA.iff.1 hargs).length;simp only[Array.length_toList] at hal;have hyr:=run_yield (P:=P) (args:=args') hcell (by rw[hal,hsz,q4])
         -- the frame of the round
         let fb:Frame:={ (default:Frame) with fn:=L.fn,kind:=.normal,roundOf:=some b.real }
         have hpar:ER M n E1 ((L'.params.zip args').foldl (fun tmps (t,a)=>tmps.setIfInBounds t a) L'.tmps):=by
          have:=qdm (M:=M) L.params.toList args.toList args'.toList E E1 L'.tmps hpp (VRA.iff.1 hargs) q7;rw[q4,<- Array.foldl_toList,Array.toList_zip];exact this
         let a0:Act:={ tmps:=(L'.params.zip args').foldl (fun tmps (t,a)=>tmps.setIfInBounds t a) L'.tmps,defers:=[] }
         have hround:Frame.round b.real L'.fn a0.tmps L'.assign L'.body .normal=Fr fb a0 [.code L.assign,.beginRound,.code L.body]:=by
          simp[Frame.round,Fr,fb,a0,q3,q5,q6]
         have hfr:FrOK M ⟨L.fn,some l,n⟩ fb:=⟨rfl,rfl,b,hb,rfl⟩;obtain ⟨M1,a1,w1,x1,x2,x3,x4⟩:=(hev _ _ hassign) M fb a0 [.beginRound,.code L.body] (c::cs) w hfr ⟨hpar,rfl,hrel⟩;have hb1:=x1 _ _ hb;obtain ⟨hbb1,L1',hcell1,r1,r2,r3,r4,r5,r6,r7,br,r8,r9⟩:=x2.rel.blk _ _ _ hb1 hget1;have hlt1:=x2.rel.lt _ _ _ hb1 hget1;have hst1':L1'.state=.ready:=by rw[r1];simpa using hst1
         have hbr:=run_beginRound (P:=P) hcell1 hst1';have ht1:=qaz w1 b.real (.loop { L1' with state:=.busy });have hrel2:=x2.rel.put (y:=.loop { L1 with state:=.busy } E' n') hb1 hget1 rfl rfl hid ht1.size ht1.other ⟨hbb1,{ L1' with state:=.busy },qbf _ hlt1,rfl,r2,r3,r4,r5,r6,r7,br,r8,r9⟩;obtain ⟨M2,a2,w2,y1,y2,y3,y4⟩:=(hev _ _ hbody) M1 fb a1 [] (c::cs) _ (hfr.mono x1) ⟨x2.er,x2.dr,hrel2⟩;have hb2:=y1 _ _ hb1;obtain ⟨hbb2,L3',hcell3,t1,t2,t3,t4,t5,t6,t7,bt,t8,t9⟩:=y2.rel.blk _ _ _ hb2 hget3;have hlt2:=y2.rel.lt _ _ _ hb2 hget3;have her:=run_endRound (P:=P) (qal e) hcell3;have ht2:=qaz w2 b.real (.loop { L3' with state:=if (qal e).isNone then .ready else .done,pending:=qal e });have hrel3:=y2.rel.put (y:=.loop { L3 with state:=if (qal e).isNone then .ready else .done,pending:=qal e } E3 n3) hb2 hget3 rfl rfl hid ht2.size ht2.other
          ⟨hbb2,{ L3' with state:=if (qal e).isNone then .ready else .done,pending:=qal e },qbf _ hlt2,rfl,rfl,t3,t4,t5,t6,t7,bt,t8,t9⟩
         refine ⟨M2,_,.bool (qal e).isNone,L'.fn,a0.tmps,L'.assign,L'.body,hyr,x1.trans y1,VR.self rfl,hrel3,x3.trans ((ht1.below hbb1).trans (y3.trans (ht2.below hbb2))),?_⟩;rw[hround];have x4':Steps P (lone (Fr fb a0 [.code L.assign,.beginRound,.code L.body]) (c::cs) w) (lone (Fr fb a1 [.beginRound,.code L.body]) (c::cs) w1):=x4;refine x4'.trans (.head (qh8 rfl hbr) ?_)
         cases e with
         | normal=>exact Steps.trans y4 (.one (qjx rfl rfl her))
         | exit id=>
          obtain ⟨k0,z1,z2⟩:=y4;exact z1.trans (.one (qh7 rfl rfl (by rw[z2];rfl) her))
         | goto id=>
          obtain ⟨k0,z1,z2⟩:=y4;exact z1.trans (.one (qh6 rfl rfl (by rw[z2];rfl) her))
         | ret=>
          obtain ⟨k0,z1⟩:=y4;exact z1.trans (.one (qjw rfl rfl her))
        ·cases h
       ·cases h
      ·cases h
     ·cases h
    ·cases h
   ·cases h
  ·cases h
 ·cases h
theorem qvo {k:Nat} (hF:∀ f fn,F f=some fn->P.funcs[f]?=some fn) (hev:∀ r res,eval P F k r=some res->qfe P base r res) {f:FuncId} {args:Array Value} {H:AHeap} {res:Res} (h:eval P F (k+1) (.call f args H)=some res):qfe P base (.call f args H) res:=by
 simp only[eval] at h;split at h
 ·rename_i fn hfn;split at h
  ·rename_i c hbody;split at h
   ·rename_i hn;split at h
    ·rename_i e s hcode;have key:(qet s.H s.defs).bind (fun H2=>(qbl (fn.results.toList.map (qfr P s.env H2))).map fun vs=>Res.value (qew vs) H2)=some res->(e=.normal\/e=.ret)->qfe P base (.call f args H) res:=by
      intro h he;rw[Option.bind_eq_some_iff] at h;obtain ⟨H2,ht,h⟩:=h;rw[Option.map_eq_some_iff] at h;obtain ⟨vs,hvs,rfl⟩:=h;intro M args' w cs hargs hrel
      let fb:Frame:={ (default:Frame) with fn:=f,kind:=.normal }
      have hal:=(VRA.iff.1 hargs).length;simp only[Array.length_toList] at hal
      let a0:Act:={ tmps:=args'++Array.replicate (fn.ntmps-args'.size) undef,defers:=[] }
      have henter:Frame.enter P f args' .normal=Fr fb a0 [.code c]:=by
       simp[Frame.enter,Fr,fb,a0,hF f fn hfn,hbody];rfl
      have hfr:FrOK M ⟨f,none,fn.ntmps⟩ fb:=⟨rfl,rfl,rfl⟩;obtain ⟨M1,a1,w1,x1,x2,x3,x4⟩:=(hev _ _ hcode) M fb a0 [] cs w hfr ⟨qi1 hargs hn.1 hn.2,rfl,hrel⟩;have hret:∃ k0,Steps P (lone (Fr fb a0 [.code c]) cs w) (lone { Fr fb a1 k0 with mode:=.returning } cs w1):=by
       rcases he with rfl | rfl
       ·exact ⟨[],Steps.trans x4 (.one (qsw rfl))⟩
       ·obtain ⟨k0,z⟩:=x4;exact ⟨.code .ret::k0,z.trans (.one (qsu rfl))⟩
      obtain ⟨k0,hret⟩:=hret;obtain ⟨w2,y1,y2,y3⟩:=qci (b:=fb) (k:=k0) (cs:=cs) _ _ _ a1 w1 ht x2.dr x2.rel;obtain ⟨v',hr,hv⟩:=qcl (P:=P) x2.er y1 hvs;refine ⟨M1,w2,v',{ Fr fb { a1 with defers:=[] } k0 with mode:=.returning },x1,hv,y1,x3.trans y2,?_,rfl,rfl,rfl,rfl,fn,hF f fn hfn,hr⟩;rw[henter];exact hret.trans y3
     split at h
     ·exact key h (.inl rfl)
     ·exact key h (.inr rfl)
     ·cases h
    ·cases h
   ·cases h
  ·cases h
 ·cases h
theorem qna (hF:∀ f fn,F f=some fn->P.funcs[f]?=some fn) (hC:∀ f fn,F f=some fn->∀ args w,(callFunc f args).run P w=.ok (.enter f args) w) (hmix:P.follows .mixedOrders=true) :
  ∀ (k:Nat) (r:Req) (res:Res),eval P F k r=some res->qfe P base r res
 | 0,r,res,h=>by cases r <;> simp[eval] at h
 | k+1,r,res,h=>by
  have ih:=qna hF hC hmix k
  cases r with
  | code fs c s=>simp only[eval] at h;exact qhc hC hmix ih h
  | again fs c s=>
   simp only[eval] at h;split at h
   ·rename_i s1 hc;have h1:=ih _ _ hc;have h2:=ih _ _ h
    cases res with
    | value v H=>exact h2.elim
    | exit e s'=>
     intro M b a k cs w hfr hsr;obtain ⟨M1,a1,w1,x1,x2,x3,x4⟩:=h1 M b a (.inLoop c::k) cs w hfr hsr;obtain ⟨M2,a2,w2,y1,y2,y3,y4⟩:=h2 M1 b a1 k cs w1 (hfr.mono x1) x2;exact ⟨M2,a2,w2,x1.trans y1,y2,x3.trans y3,.of_steps (.head qfk x4) y4⟩
   ·rename_i hne;have h1:=ih _ _ h
    cases res with
    | value v H=>exact h1.elim
    | exit e s'=>
     intro M b a k cs w hfr hsr;obtain ⟨M1,a1,w1,x1,x2,x3,x4⟩:=h1 M b a (.inLoop c::k) cs w hfr hsr;exact ⟨M1,a1,w1,x1,x2,x3,.of_steps (.one qfk) (.pass (x:=.inLoop c) rfl (fun e0=>by subst e0;exact hne _ h) x4)⟩
  | scope fs body rest s=>
   simp only[eval] at h;split at h
   ·rename_i l s1 hc;have h1:=ih _ _ hc;split at h
    ·rename_i rest' hl;have h2:=ih _ _ h
     cases res with
     | value v H=>exact h2.elim
     | exit e s'=>
      intro M b a k cs w hfr hsr;obtain ⟨M1,a1,w1,x1,x2,x3,k0,x4,x5⟩:=h1 M b a (.inScope body::k) cs w hfr hsr;obtain ⟨M2,a2,w2,y1,y2,y3,y4⟩:=h2 M1 b a1 k cs w1 (hfr.mono x1) x2;refine ⟨M2,a2,w2,x1.trans y1,y2,x3.trans y3,.of_steps (x4.trans (.one (qwi (k':=.code rest'::.inScope body::k) ?_))) y4⟩;rw[x5];simp[gotoIn,hl]
    ·rename_i hl;cases h;intro M b a k cs w hfr hsr;obtain ⟨M1,a1,w1,x1,x2,x3,k0,x4,x5⟩:=h1 M b a (.inScope body::k) cs w hfr hsr;exact ⟨M1,a1,w1,x1,x2,x3,k0,x4,by rw[x5];simp[gotoIn,hl]⟩
   ·rename_i hne;have h1:=ih _ _ h
    cases res with
    | value v H=>exact h1.elim
    | exit e s'=>
     intro M b a k cs w hfr hsr;obtain ⟨M1,a1,w1,x1,x2,x3,x4⟩:=h1 M b a (.inScope body::k) cs w hfr hsr;refine ⟨M1,a1,w1,x1,x2,x3,?_⟩
     cases e with
     | normal=>exact Steps.trans x4 (.one qmw)
     | exit id=>obtain ⟨k0,y1,y2⟩:=x4;exact ⟨k0,y1,by rw[y2];simp[exitTo]⟩
     | goto l=>exact absurd h (hne _ _)
     | ret=>exact x4
  | call f args H=>exact qvo hF ih h
  | round l args H=>exact qq4 ih h
end
theorem qc4 {P : Program} {f : FuncId} {fn : Func} (hf : P.funcs[f]? = some fn) (hn : (fn.name == "runtime.NumGoroutine") = false) (hb : fn.body.isSome = true) (args : Array Value) (w : World) :
  (callFunc f args).run P w=.ok (.enter f args) w:=by
 have hn' : ¬ fn.name = "runtime.NumGoroutine" := by simpa using hn
 have hb':¬ fn.body=none:=by cases h:fn.body <;> simp_all
 simp[callFunc,hf,hn',hb']
section
variable {P:Program} {F:FuncId->Bool} {ev ev':Req->Option Res} {ops:Array Oper} {n:Nat}
end
section
variable {P:Program} {F:FuncId->Option Func} {ev ev':Req->Option Res}
end
end Go.Ax
