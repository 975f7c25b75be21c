/-
  A part of the proof: a run over an abstract memory, its soundness and its rules; each theorem says its conditions.
-/
import Derived.Test.YthejkhpeokeccaaDoorGB
import Derived.Test.YthejkhpeokeccaaDoorGC
import Derived.Laws.Strings
import Derived.OpenShut
set_option linter.unusedVariables false
set_option linter.unusedSimpArgs false
namespace Go.Ax
section
variable {P:Program} {F:FuncId->Bool} {ev:Req->Option Res} {ops:Array Oper} {n:Nat}
def zae:Op->Bool
 | .call c=>match c.callee with
  | .value _=>true
  | _=>false
 | _=>false
def qnt (P:Program) (o:Op):Bool:=qb0 P o || qbz o || zae o
noncomputable def qlm (P:Program) (F:FuncId->Bool) (ev:Req->Option Res) (Inv:AHeap->Prop) (ops:Array Oper) (o:Oper) (E:T Value) (H:AHeap):Option (Value × AHeap):=by
 classical exact match qba P F ev ops o E H with
 | none=>none
 | some (v,H')=>
  if qnt P o.op then (if H'=H/\∀ H2,Inv H2->qba P F ev ops o E H2=some (v,H2) then some (v,H') else none)
  else if (Inv H->Inv H') then some (v,H') else none
noncomputable def qlk (P:Program) (F:FuncId->Bool) (ev:Req->Option Res) (Inv:AHeap->Prop) (n:Nat) (ops:Array Oper) (i:Nat) (x:T Value × AHeap):Option (T Value × AHeap):=
 match ops[i]? with
 | none=>none
 | some o=>(qlm P F ev Inv ops o x.1 x.2).bind fun r=>(putE n o.dst r.1 x.1).map fun E=>(E,r.2)
end
structure Cx (P:Program) (F:FuncId->Option Func):Prop where
 get:∀ f fn,F f=some fn->P.funcs[f]?=some fn
 enter:∀ f fn,F f=some fn->∀ args w,(callFunc f args).run P w=.ok (.enter f args) w
 mix:P.follows .mixedOrders=true
def EvS (P:Program) (r:Req) (res:Res):Prop:=∀ base,qfe P base r res
def Valid (P:Program) (ev:Req->Option Res):Prop:=∀ r res,ev r=some res->EvS P r res
abbrev noEv:Req->Option Res:=fun _=>none
theorem Valid.none (P:Program):Valid P noEv:=fun _ _ h=>by cases h
theorem Valid.eval {P:Program} {F:FuncId->Option Func} (hx:Cx P F) (k:Nat):Valid P (eval P F k):=fun r res h _base=>qna hx.get hx.enter hx.mix k r res h
def Tr (P:Program) (r:Req) (Q:Res->Prop):Prop:=∃ res,EvS P r res/\Q res
theorem Tr.mono {P:Program} {r:Req} {Q Q':Res->Prop} (h:Tr P r Q) (k:∀ res,Q res->Q' res):Tr P r Q':=let ⟨res,h1,h2⟩:=h;⟨res,h1,k _ h2⟩
section
variable {P:Program} {F:FuncId->Option Func} {fs:FrS} {Q:Res->Prop}
theorem EvS.code (hx:Cx P F) {ev:Req->Option Res} (hev:Valid P ev) {c:Code} {s:AS} {res:Res} (h:qas P F ev fs c s=some res):EvS P (.code fs c s) res:=
 fun base=>qhc hx.enter hx.mix (fun r res h=>hev r res h base) h
noncomputable def orc (r0:Req) (res:Res):Req->Option Res:=fun r=>by
 classical exact if r=r0 then some res else none
theorem qd5 (r:Req) (res:Res):orc r res r=some res:=by simp[orc]
theorem Valid.orc {r0:Req} {res:Res} (h:EvS P r0 res):Valid P (orc r0 res):=by
 intro r res' hr;unfold Ax.orc at hr;split at hr
 ·rename_i e;cases hr;rw[e];exact h
 ·cases hr
def Then (K:AS->Prop) (Q:Res->Prop):Res->Prop
 | .exit .normal s=>K s
 | .exit e s=>Q (.exit e s)
 | .value _ _=>False
theorem EvS.seq {a b:Code} {s s1:AS} {res:Res} (h1:EvS P (.code fs a s) (.exit .normal s1)) (h2:EvS P (.code fs b s1) res):EvS P (.code fs (.seq a b) s) res:=by
 intro base;have h1:=h1 base;have h2:=h2 base
 cases res with
 | value v H=>exact h2.elim
 | exit e s'=>
  intro M b a k cs w hfr hsr;obtain ⟨M1,a1,w1,x1,x2,x3,x4⟩:=h1 M b a (.code _::k) cs w hfr hsr;obtain ⟨M2,a2,w2,y1,y2,y3,y4⟩:=h2 M1 b a1 k cs w1 (hfr.mono x1) x2;exact ⟨M2,a2,w2,x1.trans y1,y2,x3.trans y3,.of_steps (.head qss x4) y4⟩
theorem Tr.seq (hx:Cx P F) {a b:Code} {s:AS} (h:Tr P (.code fs a s) (Then (fun s1=>Tr P (.code fs b s1) Q) Q)):Tr P (.code fs (.seq a b) s) Q:=by
 obtain ⟨res,he,hq⟩:=h
 cases res with
 | value v H=>exact hq.elim
 | exit e s1=>
  cases e with
  | normal=>
   obtain ⟨res2,he2,hq2⟩:=hq;exact ⟨res2,he.seq he2,hq2⟩
  | exit id=>
   refine ⟨_,EvS.code hx (Valid.orc he) ?_,hq⟩;simp only[qas,qd5]
  | goto id=>
   refine ⟨_,EvS.code hx (Valid.orc he) ?_,hq⟩;simp only[qas,qd5]
  | ret=>
   refine ⟨_,EvS.code hx (Valid.orc he) ?_,hq⟩;simp only[qas,qd5]
theorem Tr.skip (hx:Cx P F) {s:AS} (h:Q (.exit .normal s)):Tr P (.code fs .skip s) Q:=⟨_,EvS.code hx (Valid.none P) rfl,h⟩
theorem Tr.ret (hx:Cx P F) {s:AS} (h:Q (.exit .ret s)):Tr P (.code fs .ret s) Q:=⟨_,EvS.code hx (Valid.none P) rfl,h⟩
theorem Tr.exit (hx:Cx P F) {s:AS} {id:Nat} (h:Q (.exit (.exit id) s)):Tr P (.code fs (.exit id) s) Q:=⟨_,EvS.code hx (Valid.none P) rfl,h⟩
theorem Tr.cond_true (hx:Cx P F) {c:Operand} {a b:Code} {s:AS} (hc:qan s.env c=some (.bool true)) (h:Tr P (.code fs a s) Q):Tr P (.code fs (.cond c a b) s) Q:=by
 obtain ⟨res,he,hq⟩:=h;exact ⟨res,EvS.code hx (Valid.orc he) (by simp only[qas,hc,if_true,qd5]),hq⟩
theorem Tr.cond_false (hx:Cx P F) {c:Operand} {a b:Code} {s:AS} (hc:qan s.env c=some (.bool false)) (h:Tr P (.code fs b s) Q):Tr P (.code fs (.cond c a b) s) Q:=by
 obtain ⟨res,he,hq⟩:=h;exact ⟨res,EvS.code hx (Valid.orc he) (by simp only[qas,hc,Bool.false_eq_true,if_false,qd5]),hq⟩
def qzi (id:Nat) (Q:Res->Prop):Res->Prop
 | .exit (.exit id') s=>if id'=id then Q (.exit .normal s) else Q (.exit (.exit id') s)
 | r=>Q r
theorem Tr.block (hx:Cx P F) {id:Nat} {c:Code} {s:AS} (h:Tr P (.code fs c s) (qzi id Q)):Tr P (.code fs (.block id c) s) Q:=by
 obtain ⟨res,he,hq⟩:=h
 cases res with
 | value v H=>exact (he fun _=>False).elim
 | exit e s1=>
  cases e with
  | exit id'=>
   simp only[qzi] at hq;split at hq
   ·rename_i hid;exact ⟨_,EvS.code hx (Valid.orc he) (by simp only[qas,qd5];rw[if_pos hid]),hq⟩
   ·rename_i hid;exact ⟨_,EvS.code hx (Valid.orc he) (by simp only[qas,qd5];rw[if_neg hid]),hq⟩
  | normal=>exact ⟨_,EvS.code hx (Valid.orc he) (by simp only[qas,qd5]),hq⟩
  | goto l=>exact ⟨_,EvS.code hx (Valid.orc he) (by simp only[qas,qd5]),hq⟩
  | ret=>exact ⟨_,EvS.code hx (Valid.orc he) (by simp only[qas,qd5]),hq⟩
theorem EvS.again_next {c:Code} {s s1:AS} {res:Res} (h1:EvS P (.code fs c s) (.exit .normal s1)) (h2:EvS P (.again fs c s1) res):EvS P (.again fs c s) res:=by
 intro base;have h1:=h1 base;have h2:=h2 base
 cases res with
 | value v H=>exact h2.elim
 | exit e s'=>
  intro M b a k cs w hfr hsr;obtain ⟨M1,a1,w1,x1,x2,x3,x4⟩:=h1 M b a (.inLoop c::k) cs w hfr hsr;obtain ⟨M2,a2,w2,y1,y2,y3,y4⟩:=h2 M1 b a1 k cs w1 (hfr.mono x1) x2;exact ⟨M2,a2,w2,x1.trans y1,y2,x3.trans y3,.of_steps (.head qfk x4) y4⟩
theorem EvS.again_end {c:Code} {s s1:AS} {e:AExit} (he:e≠.normal) (h1:EvS P (.code fs c s) (.exit e s1)):EvS P (.again fs c s) (.exit e s1):=by
 intro base;have h1:=h1 base;intro M b a k cs w hfr hsr;obtain ⟨M1,a1,w1,x1,x2,x3,x4⟩:=h1 M b a (.inLoop c::k) cs w hfr hsr;exact ⟨M1,a1,w1,x1,x2,x3,.of_steps (.one qfk) (.pass (x:=.inLoop c) rfl he x4)⟩
theorem Tr.loop (hx:Cx P F) {α:Type} {c:Code} {s:AS} (I:α->AS->Prop) (μ:α->Nat) (x0:α) (h0:I x0 s)
  (round:∀ x s,I x s->Tr P (.code fs c s) (Then (fun s1=>∃ y,I y s1/\μ y<μ x) Q)):Tr P (.code fs (.loop c) s) Q:=by
 have again:∀ n x s,μ x=n->I x s->Tr P (.again fs c s) Q:=by
  intro n
  induction n using Nat.strongRecOn with
  | _ n ih=>
   intro x s hn hI;obtain ⟨res,he,hq⟩:=round x s hI
   cases res with
   | value v H=>exact hq.elim
   | exit e s1=>
    cases e with
    | normal=>
     obtain ⟨y,hy,hlt⟩:=hq;obtain ⟨res2,he2,hq2⟩:=ih (μ y) (hn ▸ hlt) y s1 rfl hy;exact ⟨res2,he.again_next he2,hq2⟩
    | exit id=>exact ⟨_,EvS.again_end (by simp) he,hq⟩
    | goto id=>exact ⟨_,EvS.again_end (by simp) he,hq⟩
    | ret=>exact ⟨_,EvS.again_end (by simp) he,hq⟩
 obtain ⟨res,he,hq⟩:=round x0 s h0
 cases res with
 | value v H=>exact hq.elim
 | exit e s1=>
  cases e with
  | normal=>
   obtain ⟨y,hy,hlt⟩:=hq;obtain ⟨res2,he2,hq2⟩:=again _ y s1 rfl hy;refine ⟨res2,?_,hq2⟩;intro base;have h1:=he base;have h2:=he2 base
   cases res2 with
   | value v H=>exact h2.elim
   | exit e s'=>
    intro M b a k cs w hfr hsr;obtain ⟨M1,a1,w1,x1,x2,x3,x4⟩:=h1 M b a (.inLoop c::k) cs w hfr hsr;obtain ⟨M2,a2,w2,y1,y2,y3,y4⟩:=h2 M1 b a1 k cs w1 (hfr.mono x1) x2;exact ⟨M2,a2,w2,x1.trans y1,y2,x3.trans y3,.of_steps (.head qnu x4) y4⟩
  | exit id=>exact ⟨_,EvS.code hx (Valid.orc he) (by simp only[qas,qd5]),hq⟩
  | goto id=>exact ⟨_,EvS.code hx (Valid.orc he) (by simp only[qas,qd5]),hq⟩
  | ret=>exact ⟨_,EvS.code hx (Valid.orc he) (by simp only[qas,qd5]),hq⟩
def Sub (E E':T Value):Prop:=∀ (t:Nat) (v:Value),E.get t=some v->E'.get t=some v
theorem ER.sub {M:Map} {n:Nat} {E E':T Value} {tm:Array Value} (h:Sub E E') (k:ER M n E' tm):ER M n E tm:=⟨k.1,fun t v e=>k.2 t v (h t v e)⟩
theorem Tr.sub {E E':T Value} {defs:List Nat} {H:AHeap} {c:Code} (h:Sub E E') (k:Tr P (.code fs c ⟨E,defs,H⟩) Q):Tr P (.code fs c ⟨E',defs,H⟩) Q:=by
 obtain ⟨res,he,hq⟩:=k;refine ⟨res,fun base=>?_,hq⟩;have he:=he base
 cases res with
 | value v H=>exact he.elim
 | exit e s'=>exact fun M b a k cs w hfr hsr=>he M b a k cs w hfr ⟨hsr.er.sub h,hsr.dr,hsr.rel⟩
inductive Md (P:Program) where
 | str
 | drw (ev:Req->Option Res) (hev:Valid P ev) (L:List Nat)
 | clm (ev:Req->Option Res) (hev:Valid P ev) (Inv:AHeap->Prop)
def StepS (P:Program) (F:FuncId->Option Func) (md:Md P) (n:Nat) (ops:Array Oper) (i:Nat) (x y:T Value × AHeap):Prop:=
 match md with
 | .str=>∃ ev,Valid P ev/\qa7 P (fun f=>(F f).isSome) ev n ops i x=some y
 | .drw ev _ L=>qbs P (fun f=>(F f).isSome) ev L n ops i x=some y
 | .clm ev _ Inv=>qlk P (fun f=>(F f).isSome) ev Inv n ops i x=some y
def OpsS (P:Program) (F:FuncId->Option Func) (md:Md P) (n:Nat) (ops:Array Oper):List Nat->T Value × AHeap->T Value × AHeap->Prop
 | [],x,y=>x=y
 | i::l,x,y=>∃ z,StepS P F md n ops i x z/\OpsS P F md n ops l z y
def OT (P:Program) (F:FuncId->Option Func) (md:Md P) (n:Nat) (ops:Array Oper) (l:List Nat) (E:T Value) (H:AHeap) (Q:T Value->AHeap->Prop):Prop:=∃ y,OpsS P F md n ops l (E,H) y/\Q y.1 y.2
theorem OT.nil {md:Md P} {n:Nat} {ops:Array Oper} {E:T Value} {H:AHeap} {Q:T Value->AHeap->Prop} (h:Q E H):OT P F md n ops [] E H Q:=⟨_,rfl,h⟩
theorem OpsS.sound {base:Prot} (hx:Cx P F) {n:Nat} {ops:Array Oper}:∀ (l:List Nat) {E E':T Value} {H H':AHeap},OpsS P F .str n ops l (E,H) (E',H')->∀ {M:Map} {a:Act} {w:World},ER M n E a.tmps->Rel base M H w->∀ (b:Frame) (k:List Item) (cs:List Frame),
  ∃ M' a' w',Ext M M'/\ER M' n E' a'.tmps/\a'.defers=a.defers/\Rel base M' H' w'/\Below base w w'/\Steps P (lone (Fr b a (.inRegion ops l::k)) cs w) (lone (Fr b a' k) cs w')
 | [],E,E',H,H',h,M,a,w,her,hrel,b,k,cs=>by
  cases h;exact ⟨M,a,w,Ext.refl M,her,rfl,hrel,Below.refl _ _,.one qdb⟩
 | i::l,E,E',H,H',h,M,a,w,her,hrel,b,k,cs=>by
  obtain ⟨⟨E1,H1⟩,⟨ev,hev,h1⟩,h⟩:=h;have hF':∀ f,(fun f=>(F f).isSome) f=true->∀ args w,(callFunc f args).run P w=.ok (.enter f args) w:=by
   intro f hf;obtain ⟨fn,hfn⟩:=Option.isSome_iff_exists.1 hf;exact hx.enter f fn hfn
  obtain ⟨M1,a1,w1,x1,x2,x3,x4,x5,x6⟩:=qbc hF' (fun r res h=>hev r res h base) (rest:=l) h1 her hrel b k cs;obtain ⟨M2,a2,w2,y1,y2,y3,y4,y5,y6⟩:=OpsS.sound hx l h x2 x4 b k cs;exact ⟨M2,a2,w2,x1.trans y1,y2,y3.trans x3,y4,x5.trans y5,x6.trans y6⟩
theorem OpsS.runL {ev:Req->Option Res} {hev:Valid P ev} {L:List Nat} {n:Nat} {ops:Array Oper}:∀ (l:List Nat) {x y:T Value × AHeap},OpsS P F (.drw ev hev L) n ops l x y->qa4 P (fun f=>(F f).isSome) ev L n ops l x=some y
 | [],x,y,h=>by cases h;rfl
 | i::l,x,y,h=>by
  obtain ⟨z,h1,h⟩:=h;simp only[qa4];rw[show qbs P (fun f=>(F f).isSome) ev L n ops i x=some z from h1];exact OpsS.runL l h
theorem Tr.region (hx:Cx P F) {id:Nat} {ops:Array Oper} {E:T Value} {defs:List Nat} {H:AHeap} (h:OT P F .str fs.n ops (List.range ops.size) E H fun E' H'=>Q (.exit .normal ⟨E',defs,H'⟩)):Tr P (.code fs (.region id ops false) ⟨E,defs,H⟩) Q:=by
 obtain ⟨⟨E',H'⟩,ho,hq⟩:=h;refine ⟨_,fun base=>?_,hq⟩;intro M b a k cs w hfr hsr;obtain ⟨M1,a1,w1,x1,x2,x3,x4,x5,x6⟩:=OpsS.sound hx _ ho hsr.er hsr.rel b k cs;exact ⟨M1,a1,w1,x1,⟨x2,by rw[x3];exact hsr.dr.mono x1,x4⟩,x5,.head qk6 x6⟩
theorem Tr.draw (hx:Cx P F) (L:List Nat) (ev:Req->Option Res) (hev:Valid P ev) {id:Nat} {ops:Array Oper} {E:T Value} {defs:List Nat} {H:AHeap} (hd:qng P ops=true)
  (h:OT P F (.drw ev hev L) fs.n ops (List.range ops.size) E H fun E' H'=>Q (.exit .normal ⟨E',defs,H'⟩)):Tr P (.code fs (.region id ops true) ⟨E,defs,H⟩) Q:=by
 obtain ⟨⟨E',H'⟩,ho,hq⟩:=h;refine ⟨_,fun base=>?_,hq⟩;have hF':∀ f,(fun f=>(F f).isSome) f=true->∀ args w,(callFunc f args).run P w=.ok (.enter f args) w:=by
  intro f hf;obtain ⟨fn,hfn⟩:=Option.isSome_iff_exists.1 hf;exact hx.enter f fn hfn
 intro M b a k cs w hfr hsr;have hsched:=qla hx.mix (w.tape w.drawn (.order b.fn id)) hd (ho.runL _);obtain ⟨M1,a1,w1,x1,x2,x3,x4,x5,x6⟩:=qd6 hF' (fun r res h=>hev r res h base) _ hsched hsr.er (hsr.rel.of_heap (w':={ w with drawn:=w.drawn+1 }) rfl) b k cs;exact ⟨M1,a1,w1,x1,⟨x2,by rw[x3];exact hsr.dr.mono x1,x4⟩,(show Below base w { w with drawn:=w.drawn+1 } from ⟨rfl,rfl,rfl,Nat.le_refl _,fun _ _=>rfl⟩).trans x5,.head qea x6⟩
def Side (md:Md P) (E:T Value) (o:Oper) (H H':AHeap):Prop:=
 match md with
 | .str=>True
 | .drw _ _ L=>qb0 P o.op=true\/(qbz o.op=true/\∀ b,qc7 (qan E) o=some b->b∈L)\/(qb0 P o.op=false/\qbz o.op=false/\∀ b∈L,H'.t.get b=H.t.get b)
 | .clm _ _ Inv=>qb0 P o.op=true\/(qbz o.op=true/\∀ b,qc7 (qan E) o=some b->∀ H2,Inv H2->H2.t.get b=H.t.get b)\/(qnt P o.op=false/\(Inv H->Inv H'))
theorem Side.pure {md:Md P} {E:T Value} {o:Oper} {H H':AHeap} (h:qb0 P o.op=true):Side md E o H H':=by
 cases md with
 | str=>trivial
 | drw ev hev L=>exact .inl h
 | clm ev hev Inv=>exact .inl h
theorem qrj {F:FuncId->Bool} {ev:Req->Option Res} {hev:Valid P ev} {Inv:AHeap->Prop} {ops:Array Oper} {o:Oper} {E:T Value} {H H':AHeap} {v:Value} (h:qba P F ev ops o E H=some (v,H')) (hs:Side (.clm ev hev Inv) E o H H'):qlm P F ev Inv ops o E H=some (v,H'):=by
 rcases hs with hs | ⟨hs,hb⟩ | ⟨h1,h2⟩
 ·obtain ⟨e,hall⟩:=qei hs h;unfold qlm;rw[h];simp only[qnt,hs,Bool.true_or,if_true];rw[if_pos ⟨e,fun H2 _=>hall H2⟩]
 ·have key:H'=H/\∀ H2,Inv H2->qba P F ev ops o E H2=some (v,H2):=by
   unfold qba at h
   cases hw:qaj ops o E with
   | none=>rw[hw] at h;cases h
   | some b=>
    rw[hw] at h
    cases b with
    | false=>cases h;exact ⟨rfl,fun H2 _=>by unfold qba;rw[hw]⟩
    | true=>
     simp only at h
     cases ha:aOp P F (qan E) H o with
     | none=>rw[ha] at h;cases h
     | some r=>
      obtain ⟨r,H1⟩:=r;obtain ⟨v0,rfl,rfl⟩:=qhj hs ha;rw[ha] at h;cases h;refine ⟨rfl,fun H2 h2=>?_⟩;obtain ⟨v1,hv1,h3⟩:=qjz (H2:=H2) hs ha fun b hbb=>hb b hbb H2 h2
      cases hv1;unfold qba
      rw[hw];simp only[h3]
  unfold qlm;rw[h];simp only[qnt,hs,Bool.or_true,Bool.true_or,if_true];rw[if_pos key]
 ·unfold qlm;rw[h];simp only[h1,Bool.false_eq_true,if_false];rw[if_pos h2]
theorem qri {F:FuncId->Bool} {ev:Req->Option Res} {hev:Valid P ev} {L:List Nat} {ops:Array Oper} {o:Oper} {E:T Value} {H H':AHeap} {v:Value} (h:qba P F ev ops o E H=some (v,H')) (hs:Side (.drw ev hev L) E o H H'):qbd P F ev L ops o E H=some (v,H'):=by
 unfold qbd;rw[h];simp only;rcases hs with hs | ⟨hs,hb⟩ | ⟨h1,h2,hb⟩
 ·rw[if_pos hs]
 ·rw[if_neg (by rw[qif (P:=P) hs];simp),if_pos hs];split
  ·split
   ·rename_i b hbb;rw[if_pos (by simpa using hb b hbb)]
   ·rfl
  ·rfl
 ·rw[if_neg (by rw[h1];simp),if_neg (by rw[h2];simp),if_pos hb]
theorem OT.eff {md:Md P} {n:Nat} {ops:Array Oper} {i:Nat} {l:List Nat} {E E':T Value} {H H':AHeap} {Q:T Value->AHeap->Prop} {o:Oper} {v:Value} (ho:ops[i]?=some o)
  (he:∀ ev,qba P (fun f=>(F f).isSome) ev ops o E H=some (v,H')) (hs:Side md E o H H') (hp:putE n o.dst v E=some E') (k:OT P F md n ops l E' H' Q):OT P F md n ops (i::l) E H Q:=by
 obtain ⟨y,hy,hq⟩:=k;refine ⟨y,⟨(E',H'),?_,hy⟩,hq⟩
 cases md with
 | str=>exact ⟨noEv,Valid.none P,by simp[qa7,ho,he,hp]⟩
 | drw ev hev L=>show qbs _ _ _ _ _ _ _ _=_;simp[qbs,ho,qri (he ev) hs,hp]
 | clm ev hev Inv=>show qlk _ _ _ _ _ _ _ _=_;simp[qlk,ho,qrj (he ev) hs,hp]
theorem OT.val {md:Md P} {n:Nat} {ops:Array Oper} {i:Nat} {l:List Nat} {E E':T Value} {H H':AHeap} {Q:T Value->AHeap->Prop} {o:Oper} {v:Value} (ho:ops[i]?=some o) (hw:qaj ops o E=some true)
  (ha:aOp P (fun f=>(F f).isSome) (qan E) H o=some (.val v,H')) (hs:Side md E o H H') (hp:putE n o.dst v E=some E') (k:OT P F md n ops l E' H' Q):OT P F md n ops (i::l) E H Q:=
 OT.eff ho (fun ev=>by simp[qba,hw,ha]) hs hp k
theorem OT.void {md:Md P} {n:Nat} {ops:Array Oper} {i:Nat} {l:List Nat} {E E':T Value} {H H':AHeap} {Q:T Value->AHeap->Prop} {o:Oper} (ho:ops[i]?=some o) (hw:qaj ops o E=some true)
  (ha:aOp P (fun f=>(F f).isSome) (qan E) H o=some (.skip,H')) (hs:Side md E o H H') (hp:putE n o.dst undef E=some E') (k:OT P F md n ops l E' H' Q):OT P F md n ops (i::l) E H Q:=
 OT.eff ho (fun ev=>by simp[qba,hw,ha]) hs hp k
theorem Side.pass {ev:Req->Option Res} {hev:Valid P ev} {L:List Nat} {E:T Value} {o:Oper} {H:AHeap} (h:qbz o.op=false):Side (.drw ev hev L) E o H H:=by
 by_cases hp:qb0 P o.op=true
 ·exact .inl hp
 ·exact .inr (.inr ⟨by simpa using hp,h,fun _ _=>rfl⟩)
theorem OT.pass {md:Md P} {n:Nat} {ops:Array Oper} {i:Nat} {l:List Nat} {E E':T Value} {H:AHeap} {Q:T Value->AHeap->Prop} {o:Oper} (ho:ops[i]?=some o) (hw:qaj ops o E=some false)
  (hp:putE n o.dst undef E=some E') (k:OT P F md n ops l E' H Q):OT P F md n ops (i::l) E H Q:=by
 obtain ⟨y,hy,hq⟩:=k;refine ⟨y,⟨(E',H),?_,hy⟩,hq⟩;have he:∀ ev,qba P (fun f=>(F f).isSome) ev ops o E H=some (undef,H):=fun ev=>by simp[qba,hw]
 cases md with
 | str=>exact ⟨noEv,Valid.none P,by simp[qa7,ho,he,hp]⟩
 | drw ev hev L=>
  show qbs _ _ _ _ _ _ _ _=_
  have:qbd P (fun f=>(F f).isSome) ev L ops o E H=some (undef,H):=by
   unfold qbd;rw[he];simp only[hw];split
   ·rfl
   ·split
    ·rfl
    ·simp
  simp[qbs,ho,this,hp]
 | clm ev hev Inv=>
  show qlk _ _ _ _ _ _ _ _=_
  have:qlm P (fun f=>(F f).isSome) ev Inv ops o E H=some (undef,H):=by
   have hall:∀ H2,qba P (fun f=>(F f).isSome) ev ops o E H2=some (undef,H2):=fun H2=>by simp[qba,hw]
   unfold qlm;rw[he];simp only;split
   ·rw[if_pos ⟨rfl,fun H2 _=>hall H2⟩]
   ·rw[if_pos fun h=>h]
  simp[qlk,ho,this,hp]
theorem OT.call {n:Nat} {ops:Array Oper} {i:Nat} {l:List Nat} {E:T Value} {H H1:AHeap} {Q:T Value->AHeap->Prop} {o:Oper} {f:FuncId} {args:Array Value} {R:Value->AHeap->Prop} (ho:ops[i]?=some o) (hw:qaj ops o E=some true)
  (ha:aOp P (fun f=>(F f).isSome) (qan E) H o=some (.enter f args,H1)) (hc:∃ v H2,EvS P (.call f args H1) (.value v H2)/\R v H2)
  (k:∀ v H2,R v H2->∃ E',putE n o.dst v E=some E'/\OT P F .str n ops l E' H2 Q):OT P F .str n ops (i::l) E H Q:=by
 obtain ⟨v,H2,he,hr⟩:=hc;obtain ⟨E',hp,y,hy,hq⟩:=k v H2 hr;exact ⟨y,⟨(E',H2),⟨Ax.orc _ _,Valid.orc he,by simp[qa7,ho,qba,hw,ha,qd5,hp]⟩,hy⟩,hq⟩
theorem EvS.call (hx:Cx P F) {f:FuncId} {fn:Func} {c:Code} {args:Array Value} {H:AHeap} {R:Value->AHeap->Prop} (hfn:F f=some fn) (hb:fn.body=some c) (hn:args.size<=fn.ntmps/\args.size<1000)
  (h:Tr P (.code ⟨f,none,fn.ntmps⟩ c ⟨qb5 0 args.toList .nil,[],H⟩) (fun | .exit .normal s | .exit .ret s=>∃ H2 vs,qet s.H s.defs=some H2/\qbl (fn.results.toList.map (qfr P s.env H2))=some vs/\R (qew vs) H2 | _=>False)) :
  ∃ v H2,EvS P (.call f args H) (.value v H2)/\R v H2:=by
 obtain ⟨res,he,hq⟩:=h;have key:∀ {e:AExit} {s:AS},EvS P (.code ⟨f,none,fn.ntmps⟩ c ⟨qb5 0 args.toList .nil,[],H⟩) (.exit e s)->(e=.normal\/e=.ret)->(∃ H2 vs,qet s.H s.defs=some H2/\qbl (fn.results.toList.map (qfr P s.env H2))=some vs/\R (qew vs) H2) ->
   ∃ v H2,EvS P (.call f args H) (.value v H2)/\R v H2:=by
  rintro e s hcode he ⟨H2,vs,ht,hvs,hr⟩;refine ⟨_,H2,fun base=>?_,hr⟩;intro M args' w cs hargs hrel
  let fb:Frame:={ (default:Frame) with fn:=f,kind:=.normal }
  have hal:=(VRA.iff.1 hargs).length;simp only[Array.length_toList] at hal
  let a0:Act:={ tmps:=args'++Array.replicate (fn.ntmps-args'.size) undef,defers:=[] }
  have henter:Frame.enter P f args' .normal=Fr fb a0 [.code c]:=by
   simp[Frame.enter,Fr,fb,a0,hx.get f fn hfn,hb];rfl
  have hfr:FrOK M ⟨f,none,fn.ntmps⟩ fb:=⟨rfl,rfl,rfl⟩;obtain ⟨M1,a1,w1,x1,x2,x3,x4⟩:=(hcode base) M fb a0 [] cs w hfr ⟨qi1 hargs hn.1 hn.2,rfl,hrel⟩;have hret:∃ k0,Steps P (lone (Fr fb a0 [.code c]) cs w) (lone { Fr fb a1 k0 with mode:=.returning } cs w1):=by
   rcases he with rfl | rfl
   ·exact ⟨[],Steps.trans x4 (.one (qsw rfl))⟩
   ·obtain ⟨k0,z⟩:=x4;exact ⟨.code .ret::k0,z.trans (.one (qsu rfl))⟩
  obtain ⟨k0,hret⟩:=hret;obtain ⟨w2,y1,y2,y3⟩:=qci (b:=fb) (k:=k0) (cs:=cs) _ _ _ a1 w1 ht x2.dr x2.rel;obtain ⟨v',hr,hv⟩:=qcl (P:=P) x2.er y1 hvs;refine ⟨M1,w2,v',{ Fr fb { a1 with defers:=[] } k0 with mode:=.returning },x1,hv,y1,x3.trans y2,?_,rfl,rfl,rfl,rfl,fn,hx.get f fn hfn,hr⟩;rw[henter];exact hret.trans y3
 cases res with
 | value v H=>exact hq.elim
 | exit e s=>
  cases e with
  | normal=>exact key he (.inl rfl) hq
  | ret=>exact key he (.inr rfl) hq
  | exit id=>exact hq.elim
  | goto l=>exact hq.elim
end
section
variable {P:Program} {F:FuncId->Option Func} {md:Md P} {n:Nat} {ops:Array Oper} {i:Nat} {l:List Nat} {E:T Value} {H:AHeap} {Q:T Value->AHeap->Prop}
def qcj (n d:Nat):Bool:=decide (d<n)&&decide (d<500000)
theorem qw5 {d:Nat} (h:qcj n d=true) (v:Value) (E:T Value):putE n (some d) v E=some (T.set 20 E d v):=by
 simp only[qcj,Bool.and_eq_true,decide_eq_true_eq] at h;simp only[putE,h,and_self,if_true]
theorem OT.op {d:Nat} {p:Op} {ty:TypeId} {pos:String} {af:Array Edge} {g:Option (Nat × Bool)} {v:Value} {H':AHeap} (ho:ops[i]?=some ⟨some d,p,ty,pos,af,g⟩) (hw:qaj ops ⟨some d,p,ty,pos,af,g⟩ E=some true)
  (ha:aOp P (fun f=>(F f).isSome) (qan E) H ⟨some d,p,ty,pos,af,g⟩=some (.val v,H')) (hs:Side md E ⟨some d,p,ty,pos,af,g⟩ H H') (hd:qcj n d=true) (k:OT P F md n ops l (T.set 20 E d v) H' Q):OT P F md n ops (i::l) E H Q:=
 OT.val ho hw ha hs (qw5 hd v E) k
theorem OT.move {d:Nat} {x:Operand} {ty:TypeId} {pos:String} {af:Array Edge} {g:Option (Nat × Bool)} {v:Value} (ho:ops[i]?=some ⟨some d,.move x,ty,pos,af,g⟩) (hw:qaj ops ⟨some d,.move x,ty,pos,af,g⟩ E=some true)
  (hx:qan E x=some v) (hd:qcj n d=true) (k:OT P F md n ops l (T.set 20 E d v) H Q):OT P F md n ops (i::l) E H Q:=OT.op ho hw (by simp[aOp,hx]) (Side.pure rfl) hd k
theorem OT.assign {d:Nat} {x:Operand} {ty:TypeId} {pos:String} {af:Array Edge} {g:Option (Nat × Bool)} {v:Value} (ho:ops[i]?=some ⟨some d,.assign x,ty,pos,af,g⟩) (hw:qaj ops ⟨some d,.assign x,ty,pos,af,g⟩ E=some true)
  (hx:qan E x=some v) (hd:qcj n d=true) (k:OT P F md n ops l (T.set 20 E d v) H Q):OT P F md n ops (i::l) E H Q:=OT.op ho hw (by simp[aOp,hx]) (Side.pure rfl) hd k
theorem OT.un {d:Nat} {p:Op} {ty:TypeId} {pos:String} {af:Array Edge} {j:Nat} {t:Bool} (ho:ops[i]?=some ⟨some d,p,ty,pos,af,some (j,t)⟩) (hw:qaj ops ⟨some d,p,ty,pos,af,some (j,t)⟩ E=some false)
  (hd:qcj n d=true) (k:OT P F md n ops l (T.set 20 E d undef) H Q):OT P F md n ops (i::l) E H Q:=OT.pass ho hw (qw5 hd _ E) k
def qyk:BinOp->Bool
 | .eql | .neq | .lss | .leq | .gtr | .geq=>true
 | _=>false
def cmpP:BinOp->Int->Int->Prop
 | .eql,a,b=>a=b
 | .neq,a,b=>a≠b
 | .lss,a,b=>a<b
 | .leq,a,b=>a<=b
 | .gtr,a,b=>b<a
 | .geq,a,b=>b<=a
 | _,_,_=>False
theorem qzf {op:BinOp} {t:TypeId} {xo yo:Operand} {k:IntKind} {a b:Int} (ho:qyk op=true) (h:cmpP op a b):aBin P op t xo yo (.int k a) (.int k b)=some (.bool true):=by
 cases op <;> simp[qyk] at ho <;> simp only[cmpP] at h <;> simp[aBin,flat,eqGuard,binOp,Op.intCmp,qac,h]
theorem qzg {op:BinOp} {t:TypeId} {xo yo:Operand} {k:IntKind} {a b:Int} (ho:qyk op=true) (h:¬ cmpP op a b):aBin P op t xo yo (.int k a) (.int k b)=some (.bool false):=by
 cases op <;> simp[qyk] at ho <;> simp only[cmpP] at h <;> simp[aBin,flat,eqGuard,binOp,Op.intCmp,qac] <;> first | exact h | omega
theorem quk {t:TypeId} {xo yo:Operand} {k:IntKind} {a b:Int}:aBin P .add t xo yo (.int k a) (.int k b)=some (.int k (k.wrap (a+b))):=by simp[aBin,flat,eqGuard,binOp,Op.intArith,qac]
theorem quf {t:TypeId} {xo yo:Operand} {k:IntKind} {a b:Int}:aBin P .sub t xo yo (.int k a) (.int k b)=some (.int k (k.wrap (a-b))):=by simp[aBin,flat,eqGuard,binOp,Op.intArith,qac]
theorem qui {t:TypeId} {xo yo:Operand} {k:IntKind} {a b:Int}:aBin P .mul t xo yo (.int k a) (.int k b)=some (.int k (k.wrap (a*b))):=by simp[aBin,flat,eqGuard,binOp,Op.intArith,qac]
theorem quh {t:TypeId} {xo yo:Operand} {k:IntKind} {a b:Int} (hb:b≠0):aBin P .quo t xo yo (.int k a) (.int k b)=some (.int k (k.wrap (a.tdiv b))):=by simp[aBin,flat,eqGuard,binOp,Op.intDiv,qac,hb]
theorem qug {t:TypeId} {xo yo:Operand} {k:IntKind} {a b:Int} (hb:b≠0):aBin P .rem t xo yo (.int k a) (.int k b)=some (.int k (a.tmod b)):=by simp[aBin,flat,eqGuard,binOp,Op.intDiv,qac,hb]
theorem OT.add {d:Nat} {t yt:TypeId} {x y:Operand} {ty:TypeId} {pos:String} {af:Array Edge} {g:Option (Nat × Bool)} {kd:IntKind} {a b:Int} (ho:ops[i]?=some ⟨some d,.binOp .add t x y yt,ty,pos,af,g⟩)
  (hw:qaj ops ⟨some d,.binOp .add t x y yt,ty,pos,af,g⟩ E=some true) (hx:qan E x=some (.int kd a)) (hy:qan E y=some (.int kd b)) (hc:kd.wrap (a+b)=a+b) (hd:qcj n d=true)
  (k:OT P F md n ops l (T.set 20 E d (.int kd (a+b))) H Q):OT P F md n ops (i::l) E H Q:=OT.op ho hw (by simp[aOp,hx,hy,quk,hc]) (Side.pure rfl) hd k
theorem OT.sub {d:Nat} {t yt:TypeId} {x y:Operand} {ty:TypeId} {pos:String} {af:Array Edge} {g:Option (Nat × Bool)} {kd:IntKind} {a b:Int} (ho:ops[i]?=some ⟨some d,.binOp .sub t x y yt,ty,pos,af,g⟩)
  (hw:qaj ops ⟨some d,.binOp .sub t x y yt,ty,pos,af,g⟩ E=some true) (hx:qan E x=some (.int kd a)) (hy:qan E y=some (.int kd b)) (hc:kd.wrap (a-b)=a-b) (hd:qcj n d=true)
  (k:OT P F md n ops l (T.set 20 E d (.int kd (a-b))) H Q):OT P F md n ops (i::l) E H Q:=OT.op ho hw (by simp[aOp,hx,hy,quf,hc]) (Side.pure rfl) hd k
theorem OT.mul {d:Nat} {t yt:TypeId} {x y:Operand} {ty:TypeId} {pos:String} {af:Array Edge} {g:Option (Nat × Bool)} {kd:IntKind} {a b:Int} (ho:ops[i]?=some ⟨some d,.binOp .mul t x y yt,ty,pos,af,g⟩)
  (hw:qaj ops ⟨some d,.binOp .mul t x y yt,ty,pos,af,g⟩ E=some true) (hx:qan E x=some (.int kd a)) (hy:qan E y=some (.int kd b)) (hc:kd.wrap (a*b)=a*b) (hd:qcj n d=true)
  (k:OT P F md n ops l (T.set 20 E d (.int kd (a*b))) H Q):OT P F md n ops (i::l) E H Q:=OT.op ho hw (by simp[aOp,hx,hy,qui,hc]) (Side.pure rfl) hd k
end
def bv (b:UInt8):Value:=.int .u8 (b.toNat:Int)
def bstr (l:List UInt8):Value:=.string ⟨l.toArray⟩
theorem qdk (l:List UInt8):(⟨l.toArray⟩:ByteArray).size=l.length:=rfl
section
variable {P:Program} {F:FuncId->Option Func} {md:Md P} {n:Nat} {ops:Array Oper} {i:Nat} {l:List Nat} {E:T Value} {H:AHeap} {Q:T Value->AHeap->Prop}
 {d:Nat} {ty:TypeId} {pos:String} {af:Array Edge} {g:Option (Nat × Bool)}
theorem OT.indexAddr {x y:Operand} {t e:TypeId} {kd:IntKind} {b off m c:Nat} {sz:Nat} {j:Int} (ho:ops[i]?=some ⟨some d,.indexAddr t x y,ty,pos,af,g⟩) (hw:qaj ops ⟨some d,.indexAddr t x y,ty,pos,af,g⟩ E=some true)
  (hx:qan E x=some (.slice (some ⟨b,off,none⟩) m c)) (hy:qan E y=some (.int kd j)) (hu:qaa P (underlying t)=some (.slice e)) (hz:qaa P (sizeOf e)=some sz) (h0:0<=j) (h1:j<m) (hd:qcj n d=true)
  (k:OT P F md n ops l (T.set 20 E d (.pointer (some ⟨b,off+j.toNat * sz,none⟩))) H Q):OT P F md n ops (i::l) E H Q:=
 OT.op ho hw (by simp[aOp,hx,hy,qby,hu,hz,h0,h1,qa6]) (Side.pure rfl) hd k
end
section
variable {P:Program} {F:FuncId->Option Func} {md:Md P} {n:Nat} {ops:Array Oper} {i:Nat} {l:List Nat} {E:T Value} {H:AHeap} {Q:T Value->AHeap->Prop}
 {d:Nat} {ty:TypeId} {pos:String} {af:Array Edge} {g:Option (Nat × Bool)}
end
section
variable {P:Program} {F:FuncId->Option Func} {md:Md P} {n:Nat} {ops:Array Oper} {i:Nat} {l:List Nat} {E:T Value} {H:AHeap} {Q:T Value->AHeap->Prop}
 {d:Nat} {ty:TypeId} {pos:String} {af:Array Edge} {g:Option (Nat × Bool)}
theorem OT.bin {op:BinOp} {t yt:TypeId} {x y:Operand} {a b v:Value} (ho:ops[i]?=some ⟨some d,.binOp op t x y yt,ty,pos,af,g⟩) (hw:qaj ops ⟨some d,.binOp op t x y yt,ty,pos,af,g⟩ E=some true) (hx:qan E x=some a) (hy:qan E y=some b)
  (hb:aBin P op t x y a b=some v) (hd:qcj n d=true) (k:OT P F md n ops l (T.set 20 E d v) H Q):OT P F md n ops (i::l) E H Q:=OT.op ho hw (by simp[aOp,hx,hy,hb]) (Side.pure rfl) hd k
theorem q2b {t:TypeId} {xo yo:Operand} {k k2:IntKind} {a b:Int} (h0:0<=b) (h1:b.toNat<=k.bits):aBin P .shr t xo yo (.int k a) (.int k2 b)=some (.int k (a / 2 ^ b.toNat)):=by
 have e:a.fdiv (2 ^ b.toNat)=a / 2 ^ b.toNat:=Int.fdiv_eq_ediv_of_nonneg _ (Int.le_of_lt (Int.pow_pos (by omega)));simp[aBin,flat,eqGuard,binOp,Op.shift,qac,Int.not_lt.2 h0,Nat.min_eq_left h1,e]
theorem q2c {t:TypeId} {xo yo:Operand} {k k2:IntKind} {a b:Int} (h0:0<=b) (h1:b.toNat<=k.bits) (hc:k.wrap (a*2 ^ b.toNat)=a*2 ^ b.toNat):aBin P .shl t xo yo (.int k a) (.int k2 b)=some (.int k (a*2 ^ b.toNat)):=by
 simp[aBin,flat,eqGuard,binOp,Op.shift,qac,Int.not_lt.2 h0,Nat.min_eq_left h1,hc]
theorem OT.quo {t yt:TypeId} {x y:Operand} {kd:IntKind} {a b:Int} (ho:ops[i]?=some ⟨some d,.binOp .quo t x y yt,ty,pos,af,g⟩)
  (hw:qaj ops ⟨some d,.binOp .quo t x y yt,ty,pos,af,g⟩ E=some true) (hx:qan E x=some (.int kd a)) (hy:qan E y=some (.int kd b)) (h0:0<=a) (h1:0<b) (hc:kd.wrap (a / b)=a / b) (hd:qcj n d=true)
  (k:OT P F md n ops l (T.set 20 E d (.int kd (a / b))) H Q):OT P F md n ops (i::l) E H Q:=OT.bin ho hw hx hy (by rw[quh (by omega),Int.tdiv_eq_ediv_of_nonneg h0,hc]) hd k
theorem OT.rem {t yt:TypeId} {x y:Operand} {kd:IntKind} {a b:Int} (ho:ops[i]?=some ⟨some d,.binOp .rem t x y yt,ty,pos,af,g⟩)
  (hw:qaj ops ⟨some d,.binOp .rem t x y yt,ty,pos,af,g⟩ E=some true) (hx:qan E x=some (.int kd a)) (hy:qan E y=some (.int kd b)) (h0:0<=a) (h1:0<b) (hd:qcj n d=true)
  (k:OT P F md n ops l (T.set 20 E d (.int kd (a % b))) H Q):OT P F md n ops (i::l) E H Q:=OT.bin ho hw hx hy (by rw[qug (by omega),Int.tmod_eq_emod_of_nonneg h0]) hd k
theorem OT.not {t:TypeId} {x:Operand} {b:Bool} (ho:ops[i]?=some ⟨some d,.unOp .not t x,ty,pos,af,g⟩) (hw:qaj ops ⟨some d,.unOp .not t x,ty,pos,af,g⟩ E=some true) (hx:qan E x=some (.bool b)) (hd:qcj n d=true)
  (k:OT P F md n ops l (T.set 20 E d (.bool (!b))) H Q):OT P F md n ops (i::l) E H Q:=OT.op ho hw (by simp[aOp,hx,flat,Op.unary,qac]) (Side.pure rfl) hd k
theorem OT.extract {x:Operand} {j:Nat} {vs:Array Value} {v:Value} (ho:ops[i]?=some ⟨some d,.extract x j,ty,pos,af,g⟩) (hw:qaj ops ⟨some d,.extract x j,ty,pos,af,g⟩ E=some true) (hx:qan E x=some (.tuple vs)) (hv:vs[j]?=some v) (hd:qcj n d=true)
  (k:OT P F md n ops l (T.set 20 E d v) H Q):OT P F md n ops (i::l) E H Q:=OT.op ho hw (by simp[aOp,hx,hv]) (Side.pure rfl) hd k
theorem q2m {t:TypeId} {xo yo:Operand} {a b:List UInt8} (hl:a.length+b.length<2 ^ 62):aBin P .add t xo yo (bstr a) (bstr b)=some (bstr (a++b)):=by
 have:(⟨a.toArray⟩:ByteArray)++(⟨b.toArray⟩:ByteArray)=⟨(a++b).toArray⟩:=by
  apply ByteArray.ext;simp
 have h2:¬ ((9223372036854775807:Int)<((⟨a.toArray⟩:ByteArray).size:Int)+((⟨b.toArray⟩:ByteArray).size:Int)):=by rw[qdk,qdk];omega
 simp[aBin,bstr,flat,eqGuard,binOp,Op.stringOp,qac,this,h2]
theorem q2k {t:TypeId} {xo yo:Operand} {a b:List UInt8}:aBin P .eql t xo yo (bstr a) (bstr b)=some (.bool (decide (a=b))):=by
 simp[aBin,bstr,flat,eqGuard,binOp,Op.stringOp,qac,Go.ByteArray.toList_eq];exact Bool.beq_eq_decide_eq _ _
end
theorem T.get_nil (t:Nat):(T.nil:T Value).get t=none:=by cases t <;> rfl
theorem Sub.nil {E':T Value}:Sub .nil E':=fun t v h=>by rw[T.get_nil] at h;cases h
theorem Sub.set {E E':T Value} {d:Nat} {v v':Value} (hd:d<2 ^ 19) (h:E'.get d=some v') (hv:v'=v) (k:Sub E E'):Sub (T.set 20 E d v) E':=fun t x hx=>by
 by_cases e:t=d
 ·subst e;rw[T.get_set_same 20 _ _ _ (by omega)] at hx
  cases hx;rw[h,hv]
 ·rw[T.get_set_other 20 _ _ _ _ e] at hx;exact k t x hx
section
variable {P:Program} {F:FuncId->Option Func} {md:Md P} {n:Nat} {ops:Array Oper} {i:Nat} {l:List Nat} {E:T Value} {H:AHeap} {Q:T Value->AHeap->Prop}
 {d:Nat} {ty:TypeId} {pos:String} {af:Array Edge} {g:Option (Nat × Bool)}
theorem OT.shr (q:Int) {t yt:TypeId} {x y:Operand} {kd k2:IntKind} {a b:Int} (ho:ops[i]?=some ⟨some d,.binOp .shr t x y yt,ty,pos,af,g⟩)
  (hw:qaj ops ⟨some d,.binOp .shr t x y yt,ty,pos,af,g⟩ E=some true) (hx:qan E x=some (.int kd a)) (hy:qan E y=some (.int k2 b)) (h0:0<=b) (h1:b.toNat<=kd.bits) (hq:(2:Int) ^ b.toNat=q) (hd:qcj n d=true)
  (k:OT P F md n ops l (T.set 20 E d (.int kd (a / q))) H Q):OT P F md n ops (i::l) E H Q:=OT.bin ho hw hx hy (by rw[q2b h0 h1,hq]) hd k
theorem OT.shl (q:Int) {t yt:TypeId} {x y:Operand} {kd k2:IntKind} {a b:Int} (ho:ops[i]?=some ⟨some d,.binOp .shl t x y yt,ty,pos,af,g⟩)
  (hw:qaj ops ⟨some d,.binOp .shl t x y yt,ty,pos,af,g⟩ E=some true) (hx:qan E x=some (.int kd a)) (hy:qan E y=some (.int k2 b)) (h0:0<=b) (h1:b.toNat<=kd.bits) (hq:(2:Int) ^ b.toNat=q) (hc:kd.wrap (a*q)=a*q) (hd:qcj n d=true)
  (k:OT P F md n ops l (T.set 20 E d (.int kd (a*q))) H Q):OT P F md n ops (i::l) E H Q:=OT.bin ho hw hx hy (by rw[q2c h0 h1 (by rw[hq,hc]),hq]) hd k
end
structure Keep (H H':AHeap) (m:Nat):Prop where
 le:H.next<=H'.next
 most:H'.next<=H.next+m
 old:∀ i,i<H.next->H'.t.get i=H.t.get i
theorem Keep.refl (H:AHeap) (m:Nat):Keep H H m:=⟨Nat.le_refl _,by omega,fun _ _=>rfl⟩
theorem Keep.trans {A B C:AHeap} {m k:Nat} (h:Keep A B m) (h2:Keep B C k):Keep A C (m+k):=
 ⟨by have:=h.le;have:=h2.le;omega,by have:=h.most;have:=h2.most;omega,fun i hi=>by rw[h2.old i (by have:=h.le;omega),h.old i hi]⟩
inductive SlB (H:AHeap):Value->List UInt8->Prop
 | nil:SlB H (.slice none 0 0) []
 | empty:SlB H emptySlice []
 | mk {b off c:Nat} {s l:List UInt8} {e:TypeId} {k:Nat} (hb:H.t.get b=some (.cells (s.map bv) e k)) (hl:off+l.length<=s.length) (hs:(s.drop off).take l.length=l) (hn:b<H.next):SlB H (.slice (some ⟨b,off,none⟩) l.length c) l
theorem SlB.keep {H H':AHeap} {m:Nat} {v:Value} {l:List UInt8} (h:SlB H v l) (k:Keep H H' m):SlB H' v l:=by
 cases h with
 | nil=>exact .nil
 | empty=>exact .empty
 | mk hb hl hs hn=>exact .mk (by rw[k.old _ hn];exact hb) hl hs (Nat.lt_of_lt_of_le hn k.le)
section
variable {P:Program} {F:FuncId->Option Func} {md:Md P} {n:Nat} {ops:Array Oper} {i:Nat} {l:List Nat} {E:T Value} {H:AHeap} {Q:T Value->AHeap->Prop}
 {d:Nat} {ty:TypeId} {pos:String} {af:Array Edge} {g:Option (Nat × Bool)}
end
theorem SlB.at {off:Nat} {s l:List UInt8} (hs:(s.drop off).take l.length=l) {j:Nat} (hj:j<l.length):s[off+j]?=some l[j]:=by
 have:l[j]?=some l[j]:=List.getElem?_eq_getElem hj;rw[<- this]
 conv=>rhs;rw[<- hs]
 rw[List.getElem?_take,if_pos hj,List.getElem?_drop]
section
variable {P:Program} {F:FuncId->Option Func} {md:Md P} {n:Nat} {ops:Array Oper} {i:Nat} {l:List Nat} {E:T Value} {H:AHeap} {Q:T Value->AHeap->Prop}
 {d:Nat} {ty:TypeId} {pos:String} {af:Array Edge} {g:Option (Nat × Bool)}
end
def M0:Map:=(List.range qjj).map fun g=>{ real:=g }
theorem qqt {g:Nat} (h:g<qjj):M0[g]?=some { real:=g }:=by simp[M0,h]
theorem zal:M0.length=qjj:=by simp[M0]
def qnw:ABlk->Bool
 | .cells vs _ k=>k == 2&&qbm vs
 | _=>false
structure Glob (G:T ABlk):Prop where
 lt:∀ g x,G.get g=some x->g<qjj
 ro:∀ g x,G.get g=some x->qnw x=true
structure Lay (G:T ABlk) (H:AHeap):Prop where
 le:qjj<=H.next
 get:∀ g x,G.get g=some x->H.t.get g=some x
theorem qev {x:ABlk} (h:qnw x=true):∃ vs e,x=.cells vs e 2/\qbm vs=true:=by
 cases x with
 | cells vs e k=>simp only[qnw,Bool.and_eq_true,beq_iff_eq] at h;obtain ⟨rfl,h⟩:=h;exact ⟨vs,e,rfl,h⟩
 | _=>simp[qnw] at h
theorem Glob.start {G:T ABlk} (hG:Glob G) {w:World} (hw:∀ g vs e,G.get g=some (.cells vs e 2)->∃ c e2 f,w.heap[g]?=some (.cells c e2 f)/\c.toList.take vs.length=vs):Rel (fun k=>k<w.heap.size) M0 ⟨qjj,G⟩ w:=by
 refine ⟨zal,fun _ h=>h,fun i x h=>hG.lt i x h,fun i b x hb hx=>?_,fun i b x hb hx=>?_,fun i j bi bj xi xj hi hj hxi hxj li lj lr er=>?_,fun g h=>qqt h⟩
 ·obtain ⟨vs,e,rfl,hf⟩:=qev (hG.ro i x hx);obtain ⟨c,e2,f,hc,_⟩:=hw i vs e hx;rw[qqt (hG.lt i _ hx)] at hb;cases hb;exact (Array.getElem?_eq_some_iff.1 hc).1
 ·obtain ⟨vs,e,rfl,hf⟩:=qev (hG.ro i x hx);obtain ⟨c,e2,⟨lo,hi⟩,hc,ht⟩:=hw i vs e hx;rw[qqt (hG.lt i _ hx)] at hb;cases hb;exact ⟨c,lo,hi,_,hc,by rw[List.drop_zero,ht];exact VRL.self hf,fun h=>(by cases h),fun h=>by omega,fun h=>absurd rfl h⟩
 ·rw[qqt (hG.lt i _ hxi)] at hi;cases hi;rw[qqt (hG.lt j _ hxj)] at hj;cases hj;exact er
theorem EvS.frame {P:Program} {G:T ABlk} (hG:Glob G) {f:FuncId} {args:Array Value} {v:Value} {H2:AHeap} (ha:qmn args=true) (hv:flat v=true) (he:EvS P (.call f args ⟨qjj,G⟩) (.value v H2)) {H:AHeap} (hL:Lay G H):EvS P (.call f args H) (.value v H):=by
 intro base M args' w cs hargs hrel;have h0:Rel (fun k=>k<w.heap.size) M0 ⟨qjj,G⟩ w:=by
  refine hG.start fun g vs e hg=>?_
  obtain ⟨c,lo,hi,e2,hc,hv,_⟩:=hrel.blk g _ _ (hrel.glob g (hG.lt g _ hg)) (hL.get g _ hg);obtain ⟨vs',e',h1,hf⟩:=qev (hG.ro g _ hg);cases h1;exact ⟨c,_,_,hc,by rw[List.drop_zero] at hv;exact (VRL.flat_iff vs hf _).1 hv⟩
 have hargs':VRA M0 args args':=by
  rw[VRA.flat_iff args ha] at hargs |-;exact hargs
 obtain ⟨M',w',v',fr',x1,x2,x3,x4,x5⟩:=he (fun k=>k<w.heap.size) M0 args' w cs hargs' h0;rw[VR.flat_iff v hv] at x2;subst x2;have keepb:∀ k,k<w.heap.size->w'.heap[k]?=w.heap[k]?:=x4.block;refine ⟨M,w',v',fr',Ext.refl M,VR.self hv,⟨hrel.len,fun k hk=>Nat.lt_of_lt_of_le (hrel.base_le k hk) x4.size,hrel.dom,fun i b x hb hx=>Nat.lt_of_lt_of_le (hrel.lt i b x hb hx) x4.size,fun i b x hb hx=>(hrel.blk i b x hb hx).keep (Ext.refl M) (keepb _ (hrel.lt i b x hb hx)),hrel.inj,hrel.glob⟩,⟨x4.os,x4.tape,x4.output,x4.size,fun k hk=>x4.block k (hrel.base_le k hk)⟩,x5⟩
section
variable {P:Program} {F:FuncId->Option Func} {md:Md P} {n:Nat} {ops:Array Oper} {i:Nat} {l:List Nat} {E:T Value} {H:AHeap} {Q:T Value->AHeap->Prop}
 {d:Nat} {ty:TypeId} {pos:String} {af:Array Edge} {g:Option (Nat × Bool)}
theorem q2e {t:TypeId} {xo yo:Operand} {a b:List UInt8}:aBin P .neq t xo yo (bstr a) (bstr b)=some (.bool (decide (a≠b))):=by
 simp[aBin,bstr,flat,eqGuard,binOp,Op.stringOp,qac,Go.ByteArray.toList_eq];rw[Bool.beq_eq_decide_eq]
end
theorem Rel.read {w:World} {M:Map} {H:AHeap} (h:Rel (fun k=>k<w.heap.size) M H w) (hr:∀ i x,H.t.get i=some x->x.ro=true) (hid:idOK H.next) {b off:Nat} {c:Array Value} {e:TypeId} {f:Nat × Nat} {vs:List Value} (hb:w.heap[b]?=some (.cells c e f)) (hv:VRL (M++[{ real:=b,sh:=off }]) vs ((c.toList.drop off).take vs.length)) :
  Rel (fun k=>k<w.heap.size) (M++[{ real:=b,sh:=off }]) (H.add (.cells vs e 2)) w where
 len:=by simp[h.len,AHeap.add]
 base_le:=h.base_le
 dom:=fun i y hy=>by
  by_cases e:i=H.next
  ·subst e;simp[AHeap.add]
  ·rw[AHeap.get_add_other e] at hy;have:=h.dom i y hy;simp[AHeap.add];omega
 lt:=fun i c x hc hx=>by
  rcases qat hc with ⟨hl,hc⟩ | ⟨_,rfl⟩
  ·rw[AHeap.get_add_other (by rw[<- h.len];omega)] at hx;exact h.lt i c x hc hx
  ·exact (Array.getElem?_eq_some_iff.1 hb).1
 blk:=fun i c y hc hy=>by
  rcases qat hc with ⟨hl,hc⟩ | ⟨rfl,rfl⟩
  ·rw[AHeap.get_add_other (by rw[<- h.len];omega)] at hy;exact (h.blk i c y hc hy).keep (Ext.snoc M _) rfl
  ·rw[h.len,AHeap.get_add hid] at hy;cases hy;obtain ⟨lo,hi⟩:=f;exact ⟨_,lo,hi,_,hb,hv,fun h=>(by cases h),fun h=>by omega,fun h=>absurd rfl h⟩
 inj:=fun i j bi bj xi xj hi hj hxi hxj li lj lr er=>by
  have ro:∀ i x,(H.add (.cells vs e 2)).t.get i=some x->x.ro=true:=fun i x hx=>by
   by_cases e:i=H.next
   ·subst e;rw[AHeap.get_add hid] at hx;cases hx;rfl
   ·rw[AHeap.get_add_other e] at hx;exact hr i x hx
  rw[ro i xi hxi,ro j xj hxj] at lr;cases lr
 glob:=fun g hg=>Ext.snoc M _ _ _ (h.glob g hg)
end Go.Ax
