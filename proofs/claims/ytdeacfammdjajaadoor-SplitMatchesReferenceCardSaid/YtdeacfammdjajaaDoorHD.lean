/-
  A part of the proof: a run over an abstract memory, its soundness and its rules; each theorem says its conditions.
-/
import Derived.Test.YtdeacfammdjajaaDoorHC
import Derived.Test.YtdeacfammdjajaaDoorGD
import Derived.Test.YtdeacfammdjajaaDoorGE
set_option linter.unusedVariables false
set_option linter.unusedSimpArgs false
namespace Go.Px
open Ax
def q48 (ρ:Operand->Option SV) (o:Oper):Option (Nat × List SV):=
 match o.op with
 | .call c=>match c.callee with
  | .value fo=>match ρ fo with
   | some (.yl l)=>match qbf ρ c.args with
    | some as=>some (l,as)
    | none=>none
   | _=>none
  | _=>none
 | _=>none
def nilC (tt:TT) (ρ:Operand->Option SV) (o:Oper):Option (Nat × Prop):=
 match o.op with
 | .binOp op t x y _=>match op,o.dst,kOf tt t with
  | .eql,some d,some (.slice _)=>match ρ x,ρ y with
   | some (.sl _ l),some .nils=>some (d,l=[])
   | _,_=>none
  | _,_,_=>none
 | _=>none
def exE (tt:TT) (G:GV) (C:CV) (Y:Yp) (S:PS) (g:Nat × Bool) (o:Oper) (K:PS->Nat × Bool->Prop):Prop:=
 match nilC tt (pv G S.env) o with
 | some (d,p)=>∀ r:Bool,(r=true->p)->K (S.with d (.bool r)) g
 | none=>match fulC tt G S o with
 | some (d,id,s,cs)=>conj (cs++(frzN [id] S).1) (K ((frzN [id] S).2.with d s) g)
 | none=>match opnX tt G S o with
 | some (cs,S')=>conj cs (K S' g)
 | none=>match q48 (pv G S.env) o with
 | some (l,as)=>match o.dst,qdh [] Y.as as with
  | some d,some (cs,y)=>match qc8 as with
   | true=>conj (cs++[l=Y.l,g.2=false,Y.ys[g.1]?=some y]) (∀ r:Bool,K (S.with d (.bool r)) (g.1+1,!r))
   | false=>False
  | _,_=>False
 | none=>match zb8 C (pv G S.env) S.blk o with
  | []=>exK tt G C false S o λ S'=>K S' g
  | i::l=>conj (frzN (i::l) S).1 (exK tt G C false (frzN (i::l) S).2 o λ S'=>K S' g)
def runE (tt:TT) (G:GV) (C:CV) (Y:Yp) (n:Nat) (ops:Array Oper):List Nat->PS->Nat × Bool->(PS->Nat × Bool->Prop)->Prop
 | [],S,g,K=>K S g
 | i::l,S,g,K=>match ops[i]? with
  | none=>False
  | some o=>match qq0 n o with
   | false=>False
   | true=>match o.guard with
    | none=>exE tt G C Y S g o λ S' g'=>runE tt G C Y n ops l S' g' K
    | some (j,want)=>match (ops[j]?).bind (·.dst) with
     | none=>False
     | some d=>match lk S.env d with
      | some (.bool b)=>bc b
        (match want with
         | true=>exE tt G C Y (S.with d (.bool true)) g o λ S' g'=>runE tt G C Y n ops l S' g' K
         | false=>runE tt G C Y n ops l ((S.with d (.bool true)).put o.dst (some (.tup []))) g K)
        (match want with
         | true=>runE tt G C Y n ops l ((S.with d (.bool false)).put o.dst (some (.tup []))) g K
         | false=>exE tt G C Y (S.with d (.bool false)) g o λ S' g'=>runE tt G C Y n ops l S' g' K)
      | some (.tup [])=>runE tt G C Y n ops l (S.put o.dst (some (.tup []))) g K
      | _=>False
def isYl (o:Oper):Bool:=match o.op with
 | .call c=>match c.callee with
  | .value (.tmp _)=>true
  | _=>false
 | _=>false
def yldAt (ops:Array Oper):Option Nat:=(List.range ops.size).find? λ i=>match ops[i]? with
 | some o=>isYl o
 | none=>false
def swY (tt:TT) (C:CV) (ops:Array Oper) (u:Nat) (a b:Oper):Bool:=match ops[u]? with
 | some o=>swE tt C ops a b && !decide (a.dst=o.dst) && !decide (b.dst=o.dst)
 | none=>false
def q4n (C:CV) (ops:Array Oper):Option Nat:=match decide (3<=(ops.toList.filter (ciOp C)).length) with
 | true=>(List.range ops.size).reverse.find? λ i=>match ops[i]? with
  | some o=>ciOp C o
  | none=>false
 | false=>none
def tlAt (C:CV) (Y:Yp) (ops:Array Oper):Option Nat:=match Y.as with
 | []=>q4n C ops
 | _::_=>yldAt ops
def yldS (tt:TT) (C:CV) (Y:Yp) (ops:Array Oper):Option Nat:=match tlAt C Y ops with
 | some u=>match qjq (swY tt C ops u) ops with
  | true=>some u
  | false=>none
 | none=>none
theorem q47 {tt:TT} {C:CV} {Y:Yp} {ops:Array Oper} {u:Nat} (h:yldS tt C Y ops=some u):u<ops.size/\qjq (swY tt C ops u) ops=true:=by
 unfold yldS at h;split at h
 next u' hu=>
  split at h
  next hd=>
   cases h;refine ⟨?_,hd⟩;unfold tlAt at hu;split at hu
   ·unfold q4n at hu;split at hu
    ·have:=List.mem_of_find?_eq_some hu;simpa using this
    ·cases hu
   ·have:=List.mem_of_find?_eq_some hu;simpa using this
  ·cases h
 ·cases h
def runU (tt:TT) (G:GV) (C:CV) (Y:Yp) (n:Nat) (ops:Array Oper) (u:Nat) (S:PS) (g:Nat × Bool) (K:PS->Nat × Bool->Prop):Prop:=match ops[u]? with
 | some o=>match qq0 n o&&o.guard.isNone with
  | true=>exE tt G C Y S g o K
  | false=>False
 | none=>False
def offR (rd:Rd) (p:Prop):Prop:=match rd with
 | .ready=>False
 | _=>p
def syE (tt:TT) (G:GV) (C:CV) (n:Nat) (Y:Yp) (K:AExit->Nat × Bool->PS->Prop) (R:List Item->Nat × Bool->PS->Prop):Rd->Nat->List Item->Nat × Bool->PS->Prop
 | rd,0,it,g,S=>offR rd (R it g S)
 | _,_+1,[],g,S=>K .normal g S
 | rd,_+1,.inLoop c::k,g,S=>offR rd (R (.code c::.inLoop c::k) g S)
 | rd,m+1,.inBlock _::k,g,S=>syE tt G C n Y K R rd m k g S
 | rd,m+1,.inScope _::k,g,S=>syE tt G C n Y K R rd m k g S
 | rd,m+1,.beginRound::k,g,S=>match rd with
  | .ready=>syE tt G C n Y K R .busy m k g S
  | _=>False
 | rd,m+1,.code c::k,g,S=>match c with
  | .skip=>syE tt G C n Y K R rd m k g S
  | .label _=>syE tt G C n Y K R rd m k g S
  | .seq a b=>syE tt G C n Y K R rd m (.code a::.code b::k) g S
  | .cond o a b=>match pv G S.env o with
   | some (.bool t)=>bc t (syE tt G C n Y K R rd m (.code a::k) g S) (syE tt G C n Y K R rd m (.code b::k) g S)
   | _=>False
  | .block id c=>syE tt G C n Y K R rd m (.code c::.inBlock id::k) g S
  | .scope c=>syE tt G C n Y K R rd m (.code c::.inScope c::k) g S
  | .loop c=>offR rd (R (.code c::.inLoop c::k) g S)
  | .exit id=>match exitTo id k with
   | some k'=>syE tt G C n Y K R rd m k' g S
   | none=>K (.exit id) g S
  | .goto l=>match gotoIn l k with
   | some k'=>syE tt G C n Y K R rd m k' g S
   | none=>K (.goto l) g S
  | .ret=>K .ret g S
  | .region _ ops false=>runE tt G C Y n ops (List.range ops.size) S g λ S' g'=>syE tt G C n Y K R rd m k g' S'
  | .region _ ops true=>match yldS tt C Y ops with
   | some u=>runO tt G C true n ops (List.range u) (loses C S ops) λ S'=>runU tt G C Y n ops u S' g λ S' g'=>runO tt G C true n ops (List.range' (u+1) (ops.size-(u+1))) S' λ S'=>syE tt G C n Y K R rd m k g' S'
   | none=>match qjq (swE tt C ops) ops with
    | true=>runO tt G C true n ops (List.range ops.size) (loses C S ops) λ S'=>syE tt G C n Y K R rd m k g S'
    | false=>False
  | .rangeFunc f ps a b=>offR rd (R (.code (.rangeFunc f ps a b)::k) g S)
  | _=>False
 | _,_+1,_,_,_=>False
def endK (tt:TT) (G:GV) (res:List ResultVar) (Q:List SV->List (Nat × LB)->Prop):AExit->Nat × Bool->PS->Prop
 | .normal,_,S=>match rsOf tt G S res with
  | some rs=>Q rs S.blk
  | none=>False
 | .ret,_,S=>match rsOf tt G S res with
  | some rs=>Q rs S.blk
  | none=>False
 | _,_,_=>False
def sy (tt:TT) (G:GV) (C:CV) (n:Nat) (res:List ResultVar) (Q:List SV->List (Nat × LB)->Prop) (R:List Item->PS->Prop) (m:Nat) (it:List Item) (S:PS):Prop:=
 syE tt G C n Y0 (endK tt G res Q) (λ it _ S=>R it S) .fn m it (0,false) S
def Good (P:Program) (tt:TT) (G:GV) (f:FuncId) (n:Nat) (res:List ResultVar) (Q:List SV->List (Nat × LB)->Prop) (it:List Item) (S:PS):Prop:=
 GoodE P G f n .fn Y0 (endK tt G res Q) it (0,false) S
section
variable {P:Program} {tt:TT} {G:GV} {C:CV} {f:FuncId} {n:Nat} {rd:Rd} {Y:Yp} {K:AExit->Nat × Bool->PS->Prop} {g:Nat × Bool} {res:List ResultVar} {Q:List SV->List (Nat × LB)->Prop}
theorem GoodE.any {it:List Item} {S:PS} (hy:Y.ys=[]) (hk:∀ e g g' S,K e g S->K e g' S) (h:GoodE P G f n rd Y K it g S) (g2:Nat × Bool):GoodE P G f n rd Y K it g2 S:=by
 intro base Yd J lr b cs M a w Z ν E H A B ds st;have hd':HdOK P base G Y Yd (λ _ _ A B H=>J g2.1 g2.2 A B H):=⟨λ i s A B H H' h1=>st.hd.stab _ _ A B H H' h1,λ i s A B H h1=>st.hd.dom _ _ A B H h1,λ i y A B H M w Z args args' c cs h1=>by rw[hy] at h1;simp at h1⟩;obtain ⟨e,g',S',M',a',w',Z',ν',E',H',A',B',ds',k0,x1,x2,x3⟩:=h base Yd (λ _ _ A B H=>J g2.1 g2.2 A B H) lr b cs M a w Z ν E H A B ds ⟨hd',st.j,st.dis,st.bz,st.yz,st.yn,st.yo,st.fr,st.lp,st.er,st.mark,st.mb,st.rel,st.pr,st.gz⟩;exact ⟨e,g2,S',M',a',w',Z',ν',E',H',A',B',ds',k0,hk _ _ _ _ x1,⟨st.hd,x2.j,x2.dis,x2.bz,x2.yz,x2.yn,x2.yo,x2.fr,x2.lp,x2.er,x2.mark,x2.mb,x2.rel,x2.pr,x2.gz⟩,x3⟩
theorem q2m (e:AExit) (g g':Nat × Bool) (S:PS) (h:endK tt G res Q e g S):endK tt G res Q e g' S:=by
 cases e <;> exact h
def Reg (P:Program) (G:GV) (f:FuncId) (n:Nat) (rd:Rd) (Y:Yp) (ops:Array Oper) (l:List Nat) (g:Nat × Bool) (S:PS) (K':PS->Nat × Bool->Prop):Prop:=
 ∀ (base:Prot) (Yd:Nat->Prop) (J:Jt) (lr:LR) (b:Frame) (cs:List Frame) (M:Map) (a:Act) (w:World) (Z:Nat->Option ABlk) (ν:Nu) (E:T Value) (H:AHeap) (A B:Nat->Prop) (ds:List Nat) (k:List Item),
  OnW P G f n rd Y base Yd J lr b g S M a w Z ν E H A B ds->∃ g1 S1 M1 a1 w1 Z1 ν1 E1 H1 A1 B1,OnW P G f n rd Y base Yd J lr b g1 S1 M1 a1 w1 Z1 ν1 E1 H1 A1 B1 ds/\Ext M M1/\Below base w w1/\FCY (XL rd lr) Z ν S H A B Z1 ν1 S1 H1 A1 B1 /\
   Steps P (lone (Fr b a (.inRegion ops l::k)) cs w) (lone (Fr b a1 k) cs w1)/\K' S1 g1
theorem qzn {ρ:Operand->Option SV} {o:Oper} {l:Nat} {as:List SV} (h:q48 ρ o=some (l,as)):∃ c fo,o.op=.call c/\c.callee=.value fo/\ρ fo=some (.yl l)/\qbf ρ c.args=some as:=by
 unfold q48 at h;split at h
 next c hop=>
  split at h
  next fo hcal=>
   split at h
   next l' hl=>
    split at h
    next as' has=>cases h;exact ⟨c,fo,hop,hcal,hl,has⟩
    ·cases h
   ·cases h
  ·cases h
 ·cases h
theorem VS.yl {Z:Nat->Option ABlk} {ν:Nu} {l:Nat} {v:Value} (h:VS Z ν (.yl l) v):v=.func (.yield l) #[] #[]:=by
 have:CR Z ν (.yl l) [v]:=h;simp only[CR] at this
 cases this;rfl
theorem q4r (hx:CxOK P tt G C) {ops:Array Oper} {i:Nat} {l:List Nat} {o:Oper} {S:PS} {K':PS->Nat × Bool->Prop} (ho:ops[i]?=some o) (hd:∀ d,o.dst=some d->d<n/\d<500000) (h:exK tt G C false S o λ S'=>Reg P G f n rd Y ops l g S' K')
  {base:Prot} {Yd:Nat->Prop} {J:Jt} {lr:LR} {b:Frame} (cs:List Frame) {M:Map} {a:Act} {w:World} {Z:Nat->Option ABlk} {ν:Nu} {E:T Value} {H:AHeap} {A B:Nat->Prop} {ds:List Nat} (k:List Item)
  (st:OnW P G f n rd Y base Yd J lr b g S M a w Z ν E H A B ds) (hw:qar ops o E=some true) :
  ∃ g1 S1 M1 a1 w1 Z1 ν1 E1 H1 A1 B1,OnW P G f n rd Y base Yd J lr b g1 S1 M1 a1 w1 Z1 ν1 E1 H1 A1 B1 ds/\Ext M M1/\Below base w w1/\FCY (XL rd lr) Z ν S H A B Z1 ν1 S1 H1 A1 B1 /\
   Steps P (lone (Fr b a (.inRegion ops (i::l)::k)) cs w) (lone (Fr b a1 k) cs w1)/\K' S1 g1:=by
 obtain ⟨S1,⟨cs1,h1,h1c⟩,_,h2⟩:=qun h;obtain ⟨M1,Z1,ν1,E1,H1,a1,w1,x1,x2,x3,x4,x5,x6,x7,x8⟩:=qfv hx (rest:=l) ho hd hw ⟨cs1,h1,h1c⟩ st.er st.rel st.pr st.gz b k cs;obtain ⟨g2,S2,M2,a2,w2,Z2,ν2,E2,H2,A2,B2,y1,y2,y3,y4,y5,y6⟩:=h2 base Yd J lr b cs M1 a1 w1 Z1 ν1 E1 H1 A B ds k (st.next x1 x2 x3 x4 x6 x7);exact ⟨g2,S2,M2,a2,w2,Z2,ν2,E2,H2,A2,B2,y1,x1.trans y2,x5.trans y3,(FCY.of x7).trans y4,x8.trans y5,y6⟩
theorem q7r {t e:TypeId} {xo yo:Operand} (h:qaa P (underlying t)=some (.slice e)) :
  aBin P .eql t xo yo (.slice none 0 0) (.slice none 0 0)=some (.bool true)/\∀ a n c,aBin P .eql t xo yo (.slice (some a) n c) (.slice none 0 0)=some (.bool false):=by
 constructor
 ·have e1:qaa P (eqGuard .eql t xo yo (.slice none 0 0) (.slice none 0 0))=some ():=by simp[eqGuard,qac]
  have e2:qaa P (binOp .eql t (.slice none 0 0) (.slice none 0 0))=some (.bool true):=by
   simp only[binOp];rw[qae];have:qaa P (Op.equal t (.slice none 0 0) (.slice none 0 0))=some true:=by
    have e:Op.equal t (.slice none 0 0) (.slice none 0 0)=Op.equalIn (9999+1) t (.slice none 0 0) (.slice none 0 0):=by unfold Op.equal Op.maxDepth;rfl
    rw[e,Op.equalIn,qae,h];rfl
   rw[this];rfl
  unfold aBin;rw[if_pos (by rfl),qae,e1,Option.bind_some,e2];rfl
 ·intro a n c;unfold aBin;rw[if_neg (by simp[Ax.flat]),h];rfl
theorem qxw {ρ:Operand->Option SV} {o:Oper} {d:Nat} {p:Prop} (h:nilC tt ρ o=some (d,p)):∃ t x y ty e et l,o.op=.binOp .eql t x y ty/\o.dst=some d/\kOf tt t=some (.slice et)/\ρ x=some (.sl e l)/\ρ y=some .nils/\p=(l=[]):=by
 unfold nilC at h;split at h
 next op t x y ty hop=>
  split at h
  next d' et hdst hk=>
   split at h
   next e l h1 h2=>cases h;exact ⟨t,x,y,ty,e,et,l,hop,hdst,hk,h1,h2,rfl⟩
   ·cases h
  ·cases h
 ·cases h
theorem q7s (hx:CxOK P tt G C) {ops:Array Oper} {i:Nat} {l:List Nat} {o:Oper} {S:PS} {d:Nat} {p:Prop} (hn:nilC tt (pv G S.env) o=some (d,p)) (ho:ops[i]?=some o) (hd:∀ d,o.dst=some d->d<n/\d<500000)
  {base:Prot} {M:Map} {a:Act} {w:World} {Z:Nat->Option ABlk} {ν:Nu} {E:T Value} {H:AHeap} (hw:qar ops o E=some true) (her:ER M n E a.tmps) (hrel:Rel base M H w) (hp:PR Z ν S E H) (hg:GZ Z G) (b:Frame) (k:List Item) (cs:List Frame) :
  ∃ r:Bool,(r=true->p)/\∃ M' E' H' a' w',Ext M M'/\ER M' n E' a'.tmps/\a'.defers=a.defers/\Rel base M' H' w'/\Below base w w'/\PR Z ν (S.with d (.bool r)) E' H'/\FC Z ν S H Z ν (S.with d (.bool r)) H' /\
   Steps P (lone (Fr b a (.inRegion ops (i::l)::k)) cs w) (lone (Fr b a' (.inRegion ops l::k)) cs w'):=by
 obtain ⟨t,x,y,ty,e,et,l0,hop,hdst,hk,h1,h2,rfl⟩:=qxw hn;have hρ:=qbs hp hg;obtain ⟨vx,hvx,hsx⟩:=hρ _ _ h1;obtain ⟨vy,hvy,hsy⟩:=hρ _ _ h2;have hy:vy=.slice none 0 0:=by
  have:CR Z ν .nils [vy]:=hsy;simp only[CR] at this
  cases this;rfl
 subst hy;have hu:qaa P (underlying t)=some (.slice et):=hx.ty.kind hk;obtain ⟨b1,b2⟩:=q7r (xo:=x) (yo:=y) hu;have hsl:SlR Z (RV Z e) e.size l0 vx:=by
  have:CR Z ν (.sl e l0) [vx]:=hsx;simp only[CR,RV] at this;obtain ⟨v,hv,hr⟩:=this
  cases hv;exact hr
 have key:∃ r:Bool,(r=true->l0=[])/\aBin P .eql t x y vx (.slice none 0 0)=some (.bool r):=by
  rcases hsl with ⟨hl,rfl | rfl⟩ | ⟨bb,off,cap,cs',et',k',rfl,_⟩
  ·exact ⟨true,λ _=>hl,b1⟩
  ·exact ⟨false,by simp,b2 _ _ _⟩
  ·exact ⟨false,by simp,b2 _ _ _⟩
 obtain ⟨r,hr,hb⟩:=key;have hF:∀ f,(λ f=>(lk C f).isSome) f=true->∀ args w,(callFunc f args).run P w=.ok (.enter f args) w:=by
  intro f hf;exact hx.enter f hf
 obtain ⟨E',hE⟩:∃ E',putE n (some d) (.bool r) E=some E':=⟨_,by simp only[putE];rw[if_pos (hd d hdst)]⟩;have hop2:aOp P (λ f=>(lk C f).isSome) (qc4 E) H o=some (.val (.bool r),H):=by
  obtain ⟨dst,op,type,pos,after,guard⟩:=o;simp only at hop;subst hop;simp[aOp,hvx,hvy,hb]
 have hst:qbw P (λ f=>(lk C f).isSome) noEv n ops i (E,H)=some (E',H):=by
  simp[qbw,ho,qip,hw,hop2,hdst,hE]
 obtain ⟨M',a',w',x1,x2,x3,x4,x5,x6⟩:=qa4 (base:=base) hF (λ r res h=>by cases h) (rest:=l) hst her hrel b k cs;exact ⟨r,hr,M',E',H,a',w',x1,x2,x3,x4,x5,hp.put hE VS.mkBool,FC.same λ _=>rfl,x6⟩
theorem qyz (hx:CxOK P tt G C) {ops:Array Oper} {i:Nat} {l:List Nat} {o:Oper} {S:PS} {K':PS->Nat × Bool->Prop} (ho:ops[i]?=some o) (hd:∀ d,o.dst=some d->d<n/\d<500000) (h:exE tt G C Y S g o λ S' g'=>Reg P G f n rd Y ops l g' S' K')
  {base:Prot} {Yd:Nat->Prop} {J:Jt} {lr:LR} {b:Frame} (cs:List Frame) {M:Map} {a:Act} {w:World} {Z:Nat->Option ABlk} {ν:Nu} {E:T Value} {H:AHeap} {A B:Nat->Prop} {ds:List Nat} (k:List Item)
  (st:OnW P G f n rd Y base Yd J lr b g S M a w Z ν E H A B ds) (hw:qar ops o E=some true) :
  ∃ g1 S1 M1 a1 w1 Z1 ν1 E1 H1 A1 B1,OnW P G f n rd Y base Yd J lr b g1 S1 M1 a1 w1 Z1 ν1 E1 H1 A1 B1 ds/\Ext M M1/\Below base w w1/\FCY (XL rd lr) Z ν S H A B Z1 ν1 S1 H1 A1 B1 /\
   Steps P (lone (Fr b a (.inRegion ops (i::l)::k)) cs w) (lone (Fr b a1 k) cs w1)/\K' S1 g1:=by
 unfold exE at h;split at h
 next d0 p0 hnil=>obtain ⟨r,hr,M1,E1,H1,a1,w1,x1,x2,x3,x4,x5,x6,x7,x8⟩:=q7s hx (l:=l) hnil ho hd hw st.er st.rel st.pr st.gz b k cs;obtain ⟨g2,S2,M2,a2,w2,Z2,ν2,E2,H2,A2,B2,y1,y2,y3,y4,y5,y6⟩:=h r hr base Yd J lr b cs M1 a1 w1 Z ν E1 H1 A B ds k (st.next x1 x2 x3 x4 x6 x7);exact ⟨g2,S2,M2,a2,w2,Z2,ν2,E2,H2,A2,B2,y1,x1.trans y2,x5.trans y3,(FCY.of x7).trans y4,x8.trans y5,y6⟩
 split at h
 next d0 id0 s0 cs0 hful=>rw[qbn] at h;obtain ⟨hc,h1⟩:=h;obtain ⟨Z1,M1,E1,H1,a1,w1,x1,x2,x3,x4,x5,x6,_,x7,x8⟩:=q8k hx (l:=l) hful (λ c h=>hc c (List.mem_append_left _ h)) (λ c h=>hc c (List.mem_append_right _ h)) ho hd hw st.er st.rel st.pr st.gz b k cs;obtain ⟨g2,S2,M2,a2,w2,Z2,ν2,E2,H2,A2,B2,y1,y2,y3,y4,y5,y6⟩:=h1 base Yd J lr b cs M1 a1 w1 Z1 ν E1 H1 A B ds k (st.next x1 x2 x3 x4 x6 x7);exact ⟨g2,S2,M2,a2,w2,Z2,ν2,E2,H2,A2,B2,y1,x1.trans y2,x5.trans y3,(FCY.of x7).trans y4,x8.trans y5,y6⟩
 split at h
 next cs1 S1 hopx=>rw[qbn] at h;obtain ⟨hc,h1⟩:=h;obtain ⟨M1,Z1,ν1,E1,H1,a1,w1,x1,x2,x3,x4,x5,x6,x7,x8⟩:=qxk hx (rest:=l) ho hd hw hopx hc st.er st.rel st.pr st.gz b k cs;obtain ⟨g2,S2,M2,a2,w2,Z2,ν2,E2,H2,A2,B2,y1,y2,y3,y4,y5,y6⟩:=h1 base Yd J lr b cs M1 a1 w1 Z1 ν1 E1 H1 A B ds k (st.next x1 x2 x3 x4 x6 x7);exact ⟨g2,S2,M2,a2,w2,Z2,ν2,E2,H2,A2,B2,y1,x1.trans y2,x5.trans y3,(FCY.of x7).trans y4,x8.trans y5,y6⟩
 split at h
 next l0 as hy=>
  split at h
  next d cs0 y hdst hrd=>
   split at h
   next hnw=>
    rw[qbn] at h;obtain ⟨hc,h1⟩:=h;have e1:l0=Y.l:=hc _ (List.mem_append_right _ (by simp));have e2:g.2=false:=hc _ (List.mem_append_right _ (by simp));have e3:Y.ys[g.1]?=some y:=hc _ (List.mem_append_right _ (by simp));subst e1;obtain ⟨c,fo,hop,hcal,hf,has⟩:=qzn hy;have hρ:=qbs st.pr st.gz;obtain ⟨vf,hvf,hfs⟩:=hρ _ _ hf;rw[hfs.yl] at hvf;obtain ⟨vl,hvl,hls⟩:=qaw hρ has;have hF:∀ f,(λ f=>(lk C f).isSome) f=true->∀ args w,(callFunc f args).run P w=.ok (.enter f args) w:=by
     intro f hf;exact hx.enter f hf
    have hop2:aOp P (λ f=>(lk C f).isSome) (qc4 E) H o=some (.yld Y.l (#[]++vl.toArray),H):=by
     obtain ⟨dst,op,type,pos,after,guard⟩:=o;simp only at hop;subst hop;simp[aOp,qig,hcal,hvl,hvf,qjl]
    have hndf:=qco hop2;obtain ⟨bi,args',hbi,hva,hrel',hrun⟩:=qf1 (P:=P) st.rel hF (qcc st.er st.rel.glob) hop2;have hwr:=qcm st.er hw;have hva0:VArgs Z Y.as y (#[]++vl.toArray).toList:=by
     have:=qel (S:=⟨[],[]⟩) hrd hnw hls;simpa using this
    have hj:J g.1 false A B H:=by have:=st.j;rw[e2] at this;exact this
    obtain ⟨bi',hbi',M',H',w',A',B',r,v',fn,tmps,assign,body,q1,q2,q3,q4,q5,q6,q7,q8,q9,q10,q11⟩:=st.hd.yld g.1 y A B H M w Z _ args' (Fr b a (.inRegion ops (i::l)::k)) cs e3 hj st.rel hva0 st.pr.zh st.gz st.bz st.yz hva;rw[hbi] at hbi';cases hbi';have hdomA:=(st.hd.dom _ _ _ _ _ st.j).1;have hBA:=(st.hd.dom _ _ _ _ _ st.j).2;have hownlt:∀ c,Own ν S c->c<H.next:=λ c hc=>let ⟨y,g1,_⟩:=qc0 st.pr hc;st.rel.dom _ _ g1
    have hp1:PR Z ν S E H':=st.pr.growI (B:=B) q9 (λ c ho hB=>st.dis c (hBA c hB) ho) st.bz;obtain ⟨E',hE⟩:∃ E',putE n (some d) (.bool r) E=some E':=⟨_,by simp only[putE];rw[if_pos (hd d hdst)]⟩;obtain ⟨z1,z2⟩:=qbi (st.er.mono q2) hE q3;have hp2:PR Z ν (S.with d (.bool r)) E' H':=hp1.put hE VS.mkBool;have st':OnW P G f n rd Y base Yd J lr b (g.1+1,!r) (S.with d (.bool r)) M' (a.put (some d) v') w' Z ν E' H' A' B' ds:=by
     refine ⟨st.hd,q7,λ c hA ho=>?_,λ c hB=>?_,st.yz,λ c hc=>st.yn c (Nat.le_trans q8 hc),st.yo,st.fr.mono q2,λ hr=>?_,z1,?_,λ c hc hB=>?_,q4,hp2,st.gz⟩
     ·rcases q11 c hA with k1 | k1 | k1
      ·exact st.dis c k1 ho
      ·have:=hownlt c ho;omega
      ·exact k1 (st.pr.zo c ho)
     ·rcases q10 c hB with k1 | k1
      ·exact st.bz c k1
      ·cases hz:Z c with
       | none=>rfl
       | some x=>have:=st.rel.dom _ _ (st.pr.zh c x hz).1;omega
     ·obtain ⟨g1,sl,g2,g3⟩:=st.lp hr;refine ⟨λ hA=>?_,sl,q9 _ _ g2 λ hB=>g1 (hBA _ hB),g3⟩;rcases q11 _ hA with k1 | k1 | k1
      ·exact g1 k1
      ·have:=st.rel.dom _ _ g2;omega
      ·obtain ⟨x,hx⟩:=Option.ne_none_iff_exists'.1 k1;obtain ⟨g4,g5⟩:=st.pr.zh _ x hx;rw[g2] at g4;cases g4;exact g5.elim
     ·refine ⟨by rw[z2];exact st.mark.1.mono q2,λ c hc=>q9 _ _ (st.mark.2.1 c hc) (λ hB=>st.mb c hc (hBA c hB)),st.mark.2.2⟩
     ·rcases q11 c hB with k1 | k1 | k1
      ·exact st.mb c hc k1
      ·have:=st.rel.dom _ _ (st.mark.2.1 c hc);omega
      ·obtain ⟨x,hx⟩:=Option.ne_none_iff_exists'.1 k1;obtain ⟨g1,g2⟩:=st.pr.zh c x hx;rw[st.mark.2.1 c hc] at g1;cases g1;exact g2.elim
    have hfc:FCY (XL rd lr) Z ν S H A B Z ν (S.with d (.bool r)) H' A' B':=⟨ZLe.refl _,λ _ h=>.inl h,q8,λ c x g1 _ _ g4 _=>q9 c x g1 g4,λ c hc=>.inl hc,q10,q11,λ id _ h=>⟨h,rfl⟩⟩;have hst:Steps P (lone (Fr b a (.inRegion ops (i::l)::k)) cs w) (lone (Fr b (a.put (some d) v') (.inRegion ops l::k)) cs w'):=by
     refine .head (qke ho hwr hndf (hrun.trans q1)) ?_;rw[Fr.finish,ho,Option.bind_some,hdst] at q6;exact q6
    obtain ⟨g2,S2,M2,a2,w2,Z2,ν2,E2,H2,A2,B2,y1,y2,y3,y4,y5,y6⟩:=h1 r base Yd J lr b cs M' _ w' Z ν E' H' A' B' ds k st';exact ⟨g2,S2,M2,a2,w2,Z2,ν2,E2,H2,A2,B2,y1,q2.trans y2,q5.trans y3,hfc.trans y4,hst.trans y5,y6⟩
   ·exact h.elim
  ·exact h.elim
 ·split at h
  ·exact q4r hx ho hd h cs k st hw
  ·rw[qbn] at h;obtain ⟨hc,h⟩:=h;obtain ⟨Z1,h1,h2,_⟩:=qg8 _ st.pr hc;have st1:=st.next (Ext.refl M) st.er rfl st.rel h1 h2;obtain ⟨g2,S2,M2,a2,w2,Z2,ν2,E2,H2,A2,B2,y1,y2,y3,y4,y5,y6⟩:=q4r hx ho hd h cs k st1 hw;exact ⟨g2,S2,M2,a2,w2,Z2,ν2,E2,H2,A2,B2,y1,y2,y3,(FCY.of h2).trans y4,y5,y6⟩
theorem qs2 {dr:Bool} {S:PS} {o:Oper} {K1 K2:PS->Prop} (hk:∀ S,K1 S->K2 S) (h:exK tt G C dr S o K1):exK tt G C dr S o K2:=by
 unfold exK at h |-;split at h
 ·split at h
  ·exact h.elim
  ·rw[qh9] at h |-;exact ⟨λ q=>hk _ (h.1 q),λ q=>hk _ (h.2 q)⟩
 ·split at h
  next cs S' he=>
   split at h
   ·rw[qbn] at h |-;exact ⟨h.1,hk _ h.2⟩
   ·exact h.elim
  ·exact h.elim
theorem qj3 {S:PS} {o:Oper} {K1 K2:PS->Nat × Bool->Prop} (hk:∀ S g,K1 S g->K2 S g) (h:exE tt G C Y S g o K1):exE tt G C Y S g o K2:=by
 unfold exE at h |-;split at h
 ·exact λ r hr=>hk _ _ (h r hr)
 split at h
 ·rw[qbn] at h |-;exact ⟨h.1,hk _ _ h.2⟩
 split at h
 ·rw[qbn] at h |-;exact ⟨h.1,hk _ _ h.2⟩
 split at h
 ·split at h
  ·split at h
   ·rw[qbn] at h |-;exact ⟨h.1,λ r=>hk _ _ (h.2 r)⟩
   ·exact h.elim
  ·exact h.elim
 ·split at h
  ·exact qs2 (λ S h=>hk S g h) h
  ·rw[qbn] at h |-;exact ⟨h.1,qs2 (λ S h=>hk S g h) h.2⟩
theorem OnW.ext {base:Prot} {Yd:Nat->Prop} {J:Jt} {lr:LR} {b:Frame} {S S':PS} {M:Map} {a:Act} {w:World} {Z:Nat->Option ABlk} {ν:Nu} {E:T Value} {H:AHeap} {A B:Nat->Prop} {ds:List Nat} (st:OnW P G f n rd Y base Yd J lr b g S M a w Z ν E H A B ds)
  (he:∀ t,lk S'.env t=lk S.env t) (hb:∀ t,lk S'.blk t=lk S.blk t):OnW P G f n rd Y base Yd J lr b g S' M a w Z ν E H A B ds:=by
 have ho:∀ c,Own ν S' c->Own ν S c:=λ c ⟨id,lb,ni,h1,h2,h3⟩=>⟨id,lb,ni,by rw[<- hb];exact h1,h2,h3⟩
 exact ⟨st.hd,st.j,λ c hA h=>st.dis c hA (ho c h),st.bz,st.yz,st.yn,λ c h=>st.yo c (ho c h),st.fr,st.lp,st.er,st.mark,st.mb,st.rel,st.pr.ext he hb,st.gz⟩
theorem qhm (hx:CxOK P tt G C) {ops:Array Oper}:∀ (l:List Nat) {S:PS} {g:Nat × Bool} {K':PS->Nat × Bool->Prop},runE tt G C Y n ops l S g K'->Reg P G f n rd Y ops l g S K'
 | [],S,g,K',h=>λ base Yd J lr b cs M a w Z ν E H A B ds k st=>⟨g,S,M,a,w,Z,ν,E,H,A,B,st,Ext.refl M,Below.refl _ _,FCY.refl,.one qhg,h⟩
 | i::l,S,g,K',h=>by
  simp only[runE] at h;split at h
  ·exact h.elim
  next o ho=>
   split at h
   ·exact h.elim
   next hd=>
    have hd:=qh5 hd;intro base Yd J lr b cs M a w Z ν E H A B ds k st;split at h
    next hg=>exact qyz hx ho hd (qj3 (λ S' g' h'=>qhm hx l h') h) cs k st (by simp[qar,hg])
    next j want hg=>
     split at h
     ·exact h.elim
     next d hj=>
      split at h
      next bb hb=>
       rw[qh9] at h;obtain ⟨ht,hf⟩:=h;have hget:E.get d=some (.bool bb):=by
        obtain ⟨v,h1,h2⟩:=st.pr.env d _ hb;rw[h2.bool] at h1;exact h1
       have hw:qar ops o E=some (some bb == some want):=by simp[qar,hg,qlm,hj,hget]
       have hsame:∀ t,lk (S.with d (.bool bb)).env t=lk S.env t:=by
        intro t;simp only[PS.with,qas];split
        next e=>subst e;exact hb.symm
        ·rfl
       have go:exE tt G C Y (S.with d (.bool bb)) g o (λ S' g'=>runE tt G C Y n ops l S' g' K')->bb=want->∃ g1 S1 M1 a1 w1 Z1 ν1 E1 H1 A1 B1,OnW P G f n rd Y base Yd J lr b g1 S1 M1 a1 w1 Z1 ν1 E1 H1 A1 B1 ds/\Ext M M1/\Below base w w1/\FCY (XL rd lr) Z ν S H A B Z1 ν1 S1 H1 A1 B1 /\
         Steps P (lone (Fr b a (.inRegion ops (i::l)::k)) cs w) (lone (Fr b a1 k) cs w1)/\K' S1 g1:=by
        intro h0 e;subst e;obtain ⟨g2,S2,M2,a2,w2,Z2,ν2,E2,H2,A2,B2,y1,y2,y3,y4,y5⟩:=qyz hx ho hd (qj3 (λ S' g' h'=>qhm hx l h') h0) cs k (st.ext hsame λ _=>rfl) (by rw[hw];simp);exact ⟨g2,S2,M2,a2,w2,Z2,ν2,E2,H2,A2,B2,y1,y2,y3,⟨y4.z,y4.zn,y4.le,y4.old,y4.own,y4.bb,y4.aa,y4.big⟩,y5⟩
       have skip:runE tt G C Y n ops l ((S.with d (.bool bb)).put o.dst (some (.tup []))) g K'->bb=(!want)->∃ g1 S1 M1 a1 w1 Z1 ν1 E1 H1 A1 B1,OnW P G f n rd Y base Yd J lr b g1 S1 M1 a1 w1 Z1 ν1 E1 H1 A1 B1 ds/\Ext M M1/\Below base w w1/\FCY (XL rd lr) Z ν S H A B Z1 ν1 S1 H1 A1 B1 /\
         Steps P (lone (Fr b a (.inRegion ops (i::l)::k)) cs w) (lone (Fr b a1 k) cs w1)/\K' S1 g1:=by
        intro h0 e;subst e;have hs:StpI tt G C ops n i S ((S.with d (.bool (!want))).put o.dst (some (.tup []))):=⟨o,ho,hd,.inr (.inl ⟨j,want,d,!want,hg,hj,hb,.inr ⟨rfl,_,.inr rfl,rfl⟩⟩)⟩;obtain ⟨M1,Z1,ν1,E1,H1,a1,w1,x1,x2,x3,x4,x5,x6,x7,x8⟩:=qru hx (rest:=l) hs st.er st.rel st.pr st.gz b k cs;obtain ⟨g2,S2,M2,a2,w2,Z2,ν2,E2,H2,A2,B2,y1,y2,y3,y4,y5,y6⟩:=qhm hx l h0 base Yd J lr b cs M1 a1 w1 Z1 ν1 E1 H1 A B ds k (st.next x1 x2 x3 x4 x6 x7);exact ⟨g2,S2,M2,a2,w2,Z2,ν2,E2,H2,A2,B2,y1,x1.trans y2,x5.trans y3,(FCY.of x7).trans y4,x8.trans y5,y6⟩
       cases bb with
       | true=>
        have ht:=ht rfl
        cases want with
        | true=>exact go ht rfl
        | false=>exact skip ht rfl
       | false=>
        have hf:=hf rfl
        cases want with
        | true=>exact skip hf rfl
        | false=>exact go hf rfl
      next hb=>have hs:StpI tt G C ops n i S (S.put o.dst (some (.tup []))):=⟨o,ho,hd,.inr (.inr ⟨j,want,d,hg,hj,hb,rfl⟩)⟩;obtain ⟨M1,Z1,ν1,E1,H1,a1,w1,x1,x2,x3,x4,x5,x6,x7,x8⟩:=qru hx (rest:=l) hs st.er st.rel st.pr st.gz b k cs;obtain ⟨g2,S2,M2,a2,w2,Z2,ν2,E2,H2,A2,B2,y1,y2,y3,y4,y5,y6⟩:=qhm hx l h base Yd J lr b cs M1 a1 w1 Z1 ν1 E1 H1 A B ds k (st.next x1 x2 x3 x4 x6 x7);exact ⟨g2,S2,M2,a2,w2,Z2,ν2,E2,H2,A2,B2,y1,x1.trans y2,x5.trans y3,(FCY.of x7).trans y4,x8.trans y5,y6⟩
      ·exact h.elim
theorem qr4 (hx:CxOK P tt G C) {ops:Array Oper} {rest:List Nat}:∀ (l:List Nat) {base:Prot} {M:Map} {Z:Nat->Option ABlk} {ν:Nu} {S S':PS} {E:T Value} {H:AHeap} {a:Act} {w:World},Runs (StpE tt G C ops n) l S S'->ER M n E a.tmps->Rel base M H w->PR Z ν S E H->GZ Z G->∀ (b:Frame) (k:List Item) (cs:List Frame),
  ∃ M' Z' ν' E' H' a' w',Ext M M'/\ER M' n E' a'.tmps/\a'.defers=a.defers/\Rel base M' H' w'/\Below base w w'/\PR Z' ν' S' E' H'/\FC Z ν S H Z' ν' S' H'/\Steps P (lone (Fr b a (.inRegion ops (l++rest)::k)) cs w) (lone (Fr b a' (.inRegion ops rest::k)) cs w')
 | [],base,M,Z,ν,S,S',E,H,a,w,h,her,hrel,hp,hg,b,k,cs=>by
  cases h;exact ⟨M,Z,ν,E,H,a,w,Ext.refl M,her,rfl,hrel,Below.refl _ _,hp,FC.refl _ _ _ _,.refl _ _⟩
 | i::l,base,M,Z,ν,S,S',E,H,a,w,⟨S1,h1,h2⟩,her,hrel,hp,hg,b,k,cs=>by
  obtain ⟨M1,Z1,ν1,E1,H1,a1,w1,x1,x2,x3,x4,x5,x6,x7,x8⟩:=qrt hx (rest:=l++rest) h1 her hrel hp hg b k cs;obtain ⟨M2,Z2,ν2,E2,H2,a2,w2,y1,y2,y3,y4,y5,y6,y7,y8⟩:=qr4 hx l h2 x2 x4 x6 (hg.mono x7.z) b k cs;exact ⟨M2,Z2,ν2,E2,H2,a2,w2,x1.trans y1,y2,y3.trans x3,y4,x5.trans y5,y6,x7.trans y7,x8.trans y8⟩
def StpW (tt:TT) (G:GV) (C:CV) (ops:Array Oper) (n u i:Nat) (x y:PS × Bool):Prop:=
 (i<u/\x.2=false/\y.2=false/\StpE tt G C ops n i x.1 y.1)\/(i=u/\x.2=false/\y.1=x.1/\y.2=true)\/(u<i/\x.2=true/\y.1=x.1/\y.2=true)
def StpV (tt:TT) (G:GV) (C:CV) (ops:Array Oper) (n u i:Nat) (x y:PS):Prop:=
 (i<=u/\y=x)\/(u<i/\StpE tt G C ops n i x y)
def EqY (x y:PS × Bool):Prop:=Eqv x.1 y.1/\x.2=y.2
theorem q37 {ops:Array Oper} {u i j:Nat} {oi oj:Oper} (hi:ops[i]?=some oi) (hj:ops[j]?=some oj) (h:swY tt C ops u oj oi=true):swE tt C ops oj oi=true/\i≠u/\j≠u:=by
 unfold swY at h;split at h
 next o ho=>
  simp only[Bool.and_eq_true,Bool.not_eq_true',decide_eq_false_iff_not] at h;obtain ⟨⟨h1,h2⟩,h3⟩:=h;refine ⟨h1,λ e=>?_,λ e=>?_⟩
  ·subst e;rw[hi] at ho;cases ho;exact h3 rfl
  ·subst e;rw[hj] at ho;cases ho;exact h2 rfl
 ·cases h
theorem za5 (ht:TTOK P tt) {ops:Array Oper} (u:Nat):Sw ops (StpW tt G C ops n u) EqY (swY tt C ops u):=by
 have h:=qwa (G:=G) (C:=C) (n:=n) (ops:=ops) ht;refine ⟨λ x=>⟨h.refl _,rfl⟩,λ x y z h1 h2=>⟨h.trans _ _ _ h1.1 h2.1,h1.2.trans h2.2⟩,?_,?_⟩
 ·rintro i ⟨S,t⟩ ⟨S',t'⟩ ⟨S1,t1⟩ ⟨he,et⟩ hs;simp only at he et;subst et;rcases hs with ⟨h1,h2,h3,h4⟩ | ⟨h1,h2,h3,h4⟩ | ⟨h1,h2,h3,h4⟩
  ·obtain ⟨y',k1,k2⟩:=h.cong i S S' S1 he h4;exact ⟨(y',false),.inl ⟨h1,h2,rfl,k1⟩,k2,h3⟩
  ·simp only at h3 h4;subst h3;exact ⟨(S',true),.inr (.inl ⟨h1,h2,rfl,rfl⟩),he,h4⟩
  ·simp only at h3 h4;subst h3;exact ⟨(S',true),.inr (.inr ⟨h1,h2,rfl,rfl⟩),he,h4⟩
 ·rintro i j oi oj ⟨S,t⟩ ⟨S1,t1⟩ ⟨S2,t2⟩ hi hj hs h1 h2;obtain ⟨q1,q2,q3⟩:=q37 hi hj hs;rcases h1 with ⟨a1,a2,a3,a4⟩ | ⟨a1,_⟩ | ⟨a1,a2,a3,a4⟩
  ·rcases h2 with ⟨b1,b2,b3,b4⟩ | ⟨b1,_⟩ | ⟨b1,b2,_⟩
   ·obtain ⟨x3,x4,k1,k2,k3⟩:=h.swap i j oi oj S S1 S2 hi hj q1 a4 b4;exact ⟨(x3,false),(x4,false),.inl ⟨b1,a2,rfl,k1⟩,.inl ⟨a1,rfl,rfl,k2⟩,k3,b3⟩
   ·exact absurd b1 q2
   ·simp only at a3 b2;rw[a3] at b2;cases b2
  ·exact absurd a1 q3
  ·rcases h2 with ⟨b1,b2,b3,b4⟩ | ⟨b1,_⟩ | ⟨b1,b2,b3,b4⟩
   ·simp only at a4 b2;rw[a4] at b2;cases b2
   ·exact absurd b1 q2
   ·simp only at a2 a3 a4 b3 b4;subst a3;subst b3;exact ⟨(_,true),(_,true),.inr (.inr ⟨b1,a2,rfl,rfl⟩),.inr (.inr ⟨a1,rfl,rfl,rfl⟩),h.refl _,b4⟩
theorem za6 (ht:TTOK P tt) {ops:Array Oper} (u:Nat):Sw ops (StpV tt G C ops n u) Eqv (swY tt C ops u):=by
 have h:=qwa (G:=G) (C:=C) (n:=n) (ops:=ops) ht;refine ⟨h.refl,h.trans,?_,?_⟩
 ·rintro i S S' S1 he (⟨h1,h2⟩ | ⟨h1,h2⟩)
  ·subst h2;exact ⟨S',.inl ⟨h1,rfl⟩,he⟩
  ·obtain ⟨y',k1,k2⟩:=h.cong i S S' S1 he h2;exact ⟨y',.inr ⟨h1,k1⟩,k2⟩
 ·rintro i j oi oj S S1 S2 hi hj hs h1 h2;obtain ⟨q1,q2,q3⟩:=q37 hi hj hs;rcases h1 with ⟨a1,a2⟩ | ⟨a1,a2⟩
  ·subst a2;exact ⟨S2,S2,h2,.inl ⟨a1,rfl⟩,h.refl _⟩
  ·rcases h2 with ⟨b1,b2⟩ | ⟨b1,b2⟩
   ·subst b2;exact ⟨S,S2,.inl ⟨b1,rfl⟩,.inr ⟨a1,a2⟩,h.refl _⟩
   ·obtain ⟨x3,x4,k1,k2,k3⟩:=h.swap i j oi oj S S1 S2 hi hj q1 a2 b2;exact ⟨x3,x4,.inr ⟨b1,k1⟩,.inr ⟨a1,k2⟩,k3⟩
theorem ql1 {ops:Array Oper} {u:Nat}:∀ (l:List Nat) {x y:PS × Bool},x.2=true->Runs (StpW tt G C ops n u) l x y->y.1=x.1/\∀ i∈l,u<i
 | [],x,y,_,h=>by cases h;exact ⟨rfl,by simp⟩
 | i::l,x,y,hx,⟨z,h1,h2⟩=>by
  rcases h1 with ⟨_,a2,_⟩ | ⟨_,a2,_⟩ | ⟨a1,a2,a3,a4⟩
  ·rw[hx] at a2;cases a2
  ·rw[hx] at a2;cases a2
  ·obtain ⟨b1,b2⟩:=ql1 l a4 h2;exact ⟨b1.trans a3,λ k hk=>(List.mem_cons.1 hk).elim (λ e=>e ▸ a1) (b2 k)⟩
theorem qki {ops:Array Oper} {u:Nat}:∀ (l:List Nat) {S:PS} {y:PS × Bool},y.2=true->Runs (StpW tt G C ops n u) l (S,false) y->∃ l1 l2,l=l1++u::l2/\(∀ i∈l1,i<=u)/\(∀ i∈l2,u<i)/\Runs (StpE tt G C ops n) l1 S y.1
 | [],S,y,hy,h=>by cases h;cases hy
 | i::l,S,y,hy,⟨⟨S1,t1⟩,h1,h2⟩=>by
  rcases h1 with ⟨a1,_,a3,a4⟩ | ⟨a1,_,a3,a4⟩ | ⟨_,a2,_⟩
  ·simp only at a3 a4;subst a3;obtain ⟨l1,l2,b1,b2,b3,b4⟩:=qki l hy h2;exact ⟨i::l1,l2,by rw[b1];rfl,λ k hk=>(List.mem_cons.1 hk).elim (λ e=>by omega) (b2 k),b3,S1,a4,b4⟩
  ·simp only at a3 a4;subst a1;subst a3;subst a4;obtain ⟨b1,b2⟩:=ql1 l rfl h2;exact ⟨[],l,rfl,by simp,b2,b1.symm⟩
  ·cases a2
theorem qr5 {ops:Array Oper} {u:Nat}:∀ (l:List Nat) {S S':PS},(∀ i∈l,i<u)->Runs (StpE tt G C ops n) l S S'->Runs (StpW tt G C ops n u) l (S,false) (S',false)
 | [],S,S',_,h=>by cases h;rfl
 | i::l,S,S',hl,⟨S1,h1,h2⟩=>⟨(S1,false),.inl ⟨hl i (by simp),rfl,rfl,h1⟩,qr5 l (λ j hj=>hl j (by simp[hj])) h2⟩
theorem qop {ops:Array Oper} {u:Nat}:∀ (l:List Nat) {S:PS},(∀ i∈l,u<i)->Runs (StpW tt G C ops n u) l (S,true) (S,true)
 | [],S,_=>rfl
 | i::l,S,hl=>⟨(S,true),.inr (.inr ⟨hl i (by simp),rfl,rfl,rfl⟩),qop l (λ j hj=>hl j (by simp[hj]))⟩
theorem qkj {ops:Array Oper} {u:Nat}:∀ (l:List Nat) {x y:PS},(∀ i∈l,i<=u)->(Runs (StpV tt G C ops n u) l x y↔y=x)
 | [],x,y,_=>⟨λ h=>h.symm,λ h=>h.symm⟩
 | i::l,x,y,hl=>by
  have hi:=hl i (by simp);have ih:∀ {x:PS},(Runs (StpV tt G C ops n u) l x y↔y=x):=fun {x}=>qkj l (x:=x) (y:=y) (λ j hj=>hl j (by simp[hj]))
  constructor
  ·rintro ⟨z,⟨_,h1⟩ | ⟨h1,_⟩,h2⟩
   ·subst h1;exact ih.1 h2
   ·omega
  ·intro h;exact ⟨x,.inl ⟨hi,rfl⟩,ih.2 h⟩
theorem qil {ops:Array Oper} {u:Nat}:∀ (l:List Nat) {x y:PS},(∀ i∈l,u<i)->(Runs (StpV tt G C ops n u) l x y↔Runs (StpE tt G C ops n) l x y)
 | [],x,y,_=>Iff.rfl
 | i::l,x,y,hl=>by
  have hi:=hl i (by simp);have ih:∀ {x:PS},(Runs (StpV tt G C ops n u) l x y↔Runs (StpE tt G C ops n) l x y):=fun {x}=>qil l (x:=x) (y:=y) (λ j hj=>hl j (by simp[hj]))
  constructor
  ·rintro ⟨z,⟨h1,_⟩ | ⟨_,h1⟩,h2⟩
   ·omega
   ·exact ⟨z,h1,ih.1 h2⟩
  ·rintro ⟨z,h1,h2⟩;exact ⟨z,.inr ⟨hi,h1⟩,ih.2 h2⟩
theorem qwp {ops:Array Oper} {u:Nat} {S:PS} {K1 K2:PS->Nat × Bool->Prop} (hk:∀ S g,K1 S g->K2 S g) (h:runU tt G C Y n ops u S g K1):runU tt G C Y n ops u S g K2:=by
 unfold runU at h |-;split at h
 ·split at h
  ·exact qj3 hk h
  ·exact h.elim
 ·exact h.elim
theorem GoodE.drawY (hx:CxOK P tt G C) {id u:Nat} {ops:Array Oper} {k:List Item} {S S1 S2:PS} {K':PS->Nat × Bool->Prop} (hd:qjq (swY tt C ops u) ops=true) (hu:u<ops.size) (hr:Runs (StpE tt G C ops n) (List.range u) S S1) (he:Eqv S1 S2)
  (h:runU tt G C Y n ops u S2 g λ S' g'=>∃ S3 S4,Runs (StpE tt G C ops n) (List.range' (u+1) (ops.size-(u+1))) S' S3/\Eqv S3 S4/\K' S4 g') (hk:∀ S' g',K' S' g'->GoodE P G f n rd Y K k g' S'):GoodE P G f n rd Y K (.code (.region id ops true)::k) g S:=by
 refine .on (k:=k) λ base Yd J lr b cs M a w Z ν E H A B ds st=>?_
 have e0:List.range ops.size=List.range u++(u::List.range' (u+1) (ops.size-(u+1))):=by
  have q:=List.range'_append_1 (s:=0) (m:=u) (n:=ops.size-u);rw[Nat.zero_add,show u+(ops.size-u)=ops.size by omega] at q;rw[List.range_eq_range',List.range_eq_range',<- q,show ops.size-u=(ops.size-(u+1))+1 by omega,List.range'_succ]
 have hm1:∀ i∈List.range u,i<u:=λ i hi=>by simpa using hi
 have hm2:∀ i∈List.range' (u+1) (ops.size-(u+1)),u<i:=λ i hi=>by have:=List.mem_range'_1.1 hi;omega
 have hrun:Runs (StpW tt G C ops n u) (List.range ops.size) (S,false) (S1,true):=by
  rw[e0,Runs.append];exact ⟨(S1,false),qr5 _ hm1 hr,(S1,true),.inr (.inl ⟨rfl,rfl,rfl,rfl⟩),qop _ hm2⟩
 obtain ⟨⟨S3,t3⟩,hr2,he2,ht⟩:=qdg hx.mix (za5 (G:=G) (C:=C) (n:=n) hx.ty u) (w.tape w.drawn (.order b.fn id)) hd hrun;simp only at he2 ht;obtain ⟨l1,l2,e1,c1,c2,hr3⟩:=qki _ ht.symm hr2;simp only at hr3;obtain ⟨M1,Z1,ν1,E1,H1,a1,w1,y1,y2,y3,y4,y5,y6,y7,y8⟩:=qr4 hx (rest:=u::l2) l1 hr3 st.er (st.rel.of_heap (w':={ w with drawn:=w.drawn+1 }) rfl) st.pr st.gz b k cs;have he3:Eqv S2 S3:=he.symm.trans he2;have y7':=y7.eqv he3.symm;have hb1:Below base w w1:=(show Below base w { w with drawn:=w.drawn+1 } from ⟨rfl,rfl,rfl,Nat.le_refl _,λ _ _=>rfl⟩).trans y5;have hreg:Reg P G f n rd Y ops (u::l2) g S2 K':=by
  have hl2:∀ (S':PS) (g':Nat × Bool),(∃ S3 S4,Runs (StpE tt G C ops n) (List.range' (u+1) (ops.size-(u+1))) S' S3/\Eqv S3 S4/\K' S4 g')->Reg P G f n rd Y ops l2 g' S' K':=by
   rintro S' g' ⟨S5,S6,k1,k2,k3⟩;have hv:Runs (StpV tt G C ops n u) (List.range ops.size) S' S5:=by
    rw[e0,Runs.append];exact ⟨S',(qkj _ λ i hi=>Nat.le_of_lt (hm1 i hi)).2 rfl,S',.inl ⟨Nat.le_refl _,rfl⟩,(qil _ hm2).2 k1⟩
   obtain ⟨S7,hv2,he5⟩:=qdg hx.mix (za6 (G:=G) (C:=C) (n:=n) hx.ty u) (w.tape w.drawn (.order b.fn id)) hd hv;rw[e1,Runs.append] at hv2;obtain ⟨z,v1,z2,v2,v3⟩:=hv2;have v1:=(qkj l1 c1).1 v1;subst v1;have v2:z2=z:=v2.elim (λ q=>q.2) (λ q=>by have:=q.1;omega);subst v2;have v3:=(qil l2 c2).1 v3;intro base' Yd' J' lr' b' cs' M' a' w' Z' ν' E' H' A' B' ds' k' st';obtain ⟨M2,Z2,ν2,E2,H2,a2,w2,x1,x2,x3,x4,x5,x6,x7,x8⟩:=qna hx l2 v3 st'.er st'.rel st'.pr st'.gz b' k' cs';have he6:Eqv S6 S7:=k2.symm.trans he5;have x7':=x7.eqv he6.symm;exact ⟨g',S6,M2,a2,w2,Z2,ν2,E2,H2,A',B',st'.next x1 x2 x3 x4 (x6.eqv he6.symm) x7',x1,x5,.of x7',x8,k3⟩
  unfold runU at h;split at h
  next o ho=>
   split at h
   next hdg=>
    simp only[Bool.and_eq_true] at hdg;intro base' Yd' J' lr' b' cs' M' a' w' Z' ν' E' H' A' B' ds' k' st';have hgn:o.guard=none:=by
     cases hg:o.guard with
     | none=>rfl
     | some q=>rw[hg] at hdg;cases hdg.2
    exact qyz hx ho (qh5 (by simp[hdg.1])) (qj3 (λ S' g' h'=>hl2 S' g' h') h) cs' k' st' (by simp[qar,hgn])
   ·exact h.elim
  ·exact h.elim
 obtain ⟨g1,S4,M4,a4,w4,Z4,ν4,E4,H4,A4,B4,z1,z2,z3,z4,z5,z6⟩:=hreg base Yd J lr b cs M1 a1 w1 Z1 ν1 E1 H1 A B ds k (st.next y1 y2 y3 y4 (y6.eqv he3.symm) y7');refine ⟨g1,S4,M4,a4,w4,Z4,ν4,E4,H4,A4,B4,ds,z1,y1.trans z2,hb1.trans z3,(FCY.of y7').trans z4,λ _ h=>.inl h,λ _=>rfl,.head qgl ?_,hk _ _ z6⟩;rw[e1];exact y8.trans z5
theorem q2n (hx:CxOK P tt G C) {id u:Nat} {ops:Array Oper} {k:List Item} {S:PS} (hlt:u<ops.size) (hd:qjq (swY tt C ops u) ops=true) {K':PS->Nat × Bool->Prop} (h:runO tt G C true n ops (List.range u) (loses C S ops) λ S'=>runU tt G C Y n ops u S' g λ S' g'=>runO tt G C true n ops (List.range' (u+1) (ops.size-(u+1))) S' λ S'=>K' S' g') (hk:∀ S' g',K' S' g'->GoodE P G f n rd Y K k g' S'):GoodE P G f n rd Y K (.code (.region id ops true)::k) g S:=by
 obtain ⟨S',S'',h1,h2,h3⟩:=qcr hx.ty _ (Eqv.refl _) h;refine GoodE.less (qsp C S ops) (λ t s h=>h) (GoodE.drawY hx hd hlt h1 h2 (qwp (λ S g h=>?_) h3) hk);obtain ⟨T',T'',k1,k2,k3⟩:=qcr hx.ty _ (Eqv.refl _) h;exact ⟨T'',T',k1,k2,k3⟩
theorem GoodE.regionE (hx:CxOK P tt G C) {id:Nat} {ops:Array Oper} {k:List Item} {S:PS} {K':PS->Nat × Bool->Prop} (h:runE tt G C Y n ops (List.range ops.size) S g K') (hk:∀ S' g',K' S' g'->GoodE P G f n rd Y K k g' S'):GoodE P G f n rd Y K (.code (.region id ops false)::k) g S:=by
 refine .on (k:=k) λ base Yd J lr b cs M a w Z ν E H A B ds st=>?_
 obtain ⟨g1,S1,M1,a1,w1,Z1,ν1,E1,H1,A1,B1,y1,y2,y3,y4,y5,y6⟩:=qhm (rd:=rd) hx _ h base Yd J lr b cs M a w Z ν E H A B ds k st;exact ⟨g1,S1,M1,a1,w1,Z1,ν1,E1,H1,A1,B1,ds,y1,y2,y3,y4,λ _ h=>.inl h,λ _=>rfl,.head qwd y5,hk _ _ y6⟩
theorem GoodE.begin {k:List Item} {S:PS} (h:GoodE P G f n .busy Y K k g S):GoodE P G f n .ready Y K (.beginRound::k) g S:=by
 intro base Yd J lr b cs M a w Z ν E H A B ds st;obtain ⟨hB,sl,hget,hst⟩:=st.lp (by simp);obtain ⟨bl,hbl,hrd⟩:=st.fr.2.2;obtain ⟨hbb,L',hcell,q1,q2,q3,q4,q5,q6,q7,bq,q8,q9⟩:=st.rel.blk _ _ _ hbl hget;have hlt:=st.rel.lt _ _ _ hbl hget;have hbr:=run_beginRound (P:=P) hcell (by rw[q1];exact hst rfl);have ht:=qba w bl.real (.loop { L' with state:=.busy });have hrel2:=st.rel.put (y:=.loop { lr.L with state:=.busy } lr.E lr.n) hbl hget rfl rfl (Nat.zero_le _) ht.size ht.other ⟨hbb,{ L' with state:=.busy },qb7 _ hlt,rfl,q2,q3,q4,q5,q6,q7,bq,q8,q9⟩;have hoth:∀ c,c≠lr.l->(H.put lr.l (.loop { lr.L with state:=.busy } lr.E lr.n)).t.get c=H.t.get c:=λ c hc=>AHeap.get_put_other hc
 have hnZ:Z lr.l=none:=by
  cases hz:Z lr.l with
  | none=>rfl
  | some x=>obtain ⟨g1,g2⟩:=st.pr.zh _ x hz;rw[hget] at g1;cases g1;exact g2.elim
 have hnO:∀ c,Own ν S c->c≠lr.l:=by
  rintro c ho rfl;obtain ⟨y,g1,g2⟩:=qc0 st.pr ho;rw[hget] at g1;cases g1;rcases g2 with g2 | ⟨es,g2⟩ | ⟨_,_,g2⟩
  ·exact g2
  ·cases g2
  ·cases g2
 have hp2:PR Z ν S E (H.put lr.l (.loop { lr.L with state:=.busy } lr.E lr.n)):=st.pr.growI (B:=λ c=>c=lr.l) (λ c y hy hc=>by rw[hoth c hc];exact hy) hnO (λ c hc=>by rw[hc];exact hnZ);have st':OnW P G f n .busy Y base Yd J lr b g S M a _ Z ν E (H.put lr.l (.loop { lr.L with state:=.busy } lr.E lr.n)) A B ds:=
  ⟨st.hd,st.hd.stab _ _ _ _ _ _ st.j (λ c y hA hy=>by rw[hoth c (by rintro rfl;exact hB hA)];exact hy) (Nat.le_refl _),st.dis,st.bz,st.yz,st.yn,st.yo,st.fr,λ _=>⟨hB,_,AHeap.get_put (Nat.zero_le _),λ h=>by cases h⟩,st.er,
   ⟨st.mark.1,λ c hc=>by rw[hoth c (by rintro rfl;have:=st.mark.2.1 _ hc;rw[hget] at this;cases this)];exact st.mark.2.1 c hc,st.mark.2.2⟩,st.mb,hrel2,hp2,st.gz⟩
 obtain ⟨e,g',S',M',a',w',Z',ν',E',H',A',B',ds',k0,x1,x2,x3,x4,x5,x6,x7,x8,x9⟩:=h base Yd J lr b cs M a _ Z ν E _ A B ds st';refine ⟨e,g',S',M',a',w',Z',ν',E',H',A',B',ds',k0,x1,x2,x3,(ht.below hbb).trans x4,⟨x5.z,x5.zn,x5.le,λ c y g1 g2 g3 g4 g5=>?_,x5.own,x5.bb,x5.aa,x5.big⟩,x6,λ _=>x7 (by simp),.head (qm6 hrd hbr) x8,x9⟩;have hc:c≠lr.l:=λ hc=>g5 ⟨by simp,hc⟩
 exact x5.old c y (by rw[hoth c hc];exact g1) g2 g3 g4 λ h=>hc h.2
theorem qkb (hx:CxOK P tt G C) {R:List Item->Nat × Bool->PS->Prop} (hR:∀ it g S,R it g S->GoodE P G f n rd.out Y K it g S):∀ (m:Nat) (rd':Rd) (it:List Item) (g:Nat × Bool) (S:PS),rd'.out=rd.out->syE tt G C n Y K R rd' m it g S->GoodE P G f n rd' Y K it g S:=by
 intro m
 induction m with
 | zero=>
  intro rd' it g S hrd h;have h:offR rd' (R it g S):=by simpa only[syE] using h
  cases rd' with
  | ready=>exact h.elim
  | fn=>have:=hR _ _ _ h;rw[<- hrd] at this;exact this
  | busy=>have:=hR _ _ _ h;rw[<- hrd] at this;exact this
 | succ m ih=>
  intro rd' it g S hrd h;have hRR:∀ {it:List Item} {g:Nat × Bool} {S:PS},offR rd' (R it g S)->GoodE P G f n rd' Y K it g S:=by
   intro it g S h
   cases rd' with
   | ready=>exact h.elim
   | fn=>have:=hR _ _ _ h;rw[<- hrd] at this;exact this
   | busy=>have:=hR _ _ _ h;rw[<- hrd] at this;exact this
  match it with
  | []=>exact .fin (e:=.normal) h rfl
  | .inLoop c::k=>exact .step (λ _ _ _ _=>qwe) (hRR h)
  | .inBlock id::k=>exact .step (λ _ _ _ _=>qtw) (ih _ _ _ _ hrd h)
  | .inScope c::k=>exact .step (λ _ _ _ _=>qtv) (ih _ _ _ _ hrd h)
  | .beginRound::k=>
   cases rd' with
   | ready=>exact .begin (ih _ _ _ _ hrd h)
   | fn=>exact h.elim
   | busy=>exact h.elim
  | .code c::k=>
   cases c with
   | skip=>exact .step (λ _ _ _ _=>q6a) (ih _ _ _ _ hrd h)
   | label l=>exact .step (λ _ _ _ _=>q0c) (ih _ _ _ _ hrd h)
   | seq a b=>exact .step (λ _ _ _ _=>zbb) (ih _ _ _ _ hrd h)
   | cond o a b=>
    simp only[syE] at h;split at h
    next t ht=>rw[qh9] at h;exact .cond ht (λ e=>ih _ _ _ _ hrd (h.1 e)) (λ e=>ih _ _ _ _ hrd (h.2 e))
    ·exact h.elim
   | block id c=>exact .step (λ _ _ _ _=>q0d) (ih _ _ _ _ hrd h)
   | scope c=>exact .step (λ _ _ _ _=>q0b) (ih _ _ _ _ hrd h)
   | loop c=>exact .step (λ _ _ _ _=>q6d) (hRR h)
   | exit id=>
    simp only[syE] at h;split at h
    next k' hk=>exact .step (λ _ _ _ _=>q6f hk) (ih _ _ _ _ hrd h)
    next hk=>exact .fin (e:=.exit id) h ⟨k,rfl,hk⟩
   | goto l=>
    simp only[syE] at h;split at h
    next k' hk=>exact .step (λ _ _ _ _=>q6e hk) (ih _ _ _ _ hrd h)
    next hk=>exact .fin (e:=.goto l) h ⟨k,rfl,hk⟩
   | ret=>exact .fin (e:=.ret) h ⟨k,rfl⟩
   | region id ops draw=>
    cases draw with
    | false=>
     simp only[syE] at h;exact .regionE hx h λ S' g' h'=>ih _ _ _ _ hrd h'
    | true=>
     simp only[syE] at h;split at h
     next u hu=>obtain ⟨hu,hd⟩:=q47 hu;exact q2n hx hu hd h λ S' g' hS=>ih _ _ _ _ hrd hS
     ·split at h
      next hd=>exact q8q hx hd h λ S' hS=>ih _ _ _ _ hrd hS
      ·exact h.elim
   | rangeFunc f ps a b=>exact hRR h
   | refuse w=>exact h.elim
  | .inRegion _ _::k=>exact h.elim
  | .inRangeFunc _::k=>exact h.elim
  | .endRangeFunc _::k=>exact h.elim
  | .call _ _ _ _::k=>exact h.elim
  | .extern _ _::k=>exact h.elim
theorem qoh (hx:CxOK P tt G C) {R:List Item->PS->Prop} (hR:∀ it S,R it S->Good P tt G f n res Q it S) (m:Nat) (it:List Item) (S:PS) (h:sy tt G C n res Q R m it S):Good P tt G f n res Q it S:=
 qkb (rd:=.fn) hx (R:=λ it _ S=>R it S) (λ it g S h=>(hR it S h).any rfl (λ e g g' S h=>q2m e g g' S h) g) m .fn it (0,false) S rfl h
theorem qak (hx:CxOK P tt G C):∀ (m:Nat) (it:List Item) (S:PS),sy tt G C n res Q (Good P tt G f n res Q) m it S->Good P tt G f n res Q it S:=qoh hx λ _ _ h=>h
theorem Good.less {it:List Item} {S S':PS} (he:∀ t s,lk S'.env t=some s->lk S.env t=some s) (hb:∀ t s,lk S'.blk t=some s->lk S.blk t=some s) (h:Good P tt G f n res Q it S'):Good P tt G f n res Q it S:=GoodE.less he hb h
def qaj (l b:List Nat) (S:PS):PS:=⟨S.env.filter λ p=>l.contains p.1,S.blk.filter λ p=>b.contains p.1⟩
theorem qea {α:Type} {p:Nat->Bool} {i:Nat} {x:α}:∀ {l:List (Nat × α)},lk (l.filter λ q=>p q.1) i=some x->lk l i=some x
 | [],h=>by simp[lk] at h
 | (a,y)::l,h=>by
  simp only[lk]
  cases hp:p a with
  | true=>
   simp only[List.filter_cons,hp,if_true,lk] at h;split at h
   next e=>rw[if_pos e];exact h
   next e=>rw[if_neg e];exact qea h
  | false=>
   simp only[List.filter_cons,hp,Bool.false_eq_true,if_false] at h;split
   next e=>
    subst e;exfalso;have:∀ {l:List (Nat × α)},lk (l.filter λ q=>p q.1) a=some x->False:=by
     intro l
     induction l with
     | nil=>intro h;simp[lk] at h
     | cons q l ih=>
      obtain ⟨c,z⟩:=q;intro h
      cases hc:p c with
      | true=>
       simp only[List.filter_cons,hc,if_true,lk] at h;split at h
       next e=>subst e;rw[hp] at hc;cases hc
       ·exact ih h
      | false=>
       simp only[List.filter_cons,hc,Bool.false_eq_true,if_false] at h;exact ih h
    exact this h
   ·exact qea h
theorem Good.keep {l b:List Nat} {it:List Item} {S:PS} (h:Good P tt G f n res Q it (qaj l b S)):Good P tt G f n res Q it S:=
 Good.less (λ _ _ e=>qea (p:=λ i=>l.contains i) e) (λ _ _ e=>qea (p:=λ i=>b.contains i) e) h
end
section
variable {P:Program} {tt:TT} {G:GV} {f:FuncId} {n:Nat} {res:List ResultVar} {Q:List SV->List (Nat × LB)->Prop}
theorem qij:∀ (ds:List Nat) (H:AHeap),(∀ d∈ds,H.t.get d=some (.deferred true))->ds.Nodup->∃ H2,qka H ds=some H2/\H2.next=H.next/\∀ b,b ∉ ds->H2.t.get b=H.t.get b
 | [],H,_,_=>⟨H,rfl,rfl,λ _ _=>rfl⟩
 | d::ds,H,h,hn=>by
  simp only[List.nodup_cons] at hn;have hd:=h d (by simp)
  obtain ⟨H2,h1,h2,h3⟩:=qij ds (H.put d (.deferred false)) (λ c hc=>by
   rw[AHeap.get_put_other (by rintro rfl;exact hn.1 hc)]
   exact h c (by simp[hc])) hn.2
  refine ⟨H2,?_,h2,λ b hb=>?_⟩
  ·simp only[qka,hd];rw[if_pos (Nat.zero_le _)];exact h1
  ·simp only[List.mem_cons,not_or] at hb;rw[h3 b hb.2,AHeap.get_put_other hb.1]
theorem Hd0 {base:Prot} {G:GV} {Yd:Nat->Prop}:HdOK P base G Y0 Yd (λ _ _ A B _=>(∀ b,¬ A b)/\∀ b,¬ B b):=
 ⟨λ _ _ _ _ _ _ h _ _=>h,λ _ _ _ _ _ h=>⟨λ b hb=>absurd hb (h.1 b),λ b hb=>absurd hb (h.2 b)⟩,λ i y A B H M w Z args args' c cs h=>by
  have h:([]:List (DL Y0.as))[i]?=some y:=h
  rw[List.getElem?_nil] at h;cases h⟩
theorem Good.ends {it:List Item} {S:PS} (h:Good P tt G f n res Q it S) {base:Prot} {M:Map} {b:Frame} {a:Act} {cs:List Frame} {w:World} {Z:Nat->Option ABlk} {ν:Nu} {E:T Value} {H:AHeap} (hfr:FrOK M ⟨f,none,n⟩ b) (her:ER M n E a.tmps) (hdf:a.defers=[]) (hrel:Rel base M H w) (hp:PR Z ν S E H) (hg:GZ Z G) :
  ∃ rs S' M' Z' ν' E' H' a' w' k0,rsOf tt G S' res=some rs/\Q rs S'.blk/\Ext M M'/\ER M' n E' a'.tmps/\a'.defers=[]/\Rel base M' H' w'/\Below base w w'/\PR Z' ν' S' E' H'/\FC Z ν S H Z' ν' S' H' /\
   Steps P (lone (Fr b a it) cs w) (lone { Fr b a' k0 with mode:=.returning } cs w'):=by
 have st:OnW P G f n .fn Y0 base (λ _=>True) (λ _ _ A B _=>(∀ b,¬ A b)/\∀ b,¬ B b) ⟨0,default,.nil,0⟩ b (0,false) S M a w Z ν E H (λ _=>False) (λ _=>False) []:=
  ⟨Hd0,⟨λ _ h=>h,λ _ h=>h⟩,λ _ h=>h.elim,λ _ h=>h.elim,λ _ _=>trivial,λ _ _=>trivial,λ _ _=>trivial,hfr,λ h=>absurd rfl h,her,⟨by rw[hdf];rfl,by simp,by simp⟩,by simp,hrel,hp,hg⟩
 obtain ⟨e,g',S',M',a',w',Z',ν',E',H',A',B',ds',k0,x1,x2,x3,x4,x5,x6,_,x7,x8⟩:=h base _ _ ⟨0,default,.nil,0⟩ b cs M a w Z ν E H _ _ [] st;have hend:(∃ rs,rsOf tt G S' res=some rs/\Q rs S'.blk)/\(k0=[]\/∃ k1,k0=.code .ret::k1):=by
  cases e with
  | normal=>
   simp only[endK] at x1;split at x1
   next rs hrs=>exact ⟨⟨rs,hrs,x1⟩,.inl x8⟩
   ·exact x1.elim
  | ret=>
   simp only[endK] at x1;split at x1
   next rs hrs=>exact ⟨⟨rs,hrs,x1⟩,.inr x8⟩
   ·exact x1.elim
  | exit id=>exact x1.elim
  | goto l=>exact x1.elim
 obtain ⟨⟨rs,hrs,hq⟩,hk0⟩:=hend;have hrd:b.roundOf=none:=hfr.2.2;have hret:∃ k1,Steps P (lone (Fr b a it) cs w) (lone { Fr b a' k1 with mode:=.returning } cs w'):=by
  rcases hk0 with rfl | ⟨k1,rfl⟩
  ·exact ⟨[],Steps.trans x7 (.one (q39 hrd))⟩
  ·exact ⟨.code .ret::k1,x7.trans (.one (q38 hrd))⟩
 obtain ⟨k1,hret⟩:=hret;obtain ⟨m1,m2,m3⟩:=x2.mark;obtain ⟨H2,t1,t2,t3⟩:=qij ds' H' m2 m3;obtain ⟨w2,r1,r2,r3⟩:=qei (P:=P) (b:=b) (k:=k1) (cs:=cs) ds' H' H2 a' w' t1 m1 x2.rel;have hnew:∀ d∈ds',H.next<=d:=λ d hd=>(x6 d hd).resolve_left (by simp)
 have hp2:PR Z' ν' S' E' H2:=x2.pr.growI (B:=λ c=>c∈ds') (λ c y hy hc=>by rw[t3 c hc];exact hy) (λ c ho hc=>by
  obtain ⟨y,g1,g2⟩:=qc0 x2.pr ho;rw[m2 c hc] at g1;cases g1;rcases g2 with g2 | ⟨es,g2⟩ | ⟨_,_,g2⟩
  ·exact g2
  ·cases g2
  ·cases g2) (λ c hc=>by
  cases hz:Z' c with
  | none=>rfl
  | some y=>
   obtain ⟨g1,g2⟩:=x2.pr.zh c y hz
   rw[m2 c hc] at g1;cases g1;exact g2.elim)
 refine ⟨rs,S',M',Z',ν',E',H2,{ a' with defers:=[] },w2,k1,hrs,hq,x3,x2.er,rfl,r1,x4.trans r2,hp2,⟨x5.z,x5.zn,by rw[t2];exact x5.le,λ c y hy hlt ho=>?_,x5.own,x5.big⟩,hret.trans r3⟩;rw[t3 c λ hc=>by have:=hnew c hc;omega];exact x5.old c y hy hlt ho (λ h=>h.elim) λ h=>h.1 rfl
end
def qy2:Nat->(as:List Sh)->DL as->List (Nat × SV)
 | _,[],_=>[]
 | k,σ::as,x=>(k,ofD σ x.1)::qy2 (k+1) as x.2
def entry (as:List Sh) (x:DL as):PS:=⟨qy2 0 as x,[]⟩
mutual
def Mt (π:Nat->Option Nat):SV->SV->Prop
 | .win r e id lo n,s=>(∃ r' id',s=.win r' e id' lo n/\π id=some id'/\(r=true->r'=true))\/(s=.nils/\π id=none/\lo=0/\n=0)
 | .agg l,s=>∃ m,s=.agg m/\MtL π l m
 | .nils,s=>s=.nils
 | .dead,s=>s=.dead
 | .int k n,s=>s=.int k n
 | .bool b,s=>s=.bool b
 | .str l,s=>s=.str l
 | .sl e l,s=>s=.sl e l\/(s=.nils/\l=[])
 | .arr n e l,s=>s=.arr n e l
 | .ptr id off,s=>∃ id',s=.ptr id' off/\π id=some id'
 | .mp id,s=>∃ id',s=.mp id'/\π id=some id'
 | .yl l,s=>s=.yl l
 | .nilm,s=>s=.nilm
 | .ifc t g l,s=>∃ m,s=.ifc t g m/\MtL π l m
 | .elp _ _ _ _,_=>False
 | .aep _ _ _ _ _,_=>False
 | .elv σ x,s=>s=.elv σ x
 | .tup _,_=>False
 | .fn f a c,s=>∃ a' c',s=.fn f a' c'/\MtL π a a'/\MtL π c c'
def MtL (π:Nat->Option Nat):List SV->List SV->Prop
 | [],m=>m=[]
 | s::l,m=>∃ t r,m=t::r/\Mt π s t/\MtL π l r
end
def MtR (π:Nat->Option Nat) (blk:List (Nat × LB)):Nat->List LB->Prop
 | _,[]=>True
 | i,lb::l=>((∃ id,π i=some id/\lk blk id=some lb)\/(π i=none/\∃ et e,lb=.row et e []/\0<e.size))/\MtR π blk (i+1) l
def QC (ct:Ctr) (x:DL ct.args) (rs:List SV) (blk:List (Nat × LB)):Prop:=
 ∃ π:Nat->Option Nat,MtL π (ct.out x) rs/\MtR π blk 0 (ct.rows x)/\(∀ i j a,π i=some a->π j=some a->i=j)/\(ct.rows x).all isRow=true
section
variable {P:Program} {tt:TT} {G:GV} {C:CV} {Z:Nat->Option ABlk} {ν:Nu} {S:PS} {E:T Value} {H:AHeap}
theorem qb8:∀ (vs:List Value) (k:Nat) (E:T Value) (t:Nat),k+vs.length<1000->(qcp k vs E).get t=if k<=t/\t<k+vs.length then vs[t-k]? else E.get t
 | [],k,E,t,_=>by simp only[qcp,List.length_nil];rw[if_neg (by omega)]
 | v::vs,k,E,t,h=>by
  simp only[List.length_cons] at h;simp only[qcp];rw[qb8 vs (k+1) _ t (by omega)];by_cases h1:t=k
  ·subst h1;rw[if_neg (by omega),if_pos (by simp),T.get_set_same 20 _ _ _ (by omega)];simp
  ·by_cases h2:k+1<=t/\t<k+1+vs.length
   ·rw[if_pos h2,if_pos (by simp only[List.length_cons];omega)];rw[show t-k=(t-(k+1))+1 by omega,List.getElem?_cons_succ]
   ·rw[if_neg h2,T.get_set_other _ _ _ _ _ h1,if_neg (by simp only[List.length_cons];omega)]
theorem qpl:∀ (as:List Sh) (x:DL as) (k:Nat) {vs:List Value} {t:Nat} {s:SV},VArgs Z as x vs->lk (qy2 k as x) t=some s->k<=t/\∃ v,vs[t-k]?=some v/\VS Z ν s v
 | [],x,k,vs,t,s,h,e=>by simp[qy2,lk] at e
 | σ::as,x,k,vs,t,s,⟨v,w,hv,h1,h2⟩,e=>by
  subst hv;simp only[qy2,lk] at e;split at e
  next hk=>subst hk;cases e;exact ⟨Nat.le_refl _,v,by simp,h1 ν⟩
  ·obtain ⟨h3,v',h4,h5⟩:=qpl as x.2 (k+1) h2 e;exact ⟨by omega,v',by rw[show t-k=(t-(k+1))+1 by omega,List.getElem?_cons_succ];exact h4,h5⟩
theorem VArgs.length:∀ {as:List Sh} {x:DL as} {vs:List Value},VArgs Z as x vs->vs.length=as.length
 | [],_,_,h=>by simp only[VArgs] at h;subst h;rfl
 | _::_,_,_,⟨v,w,e,_,h2⟩=>by subst e;simp[VArgs.length h2]
mutual
theorem CR.mt {π:Nat->Option Nat}:∀ (s t:SV) (vs:List Value),Mt π s t->CR Z ν t vs->CR Z (λ i=>(π i).bind ν) s vs
 | .win r e id lo n,t,vs,m,h=>by
  simp only[Mt] at m;rcases m with ⟨r',id',rfl,hp,hr⟩ | ⟨rfl,hp,rfl,rfl⟩
  ·simp only[CR,WinR,hp,Option.bind_some] at h |-;obtain ⟨v,rfl,h⟩:=h;refine ⟨v,rfl,?_⟩
   cases hn:ν id' with
   | none=>
    rw[hn] at h;simp only at h |-;obtain ⟨h1,h2,h3⟩:=h;refine ⟨h1,h2,?_⟩;rcases h3 with h3 | ⟨h3,h4⟩
    ·exact .inl h3
    ·cases r with
     | true=>rw[hr rfl] at h3;cases h3
     | false=>exact .inr ⟨rfl,h4⟩
   | some ni=>
    rw[hn] at h;simp only at h |-;rcases h with ⟨h1,h2⟩ | h
    ·cases r with
     | true=>rw[hr rfl] at h1;cases h1
     | false=>exact .inl ⟨rfl,h2⟩
    ·exact .inr h
  ·simp only[CR] at h;subst h;simp only[CR,WinR,hp,Option.bind_none];exact ⟨_,rfl,trivial,trivial,.inl rfl⟩
 | .agg l,t,vs,m,h=>by
  simp only[Mt] at m;obtain ⟨m',rfl,m⟩:=m;simp only[CR] at h |-;exact CRL.mt l m' vs m h
 | .nils,t,vs,m,h=>by simp only[Mt] at m;subst m;exact h
 | .dead,t,vs,m,h=>by simp only[Mt] at m;subst m;exact h
 | .int k n,t,vs,m,h=>by simp only[Mt] at m;subst m;exact h
 | .bool b,t,vs,m,h=>by simp only[Mt] at m;subst m;exact h
 | .str l,t,vs,m,h=>by simp only[Mt] at m;subst m;exact h
 | .sl e l,t,vs,m,h=>by
  simp only[Mt] at m;rcases m with rfl | ⟨rfl,rfl⟩
  ·exact h
  ·simp only[CR] at h;subst h;simp only[CR,RV];exact ⟨_,rfl,.inl ⟨rfl,.inl rfl⟩⟩
 | .arr n e l,t,vs,m,h=>by simp only[Mt] at m;subst m;exact h
 | .elv σ x,t,vs,m,h=>by simp only[Mt] at m;subst m;exact h
 | .ptr id off,t,vs,m,h=>by
  simp only[Mt] at m;obtain ⟨id',rfl,hp⟩:=m;simp only[CR] at h |-;obtain ⟨ni,h1,h2⟩:=h;exact ⟨ni,by rw[hp];exact h1,h2⟩
 | .mp id,t,vs,m,h=>by
  simp only[Mt] at m;obtain ⟨id',rfl,hp⟩:=m;simp only[CR] at h |-;obtain ⟨ni,h1,h2⟩:=h;exact ⟨ni,by rw[hp];exact h1,h2⟩
 | .yl l,t,vs,m,h=>by simp only[Mt] at m;subst m;exact h
 | .nilm,t,vs,m,h=>by simp only[Mt] at m;subst m;exact h
 | .ifc t0 g l,t,vs,m,h=>by
  simp only[Mt] at m;obtain ⟨m',rfl,m⟩:=m;simp only[CR] at h |-;obtain ⟨us,v,h1,h2,h3⟩:=h;exact ⟨us,v,CRL.mt l m' us m h1,h2,h3⟩
 | .elp _ _ _ _,_,_,m,_=>by simp only[Mt] at m
 | .aep _ _ _ _ _,_,_,m,_=>by simp only[Mt] at m
 | .tup _,_,_,m,_=>by simp only[Mt] at m
 | .fn f a c,t,vs,m,h=>by
  simp only[Mt] at m;obtain ⟨a',c',rfl,m1,m2⟩:=m;simp only[CR] at h |-;obtain ⟨va,vc,h1,h2,h3⟩:=h;exact ⟨va,vc,h1,CRO.mt a a' va m1 h2,CRO.mt c c' vc m2 h3⟩
theorem CRL.mt {π:Nat->Option Nat}:∀ (l m:List SV) (vs:List Value),MtL π l m->CRL Z ν m vs->CRL Z (λ i=>(π i).bind ν) l vs
 | [],m,vs,e,h=>by simp only[MtL] at e;subst e;exact h
 | s::l,m,vs,e,h=>by
  simp only[MtL] at e;obtain ⟨t,r,rfl,h1,h2⟩:=e;simp only[CRL] at h |-;obtain ⟨u,w,e,h3,h4⟩:=h;exact ⟨u,w,e,CR.mt s t u h1 h3,CRL.mt l r w h2 h4⟩
theorem CRO.mt {π:Nat->Option Nat}:∀ (l m:List SV) (vs:List Value),MtL π l m->CRO Z ν m vs->CRO Z (λ i=>(π i).bind ν) l vs
 | [],m,vs,e,h=>by simp only[MtL] at e;subst e;exact h
 | s::l,m,vs,e,h=>by
  simp only[MtL] at e;obtain ⟨t,r,rfl,h1,h2⟩:=e;simp only[CRO] at h |-;obtain ⟨u,w,e,h3,h4⟩:=h;exact ⟨u,w,e,CR.mt s t [u] h1 h3,CRO.mt l r w h2 h4⟩
end
theorem V1.mt {π:Nat->Option Nat} {s t:SV} {v:Value} (m:Mt π s t) (h:V1 Z ν t v):V1 Z (λ i=>(π i).bind ν) s v:=by
 cases s with
 | agg l=>
  simp only[Mt] at m;obtain ⟨m',rfl,m⟩:=m;obtain ⟨vs,e,h⟩:=h;exact ⟨vs,e,CRL.mt l m' vs m h⟩
 | arr n e l=>simp only[Mt] at m;subst m;exact h
 | win r e id lo n=>
  have ht:CR Z ν t [v]:=by
   have m':=m;simp only[Mt] at m';rcases m' with ⟨r',id',rfl,_⟩ | ⟨rfl,_⟩ <;> exact h
  exact CR.mt _ _ _ m ht
 | sl e l=>
  have ht:CR Z ν t [v]:=by
   have m':=m;simp only[Mt] at m';rcases m' with rfl | ⟨rfl,_⟩ <;> exact h
  exact CR.mt _ _ _ m ht
 | ptr id off=>
  have ht:CR Z ν t [v]:=by
   have m':=m;simp only[Mt] at m';obtain ⟨id',rfl,_⟩:=m';exact h
  exact CR.mt _ _ _ m ht
 | mp id=>
  have ht:CR Z ν t [v]:=by
   have m':=m;simp only[Mt] at m';obtain ⟨id',rfl,_⟩:=m';exact h
  exact CR.mt _ _ _ m ht
 | yl l=>simp only[Mt] at m;subst m;exact h
 | nilm=>simp only[Mt] at m;subst m;exact h
 | ifc t0 g l=>
  have ht:CR Z ν t [v]:=by
   have m':=m;simp only[Mt] at m';obtain ⟨l',rfl,_⟩:=m';exact h
  exact CR.mt _ _ _ m ht
 | fn f a c=>
  have ht:CR Z ν t [v]:=by
   have m':=m;simp only[Mt] at m';obtain ⟨a',c',rfl,_,_⟩:=m';exact h
  exact CR.mt _ _ _ m ht
 | nils=>simp only[Mt] at m;subst m;exact h
 | dead=>simp only[Mt] at m;subst m;exact h
 | int k n=>simp only[Mt] at m;subst m;exact h
 | bool b=>simp only[Mt] at m;subst m;exact h
 | str l=>simp only[Mt] at m;subst m;exact h
 | elv σ x=>simp only[Mt] at m;subst m;exact h
 | _=>simp only[Mt] at m
theorem Mt.notup {π:Nat->Option Nat} {s t:SV} (m:Mt π s t):∀ l,t≠.tup l:=by
 rintro l rfl
 cases s <;> simp[Mt] at m
theorem V1L.mt {π:Nat->Option Nat}:∀ {l m:List SV} {vs:List Value},MtL π l m->VSL Z ν m vs->V1L Z (λ i=>(π i).bind ν) l vs
 | [],m,vs,e,h=>by simp only[MtL] at e;subst e;exact h
 | s::l,m,vs,e,h=>by
  simp only[MtL] at e;obtain ⟨t,r,rfl,h1,h2⟩:=e;simp only[VSL] at h;obtain ⟨v,w,e,h3,h4⟩:=h;exact ⟨v,w,e,(h3.v1 h1.notup).mt h1,V1L.mt h2 h4⟩
theorem MtR.get {π:Nat->Option Nat} {blk:List (Nat × LB)}:∀ {rows:List LB} {k:Nat},MtR π blk k rows->∀ i lb,rows[i]?=some lb->(∃ id,π (k+i)=some id/\lk blk id=some lb)\/(π (k+i)=none/\∃ et e,lb=.row et e []/\0<e.size)
 | [],_,_,i,lb,h=>by simp at h
 | a::rows,k,m,i,lb,h=>by
  simp only[MtR] at m
  cases i with
  | zero=>simp at h;subst h;exact m.1
  | succ i=>
   have:=m.2.get i lb (by simpa using h);rw[show k+(i+1)=k+1+i by omega];exact this
theorem qf5 (ht:TTOK P tt) (hp:PR Z ν S E H) (hg:GZ Z G):∀ {res:List ResultVar} {rs:List SV},rsOf tt G S res=some rs->∃ vs,qb0 (res.map (qkk P E H))=some vs/\VSL Z ν rs vs
 | [],rs,h=>by simp only[rsOf,Option.some.injEq] at h;subst h;exact ⟨[],rfl,rfl⟩
 | .tmp t::l,rs,h=>by
  simp only[rsOf] at h;split at h
  next s r h1 h2=>cases h;obtain ⟨v,hv,hs⟩:=hp.env t s h1;obtain ⟨vs,h3,h4⟩:=qf5 ht hp hg h2;exact ⟨v::vs,by simp[qb0,qkk,hv,h3],v,vs,rfl,hs,h4⟩
  ·cases h
 | .cell x t::l,rs,h=>by
  simp only[rsOf] at h;split at h
  next s r h1 h2=>
   cases h;have hlk:∃ p,pv G S.env (.tmp x)=some p:=by
    cases hq:pv G S.env (.tmp x) with
    | none=>simp only[pR,hq] at h1;simp at h1
    | some p=>exact ⟨p,rfl⟩
   obtain ⟨p,hq⟩:=hlk;obtain ⟨v,hv,hs⟩:=qbs hp hg _ _ hq
   obtain ⟨y, hy, hys⟩ := qgc ht hp (o := ⟨none, .load t (.tmp x), 0, "", #[], none⟩) rfl hq hs h1 (by simp)
   obtain ⟨vs,h3,h4⟩:=qf5 ht hp hg h2;simp only[qc4] at hv;exact ⟨y::vs,by simp[qb0,qkk,hv,hy,h3],y,vs,rfl,hys,h4⟩
  ·cases h
theorem Held.of (hx:CxOK P tt G C) {f:FuncId} {fn:Func} {c:Code} {ct:Ctr} (hf:P.funcs[f]?=some fn) (hb:fn.body=some c) (hn:ct.args.length<=fn.ntmps/\ct.args.length<1000)
  (h:∀ x,ct.pre x->Good P tt G f fn.ntmps fn.results.toList (QC ct x) [.code c] (entry ct.args x)):Held P G f ct:=by
 intro x hpre base M args args' w cs Z H hva hzh hg hargs hrel;have hlen:args.size=ct.args.length:=by have:=hva.length;simpa using this
 let fb:Frame:={ (default:Frame) with fn:=f,kind:=.normal }
 have hal:=(VRA.iff.1 hargs).length;simp only[Array.length_toList] at hal
 let a0:Act:={ tmps:=args'++Array.replicate (fn.ntmps-args'.size) undef,defers:=[] }
 have henter:Frame.enter P f args' .normal=Fr fb a0 [.code c]:=by
  simp[Frame.enter,Fr,fb,a0,hf,hb];rfl
 have hfr:FrOK M ⟨f,none,fn.ntmps⟩ fb:=⟨rfl,rfl,rfl⟩;have her:ER M fn.ntmps (qcp 0 args.toList .nil) a0.tmps:=qn0 hargs (by omega) (by omega);have hp:PR Z (λ _=>none) (entry ct.args x) (qcp 0 args.toList .nil) H:=by
  refine ⟨λ t s e=>?_,λ id lb e=>by simp[entry,lk] at e,hzh,λ b ⟨id,lb,ni,h1,_⟩=>by simp[entry,lk] at h1,λ i j li lj ni nj h1=>by simp[entry,lk] at h1⟩;obtain ⟨_,v,h1,h2⟩:=qpl (ν:=λ _=>none) ct.args x 0 hva e;refine ⟨v,?_,h2⟩;rw[qb8 _ _ _ _ (by simp;omega)];have hlt:=(List.getElem?_eq_some_iff.1 h1).1;rw[if_pos ⟨Nat.zero_le _,by omega⟩];exact h1
 obtain ⟨rs,S',M1,Z',ν',E',H',a1,w1,k1,x1,x2,x3,x4,x5,x6,x7,x8,x9,hret⟩:=(h x hpre).ends (cs:=cs) hfr her rfl hrel hp hg;obtain ⟨π,m1,m2,m3,m4⟩:=x2;obtain ⟨vs,hvs,hvl⟩:=qf5 hx.ty x8 (hg.mono x9.z) x1;obtain ⟨v',hr,hv⟩:=qek (P:=P) x4 x6 hvs;have hown0:∀ b,¬ Own (λ _=>none) (entry ct.args x) b:=λ b ⟨id,lb,ni,h1,_⟩=>by simp[entry,lk] at h1
 have hfresh:∀ b,Own ν' S' b->H.next<=b:=λ b ho=>(x9.own b ho).resolve_left (hown0 b)
 have hblk:∀ i lb,(ct.rows x)[i]?=some lb->BR Z' (λ i=>(π i).bind ν') H' i lb/\∀ ni,(π i).bind ν'=some ni->H.next<=ni.b/\Z' ni.b=none:=by
  intro i lb hl;have hrow:isRow lb=true:=List.all_eq_true.1 m4 lb (List.mem_of_getElem? hl);have:=m2.get i lb hl;rw[Nat.zero_add] at this;rcases this with ⟨id,h1,h2⟩ | ⟨h1,et,e,rfl,h2⟩
  ·refine ⟨?_,λ ni hni=>?_⟩
   ·have hbr:=x8.blk id lb h2
    cases lb with
    | var l=>simp[isRow] at hrow
    | mp κ σ l=>simp[isRow] at hrow
    | iter l pos=>simp[isRow] at hrow
    | row et e xs=>
     simp only[BR,h1,Option.bind_some] at hbr |-;exact hbr
   ·rw[h1] at hni;have ho:Own ν' S' ni.b:=⟨id,lb,ni,h2,hni,rfl⟩;exact ⟨hfresh _ ho,x8.zo _ ho⟩
  ·exact ⟨⟨h2,.inl ⟨by simp[h1],rfl⟩⟩,λ ni hni=>by simp[h1] at hni⟩
 refine ⟨Z',λ i=>(π i).bind ν',H',M1,w1,v',vs,{ Fr fb { a1 with defers:=[] } k1 with mode:=.returning },x9.z,λ b hb'=>?_,x8.zh,x9.le,λ b y hy=>x9.old b y hy (hrel.dom _ _ hy) (hown0 b),V1L.mt m1 hvl,hblk,?_,x3,hv,x6,x7,?_,rfl,rfl,rfl,rfl,fn,hf,hr⟩
 ·rcases x9.zn b hb' with h | h | h
  ·exact .inl h
  ·exact .inr h
  ·exact absurd h (hown0 b)
 ·intro i j li lj ni nj g1 g2 g3 g4 g5;have s1:=m2.get i li g1;have s2:=m2.get j lj g2;rw[Nat.zero_add] at s1 s2;rcases s1 with ⟨a,h1,h2⟩ | ⟨h1,_⟩
  ·rcases s2 with ⟨b,h3,h4⟩ | ⟨h3,_⟩
   ·simp only[h1,h3,Option.bind_some] at g3 g4;have:=x8.inj a b li lj ni nj h2 h4 g3 g4 g5;subst this;exact m3 i j a h1 h3
   ·simp[h3] at g4
  ·simp[h1] at g3
 ·rw[henter];have e:a1={ a1 with defers:=[] }:=by
   cases a1;simp only at x5;subst x5;rfl
  rw[<- e];exact hret
end
def qc9:Sh->List Value
 | .int k=>[.int k 0]
 | .bool=>[.bool false]
 | .str=>[bstr []]
 | .unit=>[]
 | .pair a b=>qc9 a++qc9 b
 | .arr n e=>(List.replicate n (qc9 e)).flatten
 | .sl _=>[.slice none 0 0]
theorem qbg (Z:Nat->Option ABlk):∀ σ:Sh,RV Z σ σ.dflt (qc9 σ)
 | .int _=>by simp only[RV,Sh.dflt,qc9]
 | .bool=>by simp only[RV,Sh.dflt,qc9]
 | .str=>by simp only[RV,Sh.dflt,qc9]
 | .unit=>by simp only[RV,qc9]
 | .pair a b=>by simp only[RV,Sh.dflt,qc9];exact ⟨_,_,rfl,qbg Z a,qbg Z b⟩
 | .arr n e=>by simp only[RV,Sh.dflt,qc9];exact ⟨by simp,RVL.rep (qbg Z e) n⟩
 | .sl e=>by simp only[RV,Sh.dflt,qc9];exact ⟨_,rfl,.inl ⟨rfl,.inl rfl⟩⟩
def q77 (P:Program) (t:TypeId):TK->Bool
 | .int k=>match qaa P (underlying t) with
  | some (.int k')=>decide (k=k')
  | _=>false
 | .bool=>match qaa P (underlying t) with
  | some .bool=>true
  | _=>false
 | .str=>match qaa P (underlying t) with
  | some .string=>true
  | _=>false
 | .slice e=>match qaa P (underlying t) with
  | some (.slice e')=>e == e'
  | _=>false
 | .array n e=>match qaa P (underlying t) with
  | some (.array n' e')=>n == n'&&e == e'
  | _=>false
 | .struct fs=>match qaa P (underlying t) with
  | some (.struct fields)=>decide (fields.toList.map (λ f=>(f.offset,f.type))=fs)&&match qaa P (fields.mapM λ f=>do pure (f.offset,<- sizeOf f.type)) with
   | some places=>match allS (fs.map λ f=>(qaa P (sizeOf f.2)).map λ n=>(f.1,n)) with
    | some l=>decide (l=places.toList)
    | none=>false
   | none=>false
  | _=>false
 | .map k e=>match qaa P (underlying t) with
  | some (.map k' e')=>k == k'&&e == e'
  | _=>false
 | .other=>true
theorem q13 {P:Program} {t:TypeId} {k:TK} (h:q77 P t k=true):KOK P t k:=by
 cases k <;> simp only[q77] at h <;> simp only[KOK]
 ·split at h
  next hu=>rw[hu];simp only[decide_eq_true_eq] at h;rw[h]
  ·cases h
 ·split at h
  next hu=>exact hu
  ·cases h
 ·split at h
  next hu=>exact hu
  ·cases h
 ·split at h
  next hu=>rw[hu];simp only[beq_iff_eq] at h;rw[h]
  ·cases h
 ·split at h
  next hu=>rw[hu];simp only[Bool.and_eq_true,beq_iff_eq] at h;rw[h.1,h.2]
  ·cases h
 ·split at h
  next fields hu=>
   simp only[Bool.and_eq_true,decide_eq_true_eq] at h;obtain ⟨h1,h⟩:=h;split at h
   next places hm=>
    split at h
    next l hl=>simp only[decide_eq_true_eq] at h;exact ⟨fields,places,hu,h1,hm,by rw[hl,h]⟩
    ·cases h
   ·cases h
  ·cases h
 ·split at h
  next hu=>rw[hu];simp only[Bool.and_eq_true,beq_iff_eq] at h;rw[h.1,h.2]
  ·cases h
def tiB (P:Program) (t:TypeId) (i:TI):Bool:=
 decide (qaa P (sizeOf t)=some i.size)&&decide (qaa P (isAgg t)=some i.agg)&&q77 P t i.kind&&(i.agg || decide (i.size=1)) &&
 (match qaa P (typeInfo t) with
  | some inf=>decide (inf.bytes=i.bytes)&&decide (inf.size=i.size)
  | none=>false) &&
 (match qaa P (zeroValue t) with
  | some z=>Ax.flat z&&(match i.kind with
   | .other=>eqL z.cells.toList [.nilFunc]&&decide (i.sh.size≠i.size)
   | .map _ _=>(match z with | .map none=>true | _=>false)&&decide (i.sh.size≠i.size)
   | _=>eqL z.cells.toList (qc9 i.sh))&&decide (z.cells.size=i.size)&&(match z with | .agg _=>i.agg | .tuple _=>false | _ => !i.agg)
  | none=>false) &&
 (match qui i with
  | true=>match qaa P (underlying t) with
   | some (.struct fields)=>qcu P (qqq i.sh) fields.toList 0 && !P.stoodInHeld t && !P.eqGuardType P.depth t
   | _=>false
  | false=>true) &&
 (match i.ieq with
  | some k=>qui i || match qaa P (underlying t) with
   | some (.struct fields)=>qeb P k fields.toList 0 && !P.stoodInHeld t && !P.eqGuardType P.depth t&&decide (fields.size=i.size)
   | some (.array n et) => !P.eqGuardType P.depth t&&decide (n=i.size)&&decide (qaa P (sizeOf et)=some 1)&&decide (qaa P (isAgg et)=some false)&&(match qaa P (underlying et) with
    | some (.int k')=>k' == k
    | _=>false)
   | _=>false
  | none=>true)
def zD:Sh->List SV
 | .sl _=>[.nils]
 | .pair a b=>zD a++zD b
 | .int k=>[.int k 0]
 | .bool=>[.bool false]
 | .str=>[.str []]
 | .unit=>[]
 | .arr n e=>qcx (.arr n e) (Sh.dflt (.arr n e))
theorem q45 {Z:Nat->Option ABlk} {ν:Nu}:∀ σ:Sh,CRL Z ν (zD σ) (qc9 σ)
 | .sl _=>⟨[.slice none 0 0],[],rfl,(by show CR Z ν .nils _;simp only[CR]),rfl⟩
 | .pair a b=>CRL.app (q45 a) (q45 b)
 | .int k=>qao (.int k) _ (qbg Z _)
 | .bool=>qao .bool _ (qbg Z _)
 | .str=>qao .str _ (qbg Z _)
 | .unit=>qao .unit _ (qbg Z _)
 | .arr n e=>qao (.arr n e) _ (qbg Z _)
theorem ql6 (id:Nat):∀ {l m:List SV},qai id l=false->qai id m=false->qai id (l++m)=false
 | [],_,_,h=>h
 | s::l,m,h,k=>by
  simp only[qai,Bool.or_eq_false_iff,List.cons_append] at h |-;exact ⟨h.1,ql6 id h.2 k⟩
theorem qqn (id:Nat):∀ σ:Sh,qai id (zD σ)=false
 | .sl _=>rfl
 | .pair a b=>ql6 id (qqn id a) (qqn id b)
 | .int _=>rfl
 | .bool=>rfl
 | .str=>rfl
 | .unit=>rfl
 | .arr _ _=>qbj id _ _
def zeroOf (k:TK) (sh:Sh):List SV:=match k with
 | .other=>[.dead]
 | .map _ _=>[.nilm]
 | .slice _=>match sh with
  | .sl _=>[.nils]
  | sh=>qcx sh sh.dflt
 | .struct _=>zD sh
 | _=>qcx sh sh.dflt
theorem za3 {P:Program} {t:TypeId} {i:TI} (hz:i.zero=zeroOf i.kind i.sh) (h:tiB P t i=true):TOK P t i:=by
 unfold tiB at h;simp only[Bool.and_eq_true,decide_eq_true_eq,Bool.or_eq_true] at h;obtain ⟨⟨⟨⟨⟨⟨⟨h1,h2⟩,h3⟩,h4⟩,h5⟩,h6⟩,h8⟩,h7⟩:=h
 refine ⟨h1,h2,q13      h3,fun ha=>by rcases h4 with h4 | h4;· rw[ha] at h4;cases h4
                                      ·exact h4,?_,?_,λ z hz0=>?_,λ id=>by
                       rw[hz];unfold zeroOf;split
                       ·rfl
                       ·rfl
                       ·split
                        ·rfl
                        ·exact qbj id _ _
                       ·exact qqn id _
                       ·exact qbj id _ _,?_,?_⟩
 ·split at h5
  next inf hi=>simp only[Bool.and_eq_true,decide_eq_true_eq] at h5;exact ⟨inf,hi,h5.1,h5.2⟩
  ·cases h5
 ·split at h6
  next z hzz=>
   simp only[Bool.and_eq_true,decide_eq_true_eq] at h6;obtain ⟨⟨⟨g1,g2⟩,g3⟩,_⟩:=h6;have key:i.zero=qcx i.sh i.sh.dflt->eqL z.cells.toList (qc9 i.sh)=true->∃ z,qaa P (zeroValue t)=some z/\Ax.flat z=true/\(∀ Z ν,CRL Z ν i.zero z.cells.toList)/\z.cells.size=i.size/\(i.sh.size=i.size->∀ Z,RV Z i.sh i.sh.dflt z.cells.toList):=by
    intro hz g2;have g2:=qje _ _ g2;refine ⟨z,hzz,g1,λ Z ν=>?_,g3,λ _ Z=>?_⟩
    ·rw[hz,g2];exact qao _ _ (qbg Z _)
    ·rw[g2];exact qbg Z _
   cases hk:i.kind with
   | other=>
    rw[hk] at g2 hz;simp only[Bool.and_eq_true,decide_eq_true_eq] at g2;have e:=qje _ _ g2.1;refine ⟨z,hzz,g1,λ Z ν=>?_,g3,λ e2=>absurd e2 g2.2⟩;rw[hz,e];exact ⟨[.nilFunc],[],rfl,⟨.nilFunc,rfl,rfl,rfl⟩,rfl⟩
   | map k e=>
    rw[hk] at g2 hz;simp only[Bool.and_eq_true,decide_eq_true_eq] at g2;have e1:z=.map none:=by
     have:=g2.1;split at this
     ·rfl
     ·cases this
    subst e1;refine ⟨_,hzz,g1,λ Z ν=>?_,g3,λ e2=>absurd e2 g2.2⟩;rw[hz];exact ⟨[.map none],[],rfl,rfl,rfl⟩
   | slice e=>
    rw[hk] at g2 hz;have hz':i.zero=zeroOf (.slice e) i.sh:=hz;simp only[zeroOf] at hz';have g2:eqL z.cells.toList (qc9 i.sh)=true:=g2
    cases hs:i.sh with
    | sl σ=>
     have e1:=qje _ _ g2;rw[hs] at hz' e1;have e2:z.cells.toList=[.slice none 0 0]:=e1;refine ⟨z,hzz,g1,λ Z ν=>?_,g3,λ _ Z=>?_⟩
     ·rw[hz',e2];exact ⟨[.slice none 0 0],[],rfl,(by show CR Z ν .nils _;simp only[CR]),rfl⟩
     ·rw[qje _ _ g2,hs];exact qbg Z _
    | _=>rw[hs] at hz';rw[<- hs];exact key (hz'.trans (by rw[hs])) g2
   | struct fs=>
    rw[hk] at g2 hz;have g2:eqL z.cells.toList (qc9 i.sh)=true:=g2;have hz':i.zero=zD i.sh:=hz;refine ⟨z,hzz,g1,λ Z ν=>?_,g3,λ _ Z=>?_⟩
    ·rw[hz',qje _ _ g2];exact q45 _
    ·rw[qje _ _ g2];exact qbg Z _
   | _=>rw[hk] at g2 hz;exact key hz g2
  ·cases h6
 ·rw[hz0] at h6;simp only[Bool.and_eq_true,decide_eq_true_eq] at h6;have h:=h6.2
  cases hagg:i.agg with
  | true=>
   rw[hagg] at h;simp only[if_true]
   cases z <;> simp at h
   rfl
  | false=>
   rw[hagg] at h;simp only[Bool.false_eq_true,if_false]
   cases z <;> simp at h <;> rfl
 ·intro hm;rw[hm] at h8;simp only at h8;split at h8
  next fields hu=>simp only[Bool.and_eq_true,Bool.not_eq_true'] at h8;exact ⟨h8.2,λ X Y hX hY=>qqb hu h8.1.1 h8.1.2 hX hY⟩
  ·cases h8
 ·intro hm k hk;rw[hk,hm] at h7;simp only[Bool.false_or] at h7;split at h7
  next fields hu=>simp only[Bool.and_eq_true,Bool.not_eq_true',decide_eq_true_eq] at h7;exact ⟨h7.1.2,λ X Y hX hY=>qqc hu h7.1.1.1 h7.1.1.2 (by omega) (by omega)⟩
  next n et hu=>
   simp only[Bool.and_eq_true,Bool.not_eq_true',decide_eq_true_eq] at h7;obtain ⟨⟨⟨⟨g1,g2⟩,g3⟩,g4⟩,g5⟩:=h7;split at g5
   next k' he=>have:=eq_of_beq g5;subst this;exact ⟨g1,λ X Y hX hY=>qqd hu g3 g4 he (by omega) (by omega)⟩
   ·cases g5
  ·cases h7
def mkT (size bytes:Nat) (agg:Bool) (kind:TK) (sh:Sh) (ieq:Option IntKind):TI:=⟨size,bytes,agg,kind,zeroOf kind sh,sh,ieq⟩
def ttB (P:Program):List (Nat × (Nat × Nat × Bool × TK × Sh × Option IntKind))->Bool
 | []=>true
 | (t,(a,b,c,d,e,f))::l=>tiB P t (mkT a b c d e f)&&ttB P l
def ttOf:List (Nat × (Nat × Nat × Bool × TK × Sh × Option IntKind))->TT
 | []=>[]
 | (t,(a,b,c,d,e,f))::l=>(t,mkT a b c d e f)::ttOf l
theorem q36 {P:Program}:∀ {l:List (Nat × (Nat × Nat × Bool × TK × Sh × Option IntKind))},ttB P l=true->TTOK P (ttOf l)
 | [],_,t,i,h=>by simp[ttOf,lk] at h
 | (a,(b,c,d,e,f,g))::l,hb,t,i,h=>by
  simp only[ttB,Bool.and_eq_true] at hb;simp only[ttOf,lk] at h;split at h
  next e1=>subst e1;cases h;exact za3 rfl hb.1
  ·exact q36 hb.2 t i h
def hds:Code->List Item->List (List Item)
 | .seq a b,k=>hds a (.code b::k)++hds b k
 | .cond _ a b,k=>hds a k++hds b k
 | .block id c,k=>hds c (.inBlock id::k)
 | .scope c,k=>hds c (.inScope c::k)
 | .loop c,k=>(.code c::.inLoop c::k)::hds c (.inLoop c::k)
 | .rangeFunc f ps a b,k=>[.code (.rangeFunc f ps a b)::k]
 | _,_=>[]
def qad (fn:Func):Code:=fn.body.getD .skip
def hd (fn:Func) (i:Nat):List Item:=((hds (qad fn) [])[i]?).getD []
def rndOf:List Item->List Item
 | .code (.rangeFunc _ _ a b)::_=>[.code a,.beginRound,.code b]
 | _=>[]
def rnd (fn:Func) (i:Nat):List Item:=rndOf (hd fn i)
mutual
def qk5:SV->Bool
 | .int _ _ | .bool _ | .str _ | .arr _ _ _ | .sl _ _ | .nils | .elv _ _=>true
 | .agg l=>qmk l
 | .ifc _ _ l=>qmk l
 | _=>false
def qmk:List SV->Bool
 | []=>true
 | s::l=>qk5 s&&qmk l
end
mutual
theorem q7y (π:Nat->Option Nat):∀ s,qk5 s=true->Mt π s s
 | .int _ _,_=>by simp[Mt]
 | .bool _,_=>by simp[Mt]
 | .str _,_=>by simp[Mt]
 | .arr _ _ _,_=>by simp[Mt]
 | .sl _ _,_=>by simp[Mt]
 | .nils,_=>by simp[Mt]
 | .elv _ _,_=>by simp[Mt]
 | .agg l,h=>by
  simp only[qk5] at h;simp only[Mt];exact ⟨l,rfl,qa1 π l h⟩
 | .win _ _ _ _ _,h=>by simp[qk5] at h
 | .dead,h=>by simp[qk5] at h
 | .ptr _ _,h=>by simp[qk5] at h
 | .elp _ _ _ _,h=>by simp[qk5] at h
 | .aep _ _ _ _ _,h=>by simp[qk5] at h
 | .tup _,h=>by simp[qk5] at h
 | .fn _ _ _,h=>by simp[qk5] at h
 | .ifc t g l,h=>by
  simp only[qk5] at h;simp only[Mt];exact ⟨l,rfl,qa1 π l h⟩
theorem qa1 (π:Nat->Option Nat):∀ l,qmk l=true->MtL π l l
 | [],_=>by simp[MtL]
 | s::l,h=>by
  simp only[qmk,Bool.and_eq_true] at h;exact ⟨s,l,rfl,q7y π s h.1,qa1 π l h.2⟩
end
theorem QC.flat {ct:Ctr} {x:DL ct.args} {rs:List SV} {blk:List (Nat × LB)} (h:ct.out x=rs) (hr:ct.rows x=[]) (hf:qmk rs=true):QC ct x rs blk:=
 ⟨λ _=>none,by rw[h];exact qa1 _ _ hf,by rw[hr];trivial,λ _ _ _ e=>by simp at e,by rw[hr];rfl⟩
theorem CxOK.nil {P:Program} {tt:TT} {G:GV} (h:TTOK P tt) (hm:P.follows .mixedOrders=true) (hmt:∀ t nm f,(t,(nm,f))∈G.mt->qud P t nm=some f:=by intro t nm f h;cases h):CxOK P tt G []:=
 ⟨h,λ _ _ e=>by simp[lk] at e,λ _ _ e=>by simp at e,λ _ e=>by simp[lk] at e,hm,hmt⟩
theorem CxOK.cons {P : Program} {tt : TT} {G : GV} {C : CV} (hx : CxOK P tt G C) {f : FuncId} {fn : Func} {ct : Ctr} (hh : Held P G f ct) (hf : P.funcs[f]? = some fn) (hn : (fn.name == "runtime.NumGoroutine") = false) (hb : fn.body.isSome = true) : CxOK P tt G ((f, .inl ct) :: C) := by
 refine ⟨hx.ty,λ g cg e=>?_,λ g cg e=>?_,λ g e=>?_,hx.mix,hx.mth⟩
 ·simp only[lk] at e;split at e
  next h=>subst h;cases e;exact hh
  ·exact hx.held g cg e
 ·rcases List.mem_cons.1 e with e | e
  ·cases e
  ·exact hx.heldI g cg e
 ·simp only[lk] at e;split at e
  next h=>subst h;exact λ args w=>qbk hf hn hb args w
  ·exact hx.enter g e
theorem Held.run {P:Program} {tt:TT} {G:GV} {C:CV} (hx:CxOK P tt G C) {f:FuncId} {fn:Func} {ct:Ctr} (hf:P.funcs[f]?=some fn) (hb:fn.body=some (qad fn)) (hn:ct.args.length<=fn.ntmps/\ct.args.length<1000)
  (h:∀ x,ct.pre x->sy tt G C fn.ntmps fn.results.toList (QC ct x) (Good P tt G f fn.ntmps fn.results.toList (QC ct x)) 1000 [.code (qad fn)] (entry ct.args x)):Held P G f ct:=
 Held.of hx hf hb hn λ x hp=>qak hx _ _ _ (h x hp)
theorem qe6 {P:Program} {tt:TT} {G:GV} {C:CV} (hx:CxOK P tt G C) {f:FuncId} {n:Nat} {res:List ResultVar} {Q:List SV->List (Nat × LB)->Prop} {it:List Item} {S:PS} {A:Prop} (e:sy tt G C n res Q (Good P tt G f n res Q) 1000 it S=A) (h:A):Good P tt G f n res Q it S:=qak hx _ _ _ (e ▸ h)
theorem qah {P:Program} {tt:TT} {G:GV} {C:CV} (hx:CxOK P tt G C) {l b:List Nat} {f:FuncId} {n:Nat} {res:List ResultVar} {Q:List SV->List (Nat × LB)->Prop} {it:List Item} {S:PS} {A:Prop} (e:sy tt G C n res Q (λ it S=>Good P tt G f n res Q it (qaj l b S)) 1000 it S=A) (h:A):Good P tt G f n res Q it S:=qoh hx (λ _ _ h=>h.keep) _ _ _ (e ▸ h)
theorem bc_t {A B:Prop}:bc true A B=A:=rfl
theorem bc_f {A B:Prop}:bc false A B=B:=rfl
theorem qaf {b:Bool} {A B:Prop} (h1:b=true->A) (h2:b=false->B):bc b A B:=by
 cases b
 ·exact h2 rfl
 ·exact h1 rfl
def allIn {α:Type} (L:List (Nat × α)):List (Nat × α)->Prop
 | []=>True
 | (t,s)::l=>lk L t=some s/\allIn L l
theorem qic {α:Type} {L:List (Nat × α)}:∀ l,allIn L l->∀ t s,lk l t=some s->lk L t=some s
 | [],_,_,_,e=>by simp[lk] at e
 | (a,x)::l,h,t,s,e=>by
  simp only[lk] at e;split at e
  next q=>subst q;cases e;exact h.1
  ·exact qic l h.2 t s e
theorem Good.only {P:Program} {tt:TT} {G:GV} {f:FuncId} {n:Nat} {res:List ResultVar} {Q:List SV->List (Nat × LB)->Prop} {it:List Item} {S S':PS}
  (h:Good P tt G f n res Q it S') (he:allIn S.env S'.env) (hb:allIn S.blk S'.blk):Good P tt G f n res Q it S:=
 Good.less (qic _ he) (qic _ hb) h
theorem Good.post {P:Program} {tt:TT} {G:GV} {f:FuncId} {n:Nat} {res:List ResultVar} {Q Q':List SV->List (Nat × LB)->Prop} {it:List Item} {S:PS}
  (h:Good P tt G f n res Q it S) (hq:∀ rs blk,Q rs blk->Q' rs blk):Good P tt G f n res Q' it S:=by
 refine GoodE.post h λ e g S hk=>?_
 cases e with
 | normal=>
  simp only[endK] at hk |-;split at hk
  ·exact hq _ _ hk
  ·exact hk.elim
 | ret=>
  simp only[endK] at hk |-;split at hk
  ·exact hq _ _ hk
  ·exact hk.elim
 | exit id=>exact hk
 | goto l=>exact hk
theorem calls_of_held {P:Program} {G:GV} {f:FuncId} {ct:Ctr} (hh:Held P G f ct) {x:DL ct.args} (hp:ct.pre x) {b:Bool} (ho:ct.out x=[.bool b]) {args args':Array Value} {M:Map} {H:AHeap} {w:World} {Z:Nat->Option ABlk}
  (hva:VArgs Z ct.args x args.toList) (hz:∀ b y,Z b=some y->H.t.get b=some y/\isCells y) (hg:GZ Z G) (hargs:VRA M args args') (hrel:Rel (λ k=>k<w.heap.size) M H w) :
  Calls P f args' w λ e w'=>e=.returned (.bool b)/\RowKit.Below w.heap.size w w':=by
 intro cs;obtain ⟨Z',ν',H',M',w',v',vs,fr',x1,x2,x3,x4,x5,x6,x7,x8,x9,x10,x11,hbel,hst,hfn,hlv⟩:=hh x hp (λ k=>k<w.heap.size) M args args' w cs Z H hva hz hg hargs hrel;rw[ho] at x6;obtain ⟨v,u,rfl,hv,rfl⟩:=x6;have hv':v=.bool b:=by simpa [V1,CR] using hv
 subst hv';have e:v'=.bool b:=(VR.flat_iff (.bool b) rfl v').1 x10;rw[e] at hlv;exact ⟨.returned (.bool b),w',fr',⟨rfl,hbel.os,hbel.tape,hbel.output,hbel.size,hbel.block⟩,hst,hfn,hlv⟩
def rvOf:(σ:Sh)->σ.D->List Value
 | .int k,(n:Int)=>[.int k n]
 | .bool,(b:Bool)=>[.bool b]
 | .str,(l:List UInt8)=>[bstr l]
 | .unit,_=>[]
 | .pair a b,x=>rvOf a x.1++rvOf b x.2
 | .arr _ e,(l:List e.D)=>l.flatMap (rvOf e)
 | .sl _,_=>[]
def rvOk:(σ:Sh)->σ.D->Prop
 | .int _,_=>True
 | .bool,_=>True
 | .str,_=>True
 | .unit,_=>True
 | .pair a b,x=>rvOk a x.1/\rvOk b x.2
 | .arr n e,(l:List e.D)=>l.length=n/\∀ x∈l,rvOk e x
 | .sl _,_=>False
theorem qkh {α:Type} {R:α->List Value->Prop} {f:α->List Value}:∀ {l:List α},(∀ x∈l,R x (f x))->RVL R l (l.flatMap f)
 | [],_=>rfl
 | x::l,h=>⟨f x,l.flatMap f,by simp,h x (by simp),qkh λ y hy=>h y (by simp[hy])⟩
theorem q0l {Z:Nat->Option ABlk}:∀ (σ:Sh) (x:σ.D),rvOk σ x->RV Z σ x (rvOf σ x)
 | .int _,_,_=>rfl
 | .bool,_,_=>rfl
 | .str,_,_=>rfl
 | .unit,_,_=>rfl
 | .pair a b,x,h=>⟨_,_,rfl,q0l a x.1 h.1,q0l b x.2 h.2⟩
 | .arr _ e,_,h=>⟨h.1,qkh λ x hx=>q0l e x (h.2 x hx)⟩
 | .sl _,_,h=>h.elim
def MtB (π:Nat->Option Nat):LB->LB->Prop
 | .row et e xs,b=>b=.row et e xs
 | .var l,b=>∃ m,b=.var m/\MtL π l m
 | .mp κ σ l,b=>b=.mp κ σ l
 | .iter l pos,b=>b=.iter l pos
def MtK (π:Nat->Option Nat) (blk:List (Nat × LB)):List (Nat × LB)->Prop
 | []=>True
 | (i,lb)::l=>((∃ a b,π i=some a/\lk blk a=some b/\MtB π lb b)\/(π i=none/\∃ et e,lb=.row et e []/\0<e.size))/\MtK π blk l
def piOf (th:List (Nat × Nat)) (i:Nat):Option Nat:=match decide (BIG<=i) with
 | true=>some i
 | false=>lk th i
def QI (ct:CtrI) (x:DI ct.args) (rs:List SV) (blk:List (Nat × LB)):Prop:=
 ∃ th:List (Nat × Nat),MtL (piOf th) (ct.out x) rs/\MtK (piOf th) blk (ct.blk x)/\(th.map (·.2)).Nodup/\∀ p∈th,p.2<BIG
section
variable {P:Program} {tt:TT} {G:GV} {C:CV}
theorem q08 {th:List (Nat × Nat)} (hn:(th.map (·.2)).Nodup) (hb:∀ p∈th,p.2<BIG) {i j a:Nat} (h1:piOf th i=some a) (h2:piOf th j=some a):i=j:=by
 have hmem:∀ {i a:Nat},lk th i=some a->(i,a)∈th:=by
  intro i a h;clear hn hb h1 h2
  induction th with
  | nil=>simp[lk] at h
  | cons p l ih=>
   obtain ⟨k,b⟩:=p;simp only[lk] at h;split at h
   next e=>cases h;subst e;simp
   ·exact List.mem_cons_of_mem _ (ih h)
 unfold piOf at h1 h2;by_cases hi:BIG<=i
 ·rw[decide_eq_true hi] at h1;cases h1;by_cases hj:BIG<=j
  ·rw[decide_eq_true hj] at h2;cases h2;rfl
  ·rw[decide_eq_false hj] at h2;have:=hb _ (hmem h2);simp only at this;omega
 ·rw[decide_eq_false hi] at h1;by_cases hj:BIG<=j
  ·rw[decide_eq_true hj] at h2;cases h2;have:=hb _ (hmem h1);simp only at this;omega
  ·rw[decide_eq_false hj] at h2;have g1:=hmem h1;have g2:=hmem h2;clear h1 h2 hb hmem
   induction th with
   | nil=>cases g1
   | cons p l ih=>
    simp only[List.map_cons,List.nodup_cons] at hn;rcases List.mem_cons.1 g1 with e | e
    ·rcases List.mem_cons.1 g2 with e' | e'
     ·rw[<- e] at e';cases e';rfl
     ·exfalso;subst e;exact hn.1 (List.mem_map.2 ⟨_,e',rfl⟩)
    ·rcases List.mem_cons.1 g2 with e' | e'
     ·exfalso;subst e';exact hn.1 (List.mem_map.2 ⟨_,e,rfl⟩)
     ·exact ih hn.2 e e'
theorem MtK.get {π:Nat->Option Nat} {blk:List (Nat × LB)}:∀ {l:List (Nat × LB)},MtK π blk l->∀ i lb,lk l i=some lb->(∃ a b,π i=some a/\lk blk a=some b/\MtB π lb b)\/(π i=none/\∃ et e,lb=.row et e []/\0<e.size)
 | [],_,i,lb,h=>by simp[lk] at h
 | (j,b)::l,m,i,lb,h=>by
  simp only[MtK] at m;simp only[lk] at h;split at h
  next e=>subst e;cases h;exact m.1
  ·exact m.2.get i lb h
theorem zbt {π:Nat->Option Nat}:∀ {s t:SV},Mt π s t->opU t=opU s/\opE t=opE s:=by
 intro s t h1
 cases s with
 | win=>simp only[Mt] at h1;rcases h1 with ⟨_,_,rfl,_⟩ | ⟨rfl,_⟩ <;> exact ⟨rfl,rfl⟩
 | sl=>simp only[Mt] at h1;rcases h1 with rfl | ⟨rfl,_⟩ <;> exact ⟨rfl,rfl⟩
 | agg=>simp only[Mt] at h1;obtain ⟨_,rfl,_⟩:=h1;exact ⟨rfl,rfl⟩
 | ptr=>simp only[Mt] at h1;obtain ⟨_,rfl,_⟩:=h1;exact ⟨rfl,rfl⟩
 | mp=>simp only[Mt] at h1;obtain ⟨_,rfl,_⟩:=h1;exact ⟨rfl,rfl⟩
 | ifc=>simp only[Mt] at h1;obtain ⟨_,rfl,_⟩:=h1;exact ⟨rfl,rfl⟩
 | fn=>simp only[Mt] at h1;obtain ⟨_,_,rfl,_⟩:=h1;exact ⟨rfl,rfl⟩
 | elp=>simp only[Mt] at h1
 | aep=>simp only[Mt] at h1
 | tup=>simp only[Mt] at h1
 | _=>simp only[Mt] at h1;subst h1;exact ⟨rfl,rfl⟩
theorem q4g {π:Nat->Option Nat}:∀ {l m:List SV},MtL π l m->opK m=opK l
 | [],m,h=>by simp only[MtL] at h;subst h;rfl
 | [s],m,h=>by
  simp only[MtL] at h;obtain ⟨t,r,rfl,h1,rfl⟩:=h;rfl
 | s::s2::l,m,h=>by
  simp only[MtL] at h;obtain ⟨t,r,rfl,h1,t2,r2,rfl,h2,_⟩:=h;simp only[opK,(zbt h1).1,(zbt h2).2]
theorem MtB.br {π:Nat->Option Nat} {Z:Nat->Option ABlk} {ν:Nu} {H:AHeap} {i a:Nat} {lb b:LB} (hp:π i=some a) (m:MtB π lb b) (h:BR Z ν H a b):BR Z (λ i=>(π i).bind ν) H i lb:=by
 cases lb with
 | row et e xs=>
  simp only[MtB] at m;subst m;simp only[BR,hp,Option.bind_some] at h |-;exact h
 | var l=>
  obtain ⟨m',rfl,m⟩:=m;obtain ⟨ni,cs,et,h1,h2,h3,h4⟩:=h;exact ⟨ni,cs,et,by simp only[hp,Option.bind_some];exact h1,h2.of (q4g m).symm,by rw[qqr (q4g m).symm];exact h3,CRL.mt _ _ _ m h4⟩
 | mp κ σ l=>
  simp only[MtB] at m;subst m;simp only[BR,hp,Option.bind_some] at h |-;exact h
 | iter l pos=>
  simp only[MtB] at m;subst m;simp only[BR,hp,Option.bind_some] at h |-;exact h
theorem qnz {Z:Nat->Option ABlk} {ν:Nu}:∀ {l:List SV} {vs:List Value} (k:Nat) {t:Nat} {s:SV},VSL Z ν l vs->lk (envI k l) t=some s->k<=t/\∃ v,vs[t-k]?=some v/\VS Z ν s v
 | [],vs,k,t,s,h,e=>by simp[envI,lk] at e
 | a::l,vs,k,t,s,h,e=>by
  obtain ⟨v,w,rfl,h1,h2⟩:=h;simp only[envI,lk] at e;split at e
  next hk=>subst hk;cases e;exact ⟨Nat.le_refl _,v,by simp,h1⟩
  ·obtain ⟨h3,v',h4,h5⟩:=qnz (k+1) h2 e;exact ⟨by omega,v',by rw[show t-k=(t-(k+1))+1 by omega,List.getElem?_cons_succ];exact h4,h5⟩
theorem qgw:∀ (as:List AK) (x:DI as) (k:Nat),(svKL k as x).length=as.length
 | [],_,_=>rfl
 | _::as,x,k=>by simp only[svKL,List.length_cons,qgw as x.2]
theorem HeldI.of (hx:CxOK P tt G C) {f:FuncId} {fn:Func} {c:Code} {ct:CtrI} (hf:P.funcs[f]?=some fn) (hb:fn.body=some c) (hn:ct.args.length<=fn.ntmps/\ct.args.length<1000)
  (h:∀ x,ct.pre x->Good P tt G f fn.ntmps fn.results.toList (QI ct x) [.code c] (qb1 ct.args x)):HeldI P G f ct:=by
 intro x hpre base M args args' w cs Z ν H hva hp0 hg hargs hrel;have hlen:args.size=ct.args.length:=by
  have:=VSL.vra hva;rw[qgw] at this;simpa using this
 let fb:Frame:={ (default:Frame) with fn:=f,kind:=.normal }
 have hal:=(VRA.iff.1 hargs).length;simp only[Array.length_toList] at hal
 let a0:Act:={ tmps:=args'++Array.replicate (fn.ntmps-args'.size) undef,defers:=[] }
 have henter:Frame.enter P f args' .normal=Fr fb a0 [.code c]:=by
  simp[Frame.enter,Fr,fb,a0,hf,hb];rfl
 have hfr:FrOK M ⟨f,none,fn.ntmps⟩ fb:=⟨rfl,rfl,rfl⟩;have her:ER M fn.ntmps (qcp 0 args.toList .nil) a0.tmps:=qn0 hargs (by omega) (by omega);have hp:PR Z ν (qb1 ct.args x) (qcp 0 args.toList .nil) H:=by
  refine ⟨λ t s e=>?_,hp0.blk,hp0.zh,hp0.zo,hp0.inj⟩;obtain ⟨_,v,h1,h2⟩:=qnz 0 hva e;refine ⟨v,?_,h2⟩;rw[qb8 _ _ _ _ (by simp;omega)];have hlt:=(List.getElem?_eq_some_iff.1 h1).1;rw[if_pos ⟨Nat.zero_le _,by omega⟩];exact h1
 obtain ⟨rs,S',M1,Z',ν',E',H',a1,w1,k1,x1,x2,x3,x4,x5,x6,x7,x8,x9,hret⟩:=(h x hpre).ends (cs:=cs) hfr her rfl hrel hp hg;obtain ⟨th,m1,m2,m3,m4⟩:=x2;obtain ⟨vs,hvs,hvl⟩:=qf5 hx.ty x8 (hg.mono x9.z) x1;obtain ⟨v',hr,hv⟩:=qek (P:=P) x4 x6 hvs;have key:∀ i lb ni,lk (ct.blk x) i=some lb->(piOf th i).bind ν'=some ni->∃ a b,piOf th i=some a/\lk S'.blk a=some b/\ν' a=some ni:=by
  intro i lb ni h1 h2;rcases m2.get i lb h1 with ⟨a,b,g1,g2,g3⟩ | ⟨g1,_⟩
  ·exact ⟨a,b,g1,g2,by rw[g1] at h2;exact h2⟩
  ·rw[g1] at h2;cases h2
 have hown:∀ b,Own (λ i=>(piOf th i).bind ν') ⟨[],ct.blk x⟩ b->Own ν' S' b:=by
  rintro b ⟨i,lb,ni,h1,h2,rfl⟩;obtain ⟨a,c,g1,g2,g3⟩:=key i lb ni h1 h2;exact ⟨a,c,ni,g2,g3,rfl⟩
 have hp':PR Z' (λ i=>(piOf th i).bind ν') ⟨[],ct.blk x⟩ .nil H':=by
  refine ⟨λ t s e=>by simp[lk] at e,λ i lb h1=>?_,x8.zh,λ b hb=>x8.zo b (hown b hb),λ i j li lj ni nj h1 h2 h3 h4 h5=>?_⟩
  ·rcases m2.get i lb h1 with ⟨a,b,g1,g2,g3⟩ | ⟨g1,et,e,rfl,g2⟩
   ·exact g3.br g1 (x8.blk a b g2)
   ·exact ⟨g2,.inl ⟨by simp[g1],rfl⟩⟩
  ·obtain ⟨a,c,g1,g2,g3⟩:=key i li ni h1 h3;obtain ⟨a2,c2,k1,k2,k3⟩:=key j lj nj h2 h4;have:=x8.inj a a2 c c2 ni nj g2 k2 g3 k3 h5;subst this;exact q08 m3 m4 g1 k1
 refine ⟨Z',λ i=>(piOf th i).bind ν',H',M1,w1,v',vs,{ Fr fb { a1 with defers:=[] } k1 with mode:=.returning },V1L.mt m1 hvl,hp',⟨x9.z,x9.zn,x9.le,x9.old,λ b hb=>x9.own b (hown b hb),λ i hB hi=>?_⟩,x3,hv,x6,x7,?_,rfl,rfl,rfl,rfl,fn,hf,hr⟩
 ·obtain ⟨lb,hl⟩:=Option.ne_none_iff_exists'.1 hi;have hpi:piOf th i=some i:=by unfold piOf;rw[decide_eq_true hB]
  rcases m2.get i lb hl with ⟨a,b,g1,g2,g3⟩ | ⟨g1,_⟩
  ·rw[hpi] at g1;cases g1;have:=x9.big i hB (by rw[g2];simp);exact ⟨this.1,by rw[hpi];exact this.2⟩
  ·rw[hpi] at g1;cases g1
 ·rw[henter];have e:a1={ a1 with defers:=[] }:=by
   cases a1;simp only at x5;subst x5;rfl
  rw[<- e];exact hret
theorem HeldI.run (hx:CxOK P tt G C) {f:FuncId} {fn:Func} {ct:CtrI} (hf:P.funcs[f]?=some fn) (hb:fn.body=some (qad fn)) (hn:ct.args.length<=fn.ntmps/\ct.args.length<1000)
  (h:∀ x,ct.pre x->sy tt G C fn.ntmps fn.results.toList (QI ct x) (Good P tt G f fn.ntmps fn.results.toList (QI ct x)) 1000 [.code (qad fn)] (qb1 ct.args x)):HeldI P G f ct:=
 HeldI.of hx hf hb hn λ x hp=>qak hx _ _ _ (h x hp)
end
theorem CxOK.consI {P : Program} {tt : TT} {G : GV} {C : CV} (hx : CxOK P tt G C) {f : FuncId} {fn : Func} {ct : CtrI} (hh : HeldI P G f ct) (hf : P.funcs[f]? = some fn) (hn : (fn.name == "runtime.NumGoroutine") = false) (hb : fn.body.isSome = true) : CxOK P tt G ((f, .inr ct) :: C) := by
 refine ⟨hx.ty,λ g cg e=>?_,λ g cg e=>?_,λ g e=>?_,hx.mix,hx.mth⟩
 ·simp only[lk] at e;split at e
  ·cases e
  ·exact hx.held g cg e
 ·rcases List.mem_cons.1 e with e | e
  ·cases e;exact hh
  ·exact hx.heldI g cg e
 ·simp only[lk] at e;split at e
  next h=>subst h;exact λ args w=>qbk hf hn hb args w
  ·exact hx.enter g e
def rho (r:List (Nat × Nat)) (i:Nat):Nat:=match lk r i with
 | some j=>j
 | none=>i
def qti (r:List (Nat × Nat)) (L:List (Nat × SV)):List (Nat × SV)->Prop
 | []=>True
 | (t,s)::l=>lk L t=some (renS (rho r) s)/\qti r L l
def qll (r:List (Nat × Nat)) (L:List (Nat × LB)):List (Nat × LB)->Prop
 | []=>True
 | (i,b)::l=>lk L (rho r i)=some (renB (rho r) b)/\qll r L l
section
variable {Z:Nat->Option ABlk} {ν:Nu} {H:AHeap} {ρ:Nat->Nat}
mutual
theorem CR.back:∀ (s:SV) (vs:List Value),CR Z ν (Px.renS ρ s) vs->CR Z (λ i=>ν (ρ i)) s vs
 | .win _ _ _ _ _,_,k=>k
 | .ptr _ _,_,k=>k
 | .mp _,_,k=>k
 | .yl _,_,k=>k
 | .nilm,_,k=>k
 | .ifc t g l,vs,k=>by
  simp only[renS,CR] at k |-;obtain ⟨us,v,h1,h2,h3⟩:=k;exact ⟨us,v,CRL.back l us h1,h2,h3⟩
 | .elp _ _ _ _,_,k=>k
 | .aep _ _ _ _ _,_,k=>k
 | .agg l,vs,k=>by
  simp only[renS,CR] at k |-;exact CRL.back l vs k
 | .tup l,vs,k=>by simp only[renS,CR] at k
 | .fn f a c,vs,k=>by
  simp only[renS,CR] at k |-;obtain ⟨va,vc,h1,h2,h3⟩:=k;exact ⟨va,vc,h1,CRO.back a va h2,CRO.back c vc h3⟩
 | .nils,_,k=>k
 | .dead,_,k=>k
 | .int _ _,_,k=>k
 | .bool _,_,k=>k
 | .str _,_,k=>k
 | .sl _ _,_,k=>k
 | .arr _ _ _,_,k=>k
 | .elv _ _,_,k=>k
theorem CRL.back:∀ (l:List SV) (vs:List Value),CRL Z ν (renSL ρ l) vs->CRL Z (λ i=>ν (ρ i)) l vs
 | [],_,k=>k
 | s::l,vs,k=>by
  simp only[renSL,CRL] at k |-;obtain ⟨u,w,e,h1,h2⟩:=k;exact ⟨u,w,e,CR.back s u h1,CRL.back l w h2⟩
theorem CRO.back:∀ (l:List SV) (vs:List Value),CRO Z ν (renSL ρ l) vs->CRO Z (λ i=>ν (ρ i)) l vs
 | [],_,k=>k
 | s::l,vs,k=>by
  simp only[renSL,CRO] at k |-;obtain ⟨u,w,e,h1,h2⟩:=k;exact ⟨u,w,e,CR.back s [u] h1,CRO.back l w h2⟩
end
theorem V1.back {s:SV} {v:Value} (k:V1 Z ν (Px.renS ρ s) v):V1 Z (λ i=>ν (ρ i)) s v:=by
 cases s with
 | agg l=>obtain ⟨vs,e,k⟩:=k;exact ⟨vs,e,CRL.back l vs k⟩
 | arr n e l=>exact k
 | tup l=>have:CR Z ν (.tup (renSL ρ l)) [v]:=k;simp only[CR] at this
 | win r e id lo n=>exact CR.back (Z:=Z) (.win r e id lo n) [v] k
 | ptr id o=>exact CR.back (Z:=Z) (.ptr id o) [v] k
 | mp id=>exact CR.back (Z:=Z) (.mp id) [v] k
 | ifc t g l=>exact CR.back (Z:=Z) (.ifc t g l) [v] k
 | elp e id i o=>exact CR.back (Z:=Z) (.elp e id i o) [v] k
 | aep e id b i o=>exact CR.back (Z:=Z) (.aep e id b i o) [v] k
 | fn f a c=>exact CR.back (Z:=Z) (.fn f a c) [v] k
 | _=>exact k
theorem V1L.back:∀ {l:List SV} {vs:List Value},V1L Z ν (renSL ρ l) vs->V1L Z (λ i=>ν (ρ i)) l vs
 | [],_,k=>k
 | _::_,_,⟨v,w,e,h1,h2⟩=>⟨v,w,e,h1.back,V1L.back h2⟩
theorem VS.back {s:SV} {v:Value} (k:VS Z ν (Px.renS ρ s) v):VS Z (λ i=>ν (ρ i)) s v:=by
 cases s with
 | tup l=>obtain ⟨vs,e,k⟩:=k;exact ⟨vs,e,k.back⟩
 | agg l=>exact V1.back (s:=.agg l) k
 | arr n e l=>exact k
 | win r e id lo n=>exact CR.back (Z:=Z) (.win r e id lo n) [v] k
 | ptr id o=>exact CR.back (Z:=Z) (.ptr id o) [v] k
 | elp e id i o=>exact CR.back (Z:=Z) (.elp e id i o) [v] k
 | aep e id b i o=>exact CR.back (Z:=Z) (.aep e id b i o) [v] k
 | fn f a c=>exact CR.back (Z:=Z) (.fn f a c) [v] k
 | ifc t g l=>exact CR.back (Z:=Z) (.ifc t g l) [v] k
 | _=>exact k
theorem BR.back {id:Nat} {lb:LB} (k:BR Z ν H (ρ id) (Px.renB ρ lb)):BR Z (λ i=>ν (ρ i)) H id lb:=by
 cases lb with
 | var l=>
  obtain ⟨ni,cs,et,h1,h2,h3,h4⟩:=k;exact ⟨ni,cs,et,h1,h2.of (qnk ρ l).symm,by rw[qqr (qnk ρ l).symm];exact h3,CRL.back l cs h4⟩
 | row et e xs=>exact k
 | mp κ σ l=>exact k
 | iter l pos=>exact k
theorem qpv {r:List (Nat × Nat)} {L:List (Nat × SV)}:∀ {l:List (Nat × SV)},qti r L l->∀ t s,lk l t=some s->lk L t=some (renS (rho r) s)
 | [],_,t,s,e=>by simp[lk] at e
 | (a,x)::l,h,t,s,e=>by
  simp only[lk] at e;split at e
  next q=>subst q;cases e;exact h.1
  ·exact qpv h.2 t s e
theorem qbq {r:List (Nat × Nat)} {L:List (Nat × LB)}:∀ {l:List (Nat × LB)},qll r L l->∀ t s,lk l t=some s->lk L (rho r t)=some (renB (rho r) s)
 | [],_,t,s,e=>by simp[lk] at e
 | (a,x)::l,h,t,s,e=>by
  simp only[lk] at e;split at e
  next q=>subst q;cases e;exact h.1
  ·exact qbq h.2 t s e
theorem qeo {α:Type} {f:Nat->Nat}:∀ {l:List (Nat × α)} {i j:Nat},(l.map λ p=>f p.1).Nodup->lk l i≠none->lk l j≠none->f i=f j->i=j
 | [],i,j,_,h,_,_=>absurd rfl h
 | (k,b)::l,i,j,hn,hi,hj,e=>by
  simp only[List.map_cons,List.nodup_cons] at hn;have mem:∀ {i:Nat},lk l i≠none->f i∈l.map λ p=>f p.1:=by
   intro i h;clear hn hi hj
   induction l with
   | nil=>exact absurd rfl h
   | cons p l ih=>
    simp only[lk] at h;split at h
    next q=>subst q;simp
    ·exact List.mem_cons_of_mem _ (ih h)
  simp only[lk] at hi hj;split at hi
  next q1=>
   split at hj
   next q2=>rw[<- q1,<- q2]
   ·exfalso;rw[<- q1] at e;exact hn.1 (e ▸ mem hj)
  ·split at hj
   next q2=>exfalso;rw[<- q2] at e;exact hn.1 (e ▸ mem hi)
   ·exact qeo hn.2 hi hj e
end
def q7l (r:List (Nat × Nat)) (S':PS):Bool:=decide (S'.blk.map λ p=>rho r p.1).Nodup&&r.all λ p=>decide (p.1<BIG)
theorem qx0 {r:List (Nat × Nat)} {i j:Nat} (hl:lk r i=some j):∃ p∈r,p.1=i:=by
 induction r with
 | nil=>simp[lk] at hl
 | cons p r ih=>
  obtain ⟨a,c⟩:=p;simp only[lk] at hl;split at hl
  next q=>exact ⟨(a,c),by simp,q⟩
  ·obtain ⟨p,hp,e⟩:=ih hl;exact ⟨p,by simp[hp],e⟩
theorem GoodE.onlyR {P:Program} {G:GV} {f:FuncId} {n:Nat} {rd:Rd} {Y:Yp} {K:AExit->Nat × Bool->PS->Prop} {it:List Item} {g:Nat × Bool} {S S':PS}
  (h:GoodE P G f n rd Y K it g S') (r:List (Nat × Nat)) (hr:q7l r S'=true) (he:qti r S.env S'.env) (hb:qll r S.blk S'.blk):GoodE P G f n rd Y K it g S:=by
 intro base Yd J lr b cs M a w Z ν E H A B ds st;simp only[q7l,Bool.and_eq_true,decide_eq_true_eq,List.all_eq_true] at hr;have hbig:∀ i,BIG<=i->rho r i=i:=by
  intro i hi;unfold rho
  cases hl:lk r i with
  | none=>rfl
  | some j=>
   exfalso;have:∃ p∈r,p.1=i:=qx0 hl;obtain ⟨p,hp,rfl⟩:=this;have:=hr.2 p hp;omega
 have hown:∀ b,Own (λ i=>ν (rho r i)) S' b->Own ν S b:=λ b ⟨id,lb,ni,g1,g2,g3⟩=>⟨rho r id,_,ni,qbq hb _ _ g1,g2,g3⟩
 have hp:PR Z (λ i=>ν (rho r i)) S' E H:=by
  refine ⟨λ t s e=>?_,λ t s e=>(st.pr.blk _ _ (qbq hb t s e)).back,st.pr.zh,λ b ho=>st.pr.zo b (hown b ho),λ i j li lj ni nj g1 g2 g3 g4 g5=>?_⟩
  ·obtain ⟨v,k1,k2⟩:=st.pr.env t _ (qpv he t s e);exact ⟨v,k1,k2.back⟩
  ·exact qeo hr.1 (by rw[g1];simp) (by rw[g2];simp) (st.pr.inj _ _ _ _ _ _ (qbq hb _ _ g1) (qbq hb _ _ g2) g3 g4 g5)
 have st':OnW P G f n rd Y base Yd J lr b g S' M a w Z (λ i=>ν (rho r i)) E H A B ds:=⟨st.hd,st.j,λ c hA ho=>st.dis c hA (hown c ho),st.bz,st.yz,st.yn,λ c ho=>st.yo c (hown c ho),st.fr,st.lp,st.er,st.mark,st.mb,st.rel,hp,st.gz⟩;obtain ⟨e,g',S2,M',a',w',Z',ν',E',H',A',B',ds',k0,x1,x2,x3,x4,x5,x6⟩:=h base Yd J lr b cs M a w Z (λ i=>ν (rho r i)) E H A B ds st';refine ⟨e,g',S2,M',a',w',Z',ν',E',H',A',B',ds',k0,x1,x2,x3,x4,⟨x5.z,λ b hb'=>(x5.zn b hb').imp_right (Or.imp_right (hown b)),x5.le,λ b y g1 g2 g3 g4 g5=>x5.old b y g1 g2 (λ g=>g3 (hown b g)) g4 g5,λ b hb'=>(x5.own b hb').imp_left (hown b),x5.bb,x5.aa,λ i g1 g2=>?_⟩,x6⟩;obtain ⟨k1,k2⟩:=x5.big i g1 g2;obtain ⟨lb,hl⟩:=Option.ne_none_iff_exists'.1 k1;have:=qbq hb _ _ hl;rw[hbig i g1] at this;exact ⟨by rw[this];simp,by rw[k2,hbig i g1]⟩
theorem Good.onlyR {P:Program} {tt:TT} {G:GV} {f:FuncId} {n:Nat} {res:List ResultVar} {Q:List SV->List (Nat × LB)->Prop} {it:List Item} {S S':PS}
  (h:Good P tt G f n res Q it S') (r:List (Nat × Nat)) (hr:q7l r S'=true) (he:qti r S.env S'.env) (hb:qll r S.blk S'.blk):Good P tt G f n res Q it S:=GoodE.onlyR h r hr he hb
structure Fro (G:GV) (H:AHeap):Prop where
 ro:∀ i x,H.t.get i=some x->x.ro=true
 ce:∀ i x,H.t.get i=some x->isCells x
 dom:∀ i x,H.t.get i=some x->i<H.next
 gz:GZ (λ b=>H.t.get b) G
theorem Fro.add {G:GV} {H:AHeap} (h:Fro G H) (hid:idOK H.next) (vs:List Value) (e:TypeId):Fro G (H.add (.cells vs e 2)) where
 ro i x hx:=by
  by_cases e1:i=H.next
  ·subst e1;rw[AHeap.get_add hid] at hx;cases hx;rfl
  ·rw[AHeap.get_add_other e1] at hx;exact h.ro i x hx
 ce i x hx:=by
  by_cases e1:i=H.next
  ·subst e1;rw[AHeap.get_add hid] at hx;cases hx;trivial
  ·rw[AHeap.get_add_other e1] at hx;exact h.ce i x hx
 dom i x hx:=by
  simp only[AHeap.add];by_cases e1:i=H.next
  ·omega
  ·rw[AHeap.get_add_other e1] at hx;have:=h.dom i x hx;omega
 gz:=h.gz.mono λ b x hb=>by
  have:=h.dom b x hb;rw[AHeap.get_add_other (by omega)];exact hb
mutual
def qkg:SV->Bool
 | .win _ _ id _ _=>decide (BIG<=id)
 | .ptr id _=>decide (BIG<=id)
 | .mp id=>decide (BIG<=id)
 | .elp _ _ _ _=>false
 | .aep _ _ _ _ _=>false
 | .agg l=>qgo l
 | .tup _=>false
 | .fn _ a c=>qgo a&&qgo c
 | .ifc _ _ l=>qgo l
 | _=>true
def qgo:List SV->Bool
 | []=>true
 | s::l=>qkg s&&qgo l
end
theorem qjw {th:List (Nat × Nat)} {i:Nat} (h:BIG<=i):piOf th i=some i:=by unfold piOf;rw[decide_eq_true h]
mutual
theorem q7x {th:List (Nat × Nat)}:∀ s:SV,qkg s=true->Mt (piOf th) s s
 | .win r e id lo n,h=>by
  simp only[qkg,decide_eq_true_eq] at h;exact .inl ⟨r,id,rfl,qjw h,λ q=>q⟩
 | .ptr id o,h=>by
  simp only[qkg,decide_eq_true_eq] at h;exact ⟨id,rfl,qjw h⟩
 | .mp id,h=>by
  simp only[qkg,decide_eq_true_eq] at h;exact ⟨id,rfl,qjw h⟩
 | .yl _,_=>rfl
 | .nilm,_=>rfl
 | .ifc _ _ l,h=>by simp only[qkg] at h;exact ⟨l,rfl,qeq l h⟩
 | .agg l,h=>by simp only[qkg] at h;exact ⟨l,rfl,qeq l h⟩
 | .fn f a c,h=>by
  simp only[qkg,Bool.and_eq_true] at h;exact ⟨a,c,rfl,qeq a h.1,qeq c h.2⟩
 | .nils,_=>rfl
 | .dead,_=>rfl
 | .int _ _,_=>rfl
 | .bool _,_=>rfl
 | .str _,_=>rfl
 | .sl _ _,_=>.inl rfl
 | .arr _ _ _,_=>rfl
 | .elv _ _,_=>rfl
 | .elp _ _ _ _,h=>by simp[qkg] at h
 | .aep _ _ _ _ _,h=>by simp[qkg] at h
 | .tup _,h=>by simp[qkg] at h
theorem qeq {th:List (Nat × Nat)}:∀ l:List SV,qgo l=true->MtL (piOf th) l l
 | [],_=>rfl
 | s::l,h=>by
  simp only[qgo,Bool.and_eq_true] at h;exact ⟨s,l,rfl,q7x s h.1,qeq l h.2⟩
end
def zbf:LB->Bool
 | .var l=>qgo l
 | .row _ _ _=>true
 | .mp _ _ _=>true
 | .iter _ _=>true
theorem qsl {th:List (Nat × Nat)} {blk:List (Nat × LB)}:∀ l:List (Nat × LB),(l.all λ p=>decide (BIG<=p.1)&&zbf p.2)=true->(∀ p∈l,lk blk p.1=some p.2)->MtK (piOf th) blk l
 | [],_,_=>trivial
 | (i,b)::l,h,hl=>by
  simp only[List.all_cons,Bool.and_eq_true,decide_eq_true_eq] at h;refine ⟨.inl ⟨i,b,qjw h.1.1,hl (i,b) (by simp),?_⟩,qsl l h.2 λ p hp=>hl p (by simp[hp])⟩
  cases b with
  | var m=>exact ⟨m,rfl,qeq m h.1.2⟩
  | row et e xs=>rfl
  | mp κ σ l=>rfl
  | iter l pos=>rfl
theorem QI.self {ct:CtrI} {x:DI ct.args} {rs:List SV} {blk:List (Nat × LB)} (h:ct.out x=rs) (hs:qgo rs=true) (hb:(ct.blk x).all (λ p=>decide (BIG<=p.1)&&zbf p.2)=true) (hl:∀ p∈ct.blk x,lk blk p.1=some p.2):QI ct x rs blk:=
 ⟨[],by rw[h];exact qeq rs hs,qsl _ hb hl,by simp,by simp⟩
structure CtrY where
 cap:List AK
 pre:DI cap->Prop
 ysh:List Sh
 ys:DI cap->List (DL ysh)
def HeldY (P:Program) (G:GV) (f:FuncId) (ct:CtrY):Prop:=
 ∀ x,ct.pre x->∀ (base:Prot) (Yd:Nat->Prop) (J:Jt) (l:Nat) (M:Map) (vs:List Value) (args':Array Value) (w:World) (cs:List Frame) (Z:Nat->Option ABlk) (ν:Nu) (H:AHeap) (A B:Nat->Prop),
  HdOK P base G ⟨l,ct.ysh,ct.ys x⟩ Yd J->J 0 false A B H->(∀ c,A c->¬ Own ν ⟨[],bkKL 0 ct.cap x⟩ c)->(∀ c,B c->Z c=none)->(∀ c,Z c≠none->Yd c)->(∀ c,H.next<=c->Yd c)->(∀ c,Own ν ⟨[],bkKL 0 ct.cap x⟩ c->Yd c) ->
  VSL Z ν (svKL 0 ct.cap x) vs->PR Z ν ⟨[],bkKL 0 ct.cap x⟩ .nil H->GZ Z G->VRA M (.func (.yield l) #[] #[]::vs).toArray args'->Rel base M H w ->
  ∃ i s M' H' w' A' B' v' fr',J i s A' B' H'/\(s=true\/i=(ct.ys x).length)/\Ext M M'/\Rel base M' H' w'/\Below base w w'/\H.next<=H'.next/\(∀ b y,H.t.get b=some y->¬ Own ν ⟨[],bkKL 0 ct.cap x⟩ b->¬ B b->H'.t.get b=some y)/\(∀ b,B' b->B b\/H.next<=b) /\
   Steps P (lone (Frame.enter P f args' .normal) cs w) (lone fr' cs w')/\fr'.fn=f/\fr'.leaving P w' (.returned v')
def endY (n:Nat):AExit->Nat × Bool->PS->Prop
 | .normal,g,_=>g.2=true\/g.1=n
 | .ret,g,_=>g.2=true\/g.1=n
 | _,_,_=>False
def qld (l:Nat) (as:List AK) (x:DI as):PS:=⟨envI 0 (.yl l::svKL 0 as x),bkKL 0 as x⟩
section
variable {P:Program} {tt:TT} {G:GV} {C:CV}
theorem HeldY.of {f:FuncId} {fn:Func} {c:Code} {ct:CtrY} (hf:P.funcs[f]?=some fn) (hb:fn.body=some c) (hres:fn.results.toList=[]) (hn:ct.cap.length+1<=fn.ntmps/\ct.cap.length+1<1000)
  (h:∀ x,ct.pre x->∀ l,GoodE P G f fn.ntmps .fn ⟨l,ct.ysh,ct.ys x⟩ (endY (ct.ys x).length) [.code c] (0,false) (qld l ct.cap x)):HeldY P G f ct:=by
 intro x hpre base Yd J l M vs args' w cs Z ν H A B hd hj hdis hbz hyz hyn hyo hva hp0 hg hargs hrel;have hlen:vs.length=ct.cap.length:=by
  have:=VSL.vra hva;rw[qgw] at this;exact this
 let fb:Frame:={ (default:Frame) with fn:=f,kind:=.normal }
 have hal:=(VRA.iff.1 hargs).length;simp only[Array.length_toList,List.length_cons] at hal
 let a0:Act:={ tmps:=args'++Array.replicate (fn.ntmps-args'.size) undef,defers:=[] }
 have henter:Frame.enter P f args' .normal=Fr fb a0 [.code c]:=by
  simp[Frame.enter,Fr,fb,a0,hf,hb];rfl
 have hfr:FrOK M ⟨f,none,fn.ntmps⟩ fb:=⟨rfl,rfl,rfl⟩;have her:ER M fn.ntmps (qcp 0 (.func (.yield l) #[] #[]::vs) .nil) a0.tmps:=by
  have:=qn0 (n:=fn.ntmps) hargs (by simp;omega) (by simp;omega);exact this
 have hva':VSL Z ν (.yl l::svKL 0 ct.cap x) (.func (.yield l) #[] #[]::vs):=⟨_,_,rfl,by show CR Z ν _ _;simp only[CR],hva⟩;have hp:PR Z ν (qld l ct.cap x) (qcp 0 (.func (.yield l) #[] #[]::vs) .nil) H:=by
  refine ⟨λ t s e=>?_,hp0.blk,hp0.zh,hp0.zo,hp0.inj⟩;obtain ⟨_,v,h1,h2⟩:=qnz 0 hva' e;refine ⟨v,?_,h2⟩;rw[qb8 _ _ _ _ (by simp;omega)];have hlt:=(List.getElem?_eq_some_iff.1 h1).1;rw[if_pos ⟨Nat.zero_le _,by omega⟩];exact h1
 have st:OnW P G f fn.ntmps .fn ⟨l,ct.ysh,ct.ys x⟩ base Yd J ⟨0,default,.nil,0⟩ fb (0,false) (qld l ct.cap x) M a0 w Z ν _ H A B []:=
  ⟨hd,hj,hdis,hbz,hyz,hyn,hyo,hfr,λ h=>absurd rfl h,her,⟨rfl,by simp,by simp⟩,by simp,hrel,hp,hg⟩
 obtain ⟨e,g',S',M',a',w',Z',ν',E',H',A',B',ds',k0,x1,x2,x3,x4,x5,x6,_,x7,x8⟩:=h x hpre l base Yd J ⟨0,default,.nil,0⟩ fb cs M a0 w Z ν _ H A B [] st;have hend:(g'.2=true\/g'.1=(ct.ys x).length)/\(k0=[]\/∃ k1,k0=.code .ret::k1):=by
  cases e with
  | normal=>exact ⟨x1,.inl x8⟩
  | ret=>exact ⟨x1,.inr x8⟩
  | exit id=>exact x1.elim
  | goto l=>exact x1.elim
 have hret:∃ k1,Steps P (lone (Fr fb a0 [.code c]) cs w) (lone { Fr fb a' k1 with mode:=.returning } cs w'):=by
  rcases hend.2 with rfl | ⟨k1,rfl⟩
  ·exact ⟨[],Steps.trans x7 (.one (q39 rfl))⟩
  ·exact ⟨.code .ret::k1,x7.trans (.one (q38 rfl))⟩
 obtain ⟨k1,hret⟩:=hret;obtain ⟨m1,m2,m3⟩:=x2.mark;obtain ⟨H2,t1,t2,t3⟩:=qij ds' H' m2 m3;obtain ⟨w2,r1,r2,r3⟩:=qei (P:=P) (b:=fb) (k:=k1) (cs:=cs) ds' H' H2 a' w' t1 m1 x2.rel;have hnew:∀ d∈ds',H.next<=d:=λ d hd=>(x6 d hd).resolve_left (by simp)
 have hj2:J g'.1 g'.2 A' B' H2:=hd.stab _ _ _ _ _ _ x2.j (λ c y hA hy=>by rw[t3 c λ hc=>x2.mb c hc hA];exact hy) (by rw[t2];exact Nat.le_refl _);obtain ⟨v',hr,hv⟩:=qek (P:=P) (vs:=[]) x2.er r1 (fn:=fn) (by rw[hres];rfl);refine ⟨g'.1,g'.2,M',H2,w2,A',B',v',{ Fr fb { a' with defers:=[] } k1 with mode:=.returning },hj2,hend.1,x3,r1,x4.trans r2,by rw[t2];exact x5.le,λ c y hy ho hB=>?_,x5.bb,?_,rfl,rfl,rfl,rfl,fn,hf,hr⟩
 ·have hlt:=hrel.dom _ _ hy;rw[t3 c λ hc=>by have:=hnew c hc;omega];exact x5.old c y hy hlt ho hB λ h=>h.1 rfl
 ·rw[henter];exact hret.trans r3
end
def qk3:AExit->List Item
 | .normal=>[]
 | .exit id=>[.code (.exit id)]
 | .goto l=>[.code (.goto l)]
 | .ret=>[.code .ret]
theorem q15 (e:AExit):((qal e).map Item.code).toList=qk3 e:=by cases e <;> rfl
def parE:List Nat->(as:List Sh)->DL as->List (Nat × SV)->List (Nat × SV)
 | p::ps,σ::as,y,l=>(p,ofD σ y.1)::parE ps as y.2 l
 | _,_,_,l=>l
def zipE:List Nat->List SV->List (Nat × SV)
 | t::ts,s::l=>(t,s)::zipE ts l
 | _,_=>[]
def qle (ts ps:List Nat) (Ko:List AK) (as:List Sh) (x:DI Ko) (y:DL as):PS:=⟨parE ps as y (zipE ts (svKL 0 Ko x)),bkKL 0 Ko x⟩
def okIn (r:List (Nat × Nat)) (Ko:List AK) (x:DI Ko):Bool:=
 decide ((bkKL 0 Ko x).map λ p=>rho r p.1).Nodup&&(idsL (svKL 0 Ko x)).all λ t=>decide (rho r t=t)&&(lk (bkKL 0 Ko x) t).isSome&&decide (BIG<=t)
def InPl (r:List (Nat × Nat)) (blk:List (Nat × LB)) (Ko:List AK) (x x':DI Ko):Prop:=qll r blk (bkKL 0 Ko x')/\okIn r Ko x'=true/\svKL 0 Ko x'=svKL 0 Ko x
def qp0 (P:Program) (G:GV) (f:FuncId) (n:Nat) (Y:Yp) (ts ps:List Nat) (Ko:List AK) (as:List Sh) (assign body:Code) (QL:AExit->Nat × Bool->DI Ko->Prop):List (DL as)->Nat × Bool->DI Ko->Prop
 | [],g,x=>QL .normal g x
 | y::ys,g,x=>GoodE P G f n .ready Y (λ e g' S'=>∃ r x',InPl r S'.blk Ko x x'/\match e with
   | .normal=>qp0 P G f n Y ts ps Ko as assign body QL ys g' x'
   | e=>QL e g' x') [.code assign,.beginRound,.code body] g (qle ts ps Ko as x y)
section
variable {Z Z':Nat->Option ABlk} {ν ν':Nu} {S:PS} {E:T Value} {H:AHeap}
mutual
theorem qwy:∀ s:SV,renS (λ i=>i) s=s
 | .win _ _ _ _ _=>rfl
 | .ptr _ _=>rfl
 | .elp _ _ _ _=>rfl
 | .aep _ _ _ _ _=>rfl
 | .mp _=>rfl
 | .yl _=>rfl
 | .nilm=>rfl
 | .ifc _ _ l=>by simp only[renS,qf6 l]
 | .agg l=>by simp only[renS,qf6 l]
 | .tup l=>by simp only[renS,qf6 l]
 | .fn f a c=>by simp only[renS,qf6 a,qf6 c]
 | .nils=>rfl
 | .dead=>rfl
 | .int _ _=>rfl
 | .bool _=>rfl
 | .str _=>rfl
 | .sl _ _=>rfl
 | .arr _ _ _=>rfl
 | .elv _ _=>rfl
theorem qf6:∀ l:List SV,renSL (λ i=>i) l=l
 | []=>rfl
 | s::l=>by simp only[renSL,qwy s,qf6 l]
end
theorem V1.nu {s:SV} {v:Value} (h:∀ i,ment i s=true->ν' i=ν i) (k:V1 Z ν s v):V1 Z ν' s v:=by
 have:=V1.renS (ρ:=λ i=>i) (ν2:=ν') (ν':=ν) h k;rwa[qwy] at this
theorem V1L.nu:∀ {l:List SV} {vs:List Value},(∀ i,qai i l=true->ν' i=ν i)->V1L Z ν l vs->V1L Z ν' l vs
 | [],_,_,k=>k
 | s::l,_,h,⟨v,w,e,h1,h2⟩=>⟨v,w,e,h1.nu λ i hi=>h i (by simp[qai,hi]),V1L.nu (λ i hi=>h i (by simp[qai,hi])) h2⟩
theorem VS.nu {s:SV} {v:Value} (h:∀ i,ment i s=true->ν' i=ν i) (k:VS Z ν s v):VS Z ν' s v:=by
 cases s with
 | tup l=>
  obtain ⟨vs,e,k⟩:=k;exact ⟨vs,e,k.nu λ i hi=>h i (by simpa [ment] using hi)⟩
 | _=>exact V1.vs (V1.nu h (VS.v1 k (by intros;simp)))
theorem qhy:∀ (l:List Nat) {S:PS} {j:Nat} {lb:LB},j ∉ l->lk S.blk j=some lb->∃ lb',lk (killA l S).blk j=some lb'
 | [],_,_,lb,_,h=>⟨lb,h⟩
 | i::l,S,j,lb,hj,h=>by
  simp only[List.mem_cons,not_or] at hj;refine qhy l hj.2 (lb:=qk1 i lb) ?_;simp only[PS.kill,qan,qbu];rw[if_neg hj.1,h];rfl
theorem PR.via (hp:PR Z ν S E H) {r:List (Nat × Nat)} {new:List (Nat × LB)} (hb:qll r S.blk new) (hn:(new.map λ p=>rho r p.1).Nodup):PR Z (λ i=>ν (rho r i)) ⟨[],new⟩ .nil H/\∀ c,Own (λ i=>ν (rho r i)) ⟨[],new⟩ c->Own ν S c:=by
 have hown:∀ b,Own (λ i=>ν (rho r i)) ⟨[],new⟩ b->Own ν S b:=λ b ⟨id,lb,ni,g1,g2,g3⟩=>⟨rho r id,_,ni,qbq hb _ _ g1,g2,g3⟩
 refine ⟨⟨λ t s e=>by simp[lk] at e,λ t s e=>(hp.blk _ _ (qbq hb t s e)).back,hp.zh,λ b ho=>hp.zo b (hown b ho),λ i j li lj ni nj g1 g2 g3 g4 g5=>?_⟩,hown⟩;exact qeo hn (by rw[g1];simp) (by rw[g2];simp) (hp.inj _ _ _ _ _ _ (qbq hb _ _ g1) (qbq hb _ _ g2) g3 g4 g5)
theorem qv2 (hp:PR Z ν S E H):∀ {tl:List (Nat × SV)},allIn S.env tl->∃ vals,VSL Z ν (tl.map (·.2)) vals/\∀ (j:Nat) (p:Nat × SV),tl[j]?=some p->∃ v,vals[j]?=some v/\E.get p.1=some v
 | [],_=>⟨[],rfl,λ j p h=>by simp at h⟩
 | (t,s)::tl,h=>by
  obtain ⟨v,hv,hs⟩:=hp.env t s h.1;obtain ⟨vals,h1,h2⟩:=qv2 hp h.2;refine ⟨v::vals,⟨v,vals,rfl,hs,h1⟩,λ j p hj=>?_⟩
  cases j with
  | zero=>simp at hj;subst hj;exact ⟨v,rfl,hv⟩
  | succ j=>obtain ⟨w,g1,g2⟩:=h2 j p (by simpa using hj);exact ⟨w,by simpa using g1,g2⟩
theorem qq9:∀ {ts:List Nat} {l:List SV} {t:Nat} {s:SV},lk (zipE ts l) t=some s->∃ j:Nat,ts[j]?=some t/\l[j]?=some s
 | [],_,_,_,h=>by simp[zipE,lk] at h
 | _::_,[],_,_,h=>by simp[zipE,lk] at h
 | a::ts,x::l,t,s,h=>by
  simp only[zipE,lk] at h;split at h
  next e=>cases h;exact ⟨0,by simp[e],rfl⟩
  ·obtain ⟨j,h1,h2⟩:=qq9 h;exact ⟨j+1,by simpa using h1,by simpa using h2⟩
theorem qse:∀ {ps:List Nat} {as:List Sh} {y:DL as} {l:List (Nat × SV)} {args:List Value} {t:Nat} {s:SV},ps.length=as.length->VArgs Z as y args->lk (parE ps as y l) t=some s->(∃ (j:Nat) (v:Value),ps[j]?=some t/\args[j]?=some v/\∀ ν,VS Z ν s v)\/(t ∉ ps/\lk l t=some s)
 | [],[],_,l,args,t,s,_,_,h=>.inr ⟨by simp,h⟩
 | p::ps,σ::as,y,l,args,t,s,hl,⟨v,w,e,hv,hw⟩,h=>by
  subst e;simp only[parE,lk] at h;split at h
  next e=>cases h;exact .inl ⟨0,v,by simp[e],rfl,hv⟩
  next hne=>
   rcases qse (by simpa using hl) hw h with ⟨j,u,h1,h2,h3⟩ | ⟨h1,h2⟩
   ·exact .inl ⟨j+1,u,by simpa using h1,by simpa using h2,h3⟩
   ·exact .inr ⟨by simp only[List.mem_cons,not_or];exact ⟨λ e=>hne e.symm,h1⟩,h2⟩
theorem qhp {n:Nat}:∀ {ps:List Tmp} {vs:List Value} {E:T Value},ps.Nodup->(∀ p∈ps,p<n/\p<500000)->vs.length=ps.length->∃ E1,qfi ps vs n E=some E1/\(∀ (j t:Nat) (v:Value),ps[j]?=some t->vs[j]?=some v->E1.get t=some v)/\∀ t,t ∉ ps->E1.get t=E.get t
 | [],[],E,_,_,_=>⟨E,rfl,λ j t v h=>by simp at h,λ _ _=>rfl⟩
 | p::ps,v::vs,E,hn,hb,hl=>by
  simp only[List.nodup_cons] at hn;have hp:=hb p (by simp);obtain ⟨E1,h1,h2,h3⟩:=qhp (E:=T.set 20 E p v) hn.2 (λ q hq=>hb q (by simp[hq])) (by simpa using hl);refine ⟨E1,?_,λ j t u hj hu=>?_,λ t ht=>?_⟩
  ·simp only[qfi,putE];rw[if_pos hp];exact h1
  ·cases j with
   | zero=>
    simp at hj hu;subst hj;subst hu;rw[h3 p hn.1,T.get_set_same 20 _ _ _ (Nat.lt_trans (Nat.succ_lt_succ hp.2) (by decide))]
   | succ j=>exact h2 j t u (by simpa using hj) (by simpa using hu)
  ·simp only[List.mem_cons,not_or] at ht;rw[h3 t ht.2,T.get_set_other _ _ _ _ _ ht.1]
end
structure LoopAt (P:Program) (G:GV) (f:FuncId) (n:Nat) (Y:Yp) (ts ps:List Nat) (Ko:List AK) (as:List Sh) (assign body:Code) (QL:AExit->Nat × Bool->DI Ko->Prop) (Jo:Jt) (Yd:Nat->Prop) (rec0:Loop) (E:T Value) (l:Nat) (x0:DI Ko) (ν0:Nu) (Z0:Nat->Option ABlk) (N N2:Nat) (Ao Bo:Nat->Prop) (ys:List (DL as))
  (i:Nat) (s:Bool) (A B:Nat->Prop) (H:AHeap) (g:Nat × Bool) (x:DI Ko) (Z:Nat->Option ABlk) (ν:Nu) (Ai Bi:Nat->Prop):Prop where
 pr:PR Z ν ⟨[],bkKL 0 Ko x⟩ .nil H
 gz:GZ Z G
 jo:Jo g.1 g.2 Ai Bi H
 dis:∀ c,Ai c->¬ Own ν ⟨[],bkKL 0 Ko x⟩ c
 bz:∀ c,Bi c->Z c=none
 go:s=false->H.t.get l=some (.loop { rec0 with state:=.ready,pending:=none } E n)/\qp0 P G f n Y ts ps Ko as assign body QL (ys.drop i) g x
 stop:s=true->∃ e,e≠.normal/\H.t.get l=some (.loop { rec0 with state:=.done,pending:=qal e } E n)/\QL e g x
 sv:svKL 0 Ko x=svKL 0 Ko x0
 st:∀ t,qai t (svKL 0 Ko x0)=true->ν t=ν0 t
 ok:okIn [] Ko x=true
 z:ZLe Z0 Z
 yz:∀ c,Z c≠none->Yd c
 own:∀ c,Own ν ⟨[],bkKL 0 Ko x⟩ c->Own ν0 ⟨[],bkKL 0 Ko x0⟩ c\/N<=c
 bb:∀ c,Bi c->Bo c\/N2<=c
 aa:∀ c,Ai c->Ao c\/N2<=c\/Z c≠none
 le:N2<=H.next
 a:∀ c,A c↔c=l\/Own ν ⟨[],bkKL 0 Ko x⟩ c\/Z c≠none\/Ai c
 b:∀ c,B c↔c=l\/Own ν ⟨[],bkKL 0 Ko x⟩ c\/Bi c
def JL (P:Program) (G:GV) (f:FuncId) (n:Nat) (Y:Yp) (ts ps:List Nat) (Ko:List AK) (as:List Sh) (assign body:Code) (QL:AExit->Nat × Bool->DI Ko->Prop) (Jo:Jt) (Yd:Nat->Prop) (rec0:Loop) (E:T Value) (l:Nat) (x0:DI Ko) (ν0:Nu) (Z0:Nat->Option ABlk) (N N2:Nat) (Ao Bo:Nat->Prop) (ys:List (DL as)):Jt:=
 λ i s A B H=>∃ g x Z ν Ai Bi,LoopAt P G f n Y ts ps Ko as assign body QL Jo Yd rec0 E l x0 ν0 Z0 N N2 Ao Bo ys i s A B H g x Z ν Ai Bi
section
variable {P:Program} {G:GV} {f:FuncId} {n:Nat} {Y:Yp} {ts ps:List Nat} {Ko:List AK} {as:List Sh} {assign body:Code} {QL:AExit->Nat × Bool->DI Ko->Prop} {Jo:Jt} {Yd Ydo:Nat->Prop} {rec0:Loop} {E:T Value} {l:Nat} {x0:DI Ko} {ν0:Nu} {Z0:Nat->Option ABlk} {N N2:Nat} {Ao Bo:Nat->Prop} {ys:List (DL as)}
 {i:Nat} {s:Bool} {A B:Nat->Prop} {H H':AHeap} {g:Nat × Bool} {x:DI Ko} {Z:Nat->Option ABlk} {ν:Nu} {Ai Bi:Nat->Prop} {base:Prot}
theorem LoopAt.re (h:LoopAt P G f n Y ts ps Ko as assign body QL Jo Yd rec0 E l x0 ν0 Z0 N N2 Ao Bo ys i s A B H g x Z ν Ai Bi):∃ st pe,H.t.get l=some (.loop { rec0 with state:=st,pending:=pe } E n):=by
 cases s with
 | false=>exact ⟨_,_,(h.go rfl).1⟩
 | true=>obtain ⟨e,_,h1,_⟩:=h.stop rfl;exact ⟨_,_,h1⟩
theorem LoopAt.zl (h:LoopAt P G f n Y ts ps Ko as assign body QL Jo Yd rec0 E l x0 ν0 Z0 N N2 Ao Bo ys i s A B H g x Z ν Ai Bi):Z l=none:=by
 obtain ⟨st,pe,hr⟩:=h.re
 cases hz:Z l with
 | none=>rfl
 | some y=>obtain ⟨g1,g2⟩:=h.pr.zh _ _ hz;rw[hr] at g1;cases g1;exact g2.elim
theorem LoopAt.ol (h:LoopAt P G f n Y ts ps Ko as assign body QL Jo Yd rec0 E l x0 ν0 Z0 N N2 Ao Bo ys i s A B H g x Z ν Ai Bi) {c:Nat} (ho:Own ν ⟨[],bkKL 0 Ko x⟩ c):c≠l:=by
 rintro rfl;obtain ⟨st,pe,hr⟩:=h.re;obtain ⟨y,g1,g2⟩:=qc0 h.pr ho;rw[hr] at g1;cases g1;rcases g2 with g2 | ⟨es,g2⟩ | ⟨_,_,g2⟩
 ·exact g2
 ·cases g2
 ·cases g2
theorem LoopAt.stab (hdo:HdOK P base G Y Ydo Jo) (h:LoopAt P G f n Y ts ps Ko as assign body QL Jo Yd rec0 E l x0 ν0 Z0 N N2 Ao Bo ys i s A B H g x Z ν Ai Bi) (hk:∀ c y,A c->H.t.get c=some y->H'.t.get c=some y) (hn:H.next<=H'.next) :
  LoopAt P G f n Y ts ps Ko as assign body QL Jo Yd rec0 E l x0 ν0 Z0 N N2 Ao Bo ys i s A B H' g x Z ν Ai Bi where
 pr:=h.pr.growI (B:=λ c=>¬ A c) (λ c y hy hc=>hk c y (Classical.not_not.1 hc) hy) (λ c ho hc=>hc ((h.a c).2 (.inr (.inl ho)))) (λ c hc=>by
  cases hz:Z c with
  | none=>rfl
  | some y=>exact absurd ((h.a c).2 (.inr (.inr (.inl (by rw[hz];simp))))) hc)
 gz:=h.gz
 jo:=hdo.stab _ _ _ _ _ _ h.jo (λ c y hA hy=>hk c y ((h.a c).2 (.inr (.inr (.inr hA)))) hy) hn
 dis:=h.dis
 bz:=h.bz
 go hs:=⟨hk _ _ ((h.a l).2 (.inl rfl)) (h.go hs).1,(h.go hs).2⟩
 stop hs:=by
  obtain ⟨e,h1,h2,h3⟩:=h.stop hs;exact ⟨e,h1,hk _ _ ((h.a l).2 (.inl rfl)) h2,h3⟩
 sv:=h.sv
 st:=h.st
 ok:=h.ok
 z:=h.z
 yz:=h.yz
 own:=h.own
 bb:=h.bb
 aa:=h.aa
 le:=Nat.le_trans h.le hn
 a:=h.a
 b:=h.b
def ZU (Z1 Z2:Nat->Option ABlk):Nat->Option ABlk:=λ c=>match Z1 c with
 | some y=>some y
 | none=>Z2 c
theorem ZU.le1 (Z1 Z2:Nat->Option ABlk):ZLe Z1 (ZU Z1 Z2):=λ c y h=>by simp only[ZU,h]
theorem ZU.le2 {Z1 Z2:Nat->Option ABlk} (h1:∀ c y,Z1 c=some y->H.t.get c=some y/\isCells y) (h2:∀ c y,Z2 c=some y->H.t.get c=some y/\isCells y):ZLe Z2 (ZU Z1 Z2):=λ c y h=>by
 simp only[ZU]
 cases hz:Z1 c with
 | none=>exact h
 | some y'=>simp only;rw[<- (h1 _ _ hz).1];exact (h2 _ _ h).1
theorem ZU.or {Z1 Z2:Nat->Option ABlk} {c:Nat} (h:ZU Z1 Z2 c≠none):Z1 c≠none\/Z2 c≠none:=by
 simp only[ZU] at h
 cases hz:Z1 c with
 | none=>rw[hz] at h;exact .inr h
 | some y=>exact .inl (by simp)
theorem qiq {r:List (Nat × Nat)} {Ko:List AK} {x:DI Ko} (h:okIn r Ko x=true):((bkKL 0 Ko x).map λ p=>rho r p.1).Nodup/\∀ t,qai t (svKL 0 Ko x)=true->rho r t=t/\(∃ lb,lk (bkKL 0 Ko x) t=some lb)/\BIG<=t:=by
 simp only[okIn,Bool.and_eq_true,decide_eq_true_eq,List.all_eq_true] at h;refine ⟨h.1,λ t ht=>?_⟩;obtain ⟨⟨h1,h2⟩,h3⟩:=h.2 t (qci _ ht);exact ⟨h1,Option.isSome_iff_exists.1 h2,h3⟩
theorem JL.ok (hdo:HdOK P base G Y Ydo Jo) (hyd:∀ c,Yd c->Ydo c) (hN:∀ c,N<=c->Yd c) (_:N<=N2) (hAoN:∀ c,Ao c->c<N) (h0own:∀ c,Own ν0 ⟨[],bkKL 0 Ko x0⟩ c->Yd c)
  (hlN:N<=l/\l<N2) (hr:rec0.fn=f/\rec0.params.toList=ps/\rec0.assign=assign/\rec0.body=body) (hps:ps.Nodup/\(∀ p∈ps,p<n/\p<500000)/\ps.length=as.length)
  (_:ts.length=(svKL 0 Ko x0).length) {vals:List Value} (hvals:VSL Z0 ν0 (svKL 0 Ko x0) vals) (htv:∀ (j t:Nat),ts[j]?=some t->∃ v,vals[j]?=some v/\E.get t=some v) :
  HdOK P base G ⟨l,as,ys⟩ Yd (JL P G f n Y ts ps Ko as assign body QL Jo Yd rec0 E l x0 ν0 Z0 N N2 Ao Bo ys) where
 stab i s A B H H' h hk hn:=by
  obtain ⟨g,x,Z,ν,Ai,Bi,h⟩:=h;exact ⟨g,x,Z,ν,Ai,Bi,h.stab hdo hk hn⟩
 dom i s A B H h:=by
  obtain ⟨g,x,Z,ν,Ai,Bi,h⟩:=h;refine ⟨λ c hA=>?_,λ c hB=>?_⟩
  ·rcases (h.a c).1 hA with rfl | ho | hz | hA
   ·obtain ⟨st,pe,hr⟩:=h.re;exact ⟨_,hr⟩
   ·obtain ⟨y,g1,_⟩:=qc0 h.pr ho;exact ⟨y,g1⟩
   ·obtain ⟨y,hy⟩:=Option.ne_none_iff_exists'.1 hz;exact ⟨y,(h.pr.zh c y hy).1⟩
   ·exact (hdo.dom _ _ _ _ _ h.jo).1 c hA
  ·rw[h.a c];rcases (h.b c).1 hB with rfl | ho | hB
   ·exact .inl rfl
   ·exact .inr (.inl ho)
   ·exact .inr (.inr (.inr ((hdo.dom _ _ _ _ _ h.jo).2 c hB)))
 yld i y A B H M w Zc args args' c cs hy h hrel hva hzh hgz hbz hzy hargs:=by
  obtain ⟨g,x,Z,ν,Ai,Bi,h⟩:=h;obtain ⟨hget,hRL⟩:=h.go rfl;have hdrop:ys.drop i=y::ys.drop (i+1):=by
   obtain ⟨hl,he⟩:=List.getElem?_eq_some_iff.1 hy;rw[List.drop_eq_getElem_cons hl,he]
  rw[hdrop] at hRL;simp only[qp0] at hRL;have hll:l<H.next:=hrel.dom _ _ hget;obtain ⟨bl,hbl⟩:∃ bl,M[l]?=some bl:=⟨_,List.getElem?_eq_getElem (by rw[hrel.len];exact hll)⟩;obtain ⟨hbb,L',hcell,q1,q2,q3,q4,q5,q6,q7,bq,q8,q9⟩:=hrel.blk _ _ _ hbl hget;simp only at q1 q2 q3 q4 q5 q6 q8;obtain ⟨r1,r2,r3,r4⟩:=hr;have hal:=(VRA.iff.1 hargs).length;simp only[Array.length_toList] at hal;have hargl:args.toList.length=ps.length:=by rw[hva.length,hps.2.2]
  have hyr:=run_yield (P:=P) (args:=args') hcell (by rw[hal,q4,<- Array.length_toList,<- Array.length_toList,r2,hargl]);obtain ⟨E1,p1,p2,p3⟩:=qhp (E:=E) hps.1 hps.2.1 hargl
  let fb:Frame:={ (default:Frame) with fn:=f,kind:=.normal,roundOf:=some bl.real }
  have hpar:ER M n E1 ((L'.params.zip args').foldl (λ tmps (t,a)=>tmps.setIfInBounds t a) L'.tmps):=by
   have:=qfh (M:=M) ps args.toList args'.toList E E1 L'.tmps p1 (VRA.iff.1 hargs) q7;rw[q4,<- Array.foldl_toList,Array.toList_zip,r2];exact this
  let a0:Act:={ tmps:=(L'.params.zip args').foldl (λ tmps (t,a)=>tmps.setIfInBounds t a) L'.tmps,defers:=[] }
  have hround:Frame.round bl.real L'.fn a0.tmps L'.assign L'.body .normal=Fr fb a0 [.code assign,.beginRound,.code body]:=by
   simp[Frame.round,Fr,fb,a0,q3,q5,q6,r1,r3,r4]
  have hfr:FrOK M ⟨f,some l,n⟩ fb:=⟨rfl,rfl,bl,hbl,rfl⟩;have hz1:=ZU.le1 Z Zc;have hz2:ZLe Zc (ZU Z Zc):=ZU.le2 h.pr.zh hzh;have hzuh:∀ c y,ZU Z Zc c=some y->H.t.get c=some y/\isCells y:=by
   intro c y e;simp only[ZU] at e
   cases hz:Z c with
   | none=>rw[hz] at e;exact hzh c y e
   | some y'=>rw[hz] at e;cases e;exact h.pr.zh c y hz
  have hownB:∀ c,Own ν ⟨[],bkKL 0 Ko x⟩ c->B c:=λ c ho=>(h.b c).2 (.inr (.inl ho))
  have hp:PR (ZU Z Zc) ν (qle ts ps Ko as x y) E1 H:=by
   have hp1:=h.pr.zmono hz1 hzuh λ c ho=>by
    have e1:=h.pr.zo c ho;simp only[ZU,e1];exact hbz c (hownB c ho)
   refine ⟨λ t s e=>?_,hp1.blk,hp1.zh,hp1.zo,hp1.inj⟩;rcases qse hps.2.2 hva e with ⟨j,v,g1,g2,g3⟩ | ⟨g1,g2⟩
   ·exact ⟨v,p2 j t v g1 g2,(g3 ν).mono hz2⟩
   ·obtain ⟨j,k1,k2⟩:=qq9 g2;obtain ⟨v,k3,k4⟩:=htv j t k1;refine ⟨v,by rw[p3 t g1];exact k4,?_⟩;have hsv:∀ {l:List SV} {vs:List Value} {j:Nat} {s:SV} {v:Value},VSL Z0 ν0 l vs->l[j]?=some s->vs[j]?=some v->VS Z0 ν0 s v:=by
     intro l
     induction l with
     | nil=>intro vs j s v _ e;simp at e
     | cons s0 l ih=>
      intro vs j s v hl e1 e2;obtain ⟨v0,w0,rfl,m1,m2⟩:=hl
      cases j with
      | zero=>simp at e1 e2;subst e1;subst e2;exact m1
      | succ j=>exact ih m2 (by simpa using e1) (by simpa using e2)
    rw[h.sv] at k2;have k5:=hsv hvals k2 k3;have hm:∀ i,ment i s=true->ν i=ν0 i:=λ i hi=>h.st i (qc1.2 ⟨s,List.mem_of_getElem? k2,hi⟩)
    exact (k5.nu hm).mono (h.z.trans hz1)
  have hnAl:¬ Ai l:=by
   intro hA;rcases h.aa l hA with k | k | k
   ·have:=hAoN l k;omega
   ·omega
   ·exact k h.zl
  have st:OnW P G f n .ready Y base Ydo Jo ⟨l,{ rec0 with pending:=none },E,n⟩ fb g (qle ts ps Ko as x y) M a0 w (ZU Z Zc) ν E1 H Ai Bi []:=by
   refine ⟨hdo,h.jo,h.dis,λ c hB=>?_,λ c hc=>?_,λ c hc=>hyd c (hN c (by have:=h.le;omega)),λ c ho=>?_,hfr,λ _=>⟨hnAl,.ready,hget,λ _=>rfl⟩,hpar,⟨rfl,by simp,by simp⟩,by simp,hrel,hp,h.gz.mono hz1⟩
   ·have e1:=h.bz c hB;simp only[ZU,e1];exact hbz c ((h.b c).2 (.inr (.inr hB)))
   ·rcases ZU.or hc with k | k
    ·exact hyd c (h.yz c k)
    ·exact hyd c (hzy c k)
   ·rcases h.own c ho with k | k
    ·exact hyd c (h0own c k)
    ·exact hyd c (hN c k)
  obtain ⟨e,g',S',M1,a1,w1,Z1,ν1,E1',H1,A1,B1,ds1,k0,x1,x2,x3,x4,x5,x6,x6r,x7,x8⟩:=hRL base Ydo Jo ⟨l,{ rec0 with pending:=none },E,n⟩ fb (c::cs) M a0 w (ZU Z Zc) ν E1 H Ai Bi [] st;obtain ⟨r,x',⟨b1,b2,b3⟩,hK⟩:=x1;obtain ⟨hnA1,sl,hget1,_⟩:=x2.lp (by simp[Rd.out]);simp only at hnA1 hget1;have hb1:=x3 _ _ hbl;obtain ⟨hbb1,L3',hcell3,t1,t2,t3,t4,t5,t6,t7,bt,t8,t9⟩:=x2.rel.blk _ _ _ hb1 hget1;have hlt3:=x2.rel.lt _ _ _ hb1 hget1;have her:=run_endRound (P:=P) (qal e) hcell3;have ht2:=qba w1 bl.real (.loop { L3' with state:=if (qal e).isNone then .ready else .done,pending:=qal e });have hrel3:=x2.rel.put (y:=.loop { rec0 with state:=if (qal e).isNone then .ready else .done,pending:=qal e } E n) hb1 hget1 rfl rfl (Nat.zero_le _) ht2.size ht2.other
   ⟨hbb1,{ L3' with state:=if (qal e).isNone then .ready else .done,pending:=qal e },qb7 _ hlt3,rfl,rfl,t3,t4,t5,t6,t7,bt,t8,t9⟩
  obtain ⟨o1,o2⟩:=qiq b2;obtain ⟨pv1,pv2⟩:=x2.pr.via b1 o1;have hZ1l:Z1 l=none:=by
   cases hz:Z1 l with
   | none=>rfl
   | some y=>obtain ⟨g1,g2⟩:=x2.pr.zh _ _ hz;rw[hget1] at g1;cases g1;exact g2.elim
  have hol:∀ c,Own ν1 S' c->c≠l:=by
   rintro c ho rfl;obtain ⟨y,g1,g2⟩:=qc0 x2.pr ho;rw[hget1] at g1;cases g1;rcases g2 with g2 | ⟨es,g2⟩ | ⟨_,_,g2⟩
   ·exact g2
   ·cases g2
   ·cases g2
  have hput:∀ c,c≠l->(H1.put l (.loop { rec0 with state:=if (qal e).isNone then .ready else .done,pending:=qal e } E n)).t.get c=H1.t.get c:=λ c hc=>AHeap.get_put_other hc
  have hpr3:PR Z1 (λ i=>ν1 (rho r i)) ⟨[],bkKL 0 Ko x'⟩ .nil (H1.put l (.loop { rec0 with state:=if (qal e).isNone then .ready else .done,pending:=qal e } E n)):=
   pv1.growI (B:=λ c=>c=l) (λ c y hy hc=>by rw[hput c hc];exact hy) (λ c ho=>hol c (pv2 c ho)) (λ c hc=>by rw[hc];exact hZ1l)
  have hzz:∀ c,Z1 c≠none->Z c≠none\/Zc c≠none\/H.next<=c\/Own ν ⟨[],bkKL 0 Ko x⟩ c:=by
   intro c hc;rcases x5.zn c hc with k | k | k
   ·rcases ZU.or k with k | k
    ·exact .inl k
    ·exact .inr (.inl k)
   ·exact .inr (.inr (.inl k))
   ·exact .inr (.inr (.inr k))
  have hown1:∀ c,Own (λ i=>ν1 (rho r i)) ⟨[],bkKL 0 Ko x'⟩ c->Own ν ⟨[],bkKL 0 Ko x⟩ c\/H.next<=c:=λ c ho=>x5.own c (pv2 c ho)
  have hle1:H.next<=H1.next:=x5.le
  let A':Nat->Prop:=λ c=>c=l\/Own (λ i=>ν1 (rho r i)) ⟨[],bkKL 0 Ko x'⟩ c\/Z1 c≠none\/A1 c
  let B':Nat->Prop:=λ c=>c=l\/Own (λ i=>ν1 (rho r i)) ⟨[],bkKL 0 Ko x'⟩ c\/B1 c
  have hL:LoopAt P G f n Y ts ps Ko as assign body QL Jo Yd rec0 E l x0 ν0 Z0 N N2 Ao Bo ys (i+1) (qal e).isSome A' B' (H1.put l (.loop { rec0 with state:=if (qal e).isNone then .ready else .done,pending:=qal e } E n)) g' x' Z1 (λ i=>ν1 (rho r i)) A1 B1:=by
   refine ⟨hpr3,x2.gz,?_,λ c hA ho=>x2.dis c hA (pv2 c ho),x2.bz,λ hs=>?_,λ hs=>?_,b3.trans h.sv,λ t ht=>?_,?_,(h.z.trans hz1).trans x5.z,λ c hc=>?_,λ c ho=>?_,λ c hB=>?_,λ c hA=>?_,Nat.le_trans h.le hle1,λ c=>Iff.rfl,λ c=>Iff.rfl⟩
   ·exact hdo.stab _ _ _ _ _ _ x2.j (λ c y hA hy=>by rw[hput c (by rintro rfl;exact hnA1 hA)];exact hy) (Nat.le_refl _)
   ·cases e with
    | normal=>exact ⟨AHeap.get_put (Nat.zero_le _),hK⟩
    | exit id=>simp[qal] at hs
    | goto id=>simp[qal] at hs
    | ret=>simp[qal] at hs
   ·cases e with
    | normal=>simp[qal] at hs
    | exit id=>exact ⟨.exit id,by simp,AHeap.get_put (Nat.zero_le _),hK⟩
    | goto id=>exact ⟨.goto id,by simp,AHeap.get_put (Nat.zero_le _),hK⟩
    | ret=>exact ⟨.ret,by simp,AHeap.get_put (Nat.zero_le _),hK⟩
   ·have ht':qai t (svKL 0 Ko x')=true:=by rw[b3,h.sv];exact ht
    obtain ⟨m1,⟨lb,m2⟩,m3⟩:=o2 t ht'
    show ν1 (rho r t)=ν0 t
    rw[m1];have hlk:=qbq b1 _ _ m2;rw[m1] at hlk;rw[(x5.big t m3 (by rw[hlk];simp)).2];exact h.st t ht
   ·have hok:=h.ok;obtain ⟨m1,m2⟩:=qiq hok;simp only[okIn,Bool.and_eq_true,decide_eq_true_eq,List.all_eq_true];refine ⟨?_,λ t ht=>?_⟩
    ·have:((bkKL 0 Ko x').map λ p=>rho [] p.1)=(bkKL 0 Ko x').map (·.1):=by
      apply List.map_congr_left;intro p _;rfl
     rw[this];have hnd:=o1;rw[show ((bkKL 0 Ko x').map λ p=>rho r p.1)=((bkKL 0 Ko x').map (·.1)).map (rho r) by rw[List.map_map];rfl] at hnd;have nd:∀ {l:List Nat},(l.map (rho r)).Nodup->l.Nodup:=by
      intro l
      induction l with
      | nil=>intro _;simp
      | cons a l ih=>
       intro h;simp only[List.map_cons,List.nodup_cons] at h |-;exact ⟨λ hm=>h.1 (List.mem_map.2 ⟨a,hm,rfl⟩),ih h.2⟩
     exact nd hnd
    ·simp only[okIn,Bool.and_eq_true,decide_eq_true_eq,List.all_eq_true] at b2;obtain ⟨⟨k1,k2⟩,k3⟩:=b2.2 t ht;exact ⟨⟨rfl,k2⟩,k3⟩
   ·rcases hzz c hc with k | k | k | k
    ·exact h.yz c k
    ·exact hzy c k
    ·exact hN c (by have:=h.le;omega)
    ·rcases h.own c k with k | k
     ·exact h0own c k
     ·exact hN c k
   ·rcases hown1 c ho with k | k
    ·exact h.own c k
    ·exact .inr (by have:=h.le;omega)
   ·rcases x5.bb c hB with k | k
    ·exact h.bb c k
    ·exact .inr (by have:=h.le;omega)
   ·rcases x5.aa c hA with k | k | k
    ·rcases h.aa c k with k | k | k
     ·exact .inl k
     ·exact .inr (.inl k)
     ·refine .inr (.inr ?_);obtain ⟨yy,hyy⟩:=Option.ne_none_iff_exists'.1 k;rw[x5.z c yy (hz1 c yy hyy)];simp
    ·exact .inr (.inl (by have:=h.le;omega))
    ·exact .inr (.inr k)
  refine ⟨bl,hbl,M1,_,_,A',B',(qal e).isNone,.bool (qal e).isNone,L'.fn,a0.tmps,L'.assign,L'.body,hyr,x3,VR.self rfl,hrel3,x4.trans (ht2.below hbb1),?_,?_,hle1,λ c' yy hyy hB=>?_,λ c' hB=>?_,λ c' hA=>?_⟩
  ·rw[hround];have x7':Steps P (lone (Fr fb a0 [.code assign,.beginRound,.code body]) (c::cs) w) (lone (Fr fb a1 k0) (c::cs) w1):=x7
   cases e with
   | normal=>
    have x8':k0=[]:=x8;subst x8';exact x7'.trans (.one (qoj rfl rfl her))
   | exit id=>
    obtain ⟨k1,rfl,z2⟩:=x8;exact x7'.trans (.one (qm5 rfl rfl z2 her))
   | goto id=>
    obtain ⟨k1,rfl,z2⟩:=x8;exact x7'.trans (.one (qm4 rfl rfl z2 her))
   | ret=>
    obtain ⟨k1,rfl⟩:=x8;exact x7'.trans (.one (qoi rfl rfl her))
  ·have hs:(!(qal e).isNone)=(qal e).isSome:=by cases e <;> rfl
   rw[hs];exact ⟨g',x',Z1,_,A1,B1,hL⟩
  ·have hne:c'≠l:=λ hc=>hB ((h.b c').2 (.inl hc))
   rw[hput c' hne];exact x5.old c' yy hyy (hrel.dom _ _ hyy) (λ ho=>hB (hownB c' ho)) (λ hb=>hB ((h.b c').2 (.inr (.inr hb)))) λ hx=>hne hx.2
  ·rcases hB with hB | hB | hB
   ·exact .inl ((h.b c').2 (.inl hB))
   ·rcases hown1 c' hB with k | k
    ·exact .inl (hownB c' k)
    ·exact .inr k
   ·rcases x5.bb c' hB with k | k
    ·exact .inl ((h.b c').2 (.inr (.inr k)))
    ·exact .inr k
  ·have hz:Z1 c'≠none->A c'\/H.next<=c'\/Zc c'≠none:=by
    intro hc;rcases hzz c' hc with k | k | k | k
    ·exact .inl ((h.a c').2 (.inr (.inr (.inl k))))
    ·exact .inr (.inr k)
    ·exact .inr (.inl k)
    ·exact .inl ((h.a c').2 (.inr (.inl k)))
   rcases hA with hA | hA | hA | hA
   ·exact .inl ((h.a c').2 (.inl hA))
   ·rcases hown1 c' hA with k | k
    ·exact .inl ((h.a c').2 (.inr (.inl k)))
    ·exact .inr (.inl k)
   ·exact hz hA
   ·rcases x5.aa c' hA with k | k | k
    ·exact .inl ((h.a c').2 (.inr (.inr (.inr k))))
    ·exact .inr (.inl k)
    ·exact hz k
end
section
variable {P:Program} {G:GV} {f:FuncId} {n:Nat} {rd:Rd} {Y:Yp} {K:AExit->Nat × Bool->PS->Prop} {g:Nat × Bool} {S:PS}
theorem qqk {a b:List (Option Nat)} (h:((a++b).filterMap id).Nodup):(a.filterMap id).Nodup/\(b.filterMap id).Nodup/\∀ o,o∈a.filterMap id->o ∉ b.filterMap id:=by
 rw[List.filterMap_append,List.nodup_append] at h;exact ⟨h.1,h.2.1,λ o h1 h2=>h.2.2 o h1 o h2 rfl⟩
theorem q4k {α:Type}:∀ {l:List (Nat × α)} {i:Nat} {b:α},lk l i=some b->(i,b)∈l
 | [],_,_,h=>by simp[lk] at h
 | (j,c)::l,i,b,h=>by
  simp only[lk] at h;split at h
  next q=>cases h;subst q;simp
  ·exact List.mem_cons_of_mem _ (q4k h)
theorem GoodE.rangeF {fo:Operand} {ps:Array Tmp} {assign body:Code} {k:List Item} {gf:FuncId} {fc:List SV} {ct:CtrY} {Ko:List AK} {xi:DI ct.cap} {x0:DI Ko} {cs1 cs2:List Prop} {ns1 ns2:List (Option Nat)} {tl:List (Nat × SV)} {bkF:DI Ko->List (Nat × LB)} {rF:List (Nat × Nat)} {d m:Nat}
  (hrd:rd≠.ready) (hen:∀ args w,(callFunc gf args).run P w=.ok (.enter gf args) w) (hH:HeldY P G gf ct)
  (hfo:pv G S.env fo=some (.fn gf [] fc)) (hoc:fc.all qbt=true) (h1:rdKL S.blk ct.cap fc=some (cs1,(ns1,xi))) (hc1:∀ c∈cs1,c) (hpre:ct.pre xi)
  (htl:allIn S.env tl) (h2:rdKL S.blk Ko (tl.map (·.2))=some (cs2,(ns2,x0))) (hc2:∀ c∈cs2,c) (hnd:((ns1++ns2).filterMap id).Nodup)
  (hps:ps.toList.Nodup/\(∀ p∈ps.toList,p<n/\p<500000)/\ps.toList.length=ct.ysh.length) (hT:okIn [] Ko x0=true)
  (hF:∀ x:DI Ko,svKL 0 Ko x=svKL 0 Ko x0->qll rF (bkKL 0 Ko x) (bkF x)/\((bkF x).map λ p=>rho rF p.1).Nodup/\(∀ p∈bkF x,BIG<=p.1->rho rF p.1=p.1/\qai p.1 (svKL 0 Ko x0)=true)/\okI d m ns2 [] (bkF x)=true) (hd:d<500000)
  (hL:qp0 P G f n Y (tl.map (·.1)) ps.toList Ko ct.ysh assign body (λ e g x=>GoodE P G f n rd Y K (qk3 e++k) g (qby (killA (ns1.filterMap id) S) d ns2 (bkF x))) (ct.ys xi) g x0) :
  GoodE P G f n rd Y K (.code (.rangeFunc fo ps assign body)::k) g S:=by
 intro base Yd J lr b cs M a w Z ν E H A B ds st;obtain ⟨hnd1,hnd2,hnd3⟩:=qqk hnd;obtain ⟨vf,hvf,hfs⟩:=qbs st.pr st.gz _ _ hfo;obtain ⟨va,vc,rfl,hva,hvc⟩:=hfs.fn;simp only[CRO] at hva;subst hva;have ha:=qcc st.er st.rel.glob fo _ hvf;simp only[VR] at ha;obtain ⟨fn',x',y',hfn',hx,hy,hv⟩:=ha;simp only[FnR] at hfn';subst hfn';obtain ⟨i1,i2,i3,i4⟩:=qh4 st.pr h1 hc1 (hvc.vsl hoc) hnd1;obtain ⟨vals,hvals,hval⟩:=qv2 st.pr htl;obtain ⟨r1,r2,r3,r4⟩:=qh4 st.pr h2 hc2 hvals hnd2;have hoI:∀ c,Own (nuI ν ns1) ⟨[],bkKL 0 ct.cap xi⟩ c->Own ν S c:=λ c hc=>let ⟨_,o,lb,ni,_,k2,k3,k4⟩:=i3 c hc;⟨o,lb,ni,k3,k2,k4⟩
 have hoR:∀ c,Own (nuI ν ns2) ⟨[],bkKL 0 Ko x0⟩ c->Own ν S c:=λ c hc=>let ⟨_,o,lb,ni,_,k2,k3,k4⟩:=r3 c hc;⟨o,lb,ni,k3,k2,k4⟩
 have hdj:∀ c,Own (nuI ν ns1) ⟨[],bkKL 0 ct.cap xi⟩ c->¬ Own (nuI ν ns2) ⟨[],bkKL 0 Ko x0⟩ c:=by
  intro c hc hc';obtain ⟨j1,o1,l1,n1,k1,k2,k3,k4⟩:=i3 c hc;obtain ⟨j2,o2,l2,n2,m1,m2,m3,m4⟩:=r3 c hc';have:=st.pr.inj o1 o2 l1 l2 n1 n2 k3 m3 k2 m2 (k4.trans m4.symm);subst this;exact hnd3 _ (qkw k1) (qkw m1)
 have hltS:∀ c,Own ν S c->c<H.next:=λ c hc=>let ⟨y,g1,_⟩:=qc0 st.pr hc;st.rel.dom _ _ g1
 -- the loop's record
 obtain ⟨Hm,Mm,wm,mark,ds0,d0,bd,e1,e2,e3,e4,e5,e5',e6,e7,e7',e8,e9⟩:∃ (Hm:AHeap) (Mm:Map) (wm:World) (mark:List Deferred) (ds0:List Nat) (d0:Nat) (bd:BI),Ext M Mm/\Rel base Mm Hm wm/\Below base w wm/\H.next<=Hm.next/\(∀ c y,H.t.get c=some y->Hm.t.get c=some y)/\(∀ c,A c->c ∉ ds0)/\Mk Mm Hm ds0 (mark++a.defers)/\(∀ c∈ds0,c∈ds\/H.next<=c)/\(rd≠.fn->ds0=ds)/\Mm[d0]?=some bd /\
   Go.step P (lone (Fr b a (.code (.rangeFunc fo ps assign body)::k)) cs w)=.next (lone (Frame.enter P gf (x'++#[.func (.yield wm.heap.size) #[] #[]]++y') .normal) (Fr b { a with defers:=mark++a.defers } (.inRangeFunc wm.heap.size::k)::cs)
    { wm with heap:=wm.heap.push (.loop { state:=.ready,pending:=none,fn:=b.fn,tmps:=a.tmps,params:=ps,assign,body,defers:=bd.real }) }):=by
  cases rd with
  | ready=>exact absurd rfl hrd
  | fn=>
   have hb0:b.roundOf=none:=st.fr.2.2;have hrel1:=st.rel.add (b:={ real:=w.heap.size }) (x:=.deferred true) (o:=.deferred (some [])) rfl (Nat.zero_le _) ⟨st.rel.fresh,qbe w _⟩;have hext1:=Ext.snoc M ({ real:=w.heap.size }:BI);have hdm:(M++[({ real:=w.heap.size }:BI)])[H.next]?=some { real:=w.heap.size }:=by rw[<- st.rel.len];exact qda M _
   have hen1:=qhl (P:=P) (w:=w) b.fn a.tmps ps assign body;rw[<- hb0] at hen1;have hst:=qi0 (cs:=cs) (k:=k) hen1 hv hen;have hsz:({ w with heap:=w.heap.push (.deferred (some [])) }:World).heap.size=w.heap.size+1:=by simp
   refine ⟨H.add (.deferred true),_,{ w with heap:=w.heap.push (.deferred (some [])) },[{ target:=.collected w.heap.size,args:=#[] }],H.next::ds,H.next,_,hext1,hrel1,qbv st.rel.base_le _,Nat.le_succ _,λ c y hcy=>?_,λ c hA hm=>?_,⟨⟨_,_,hdm,rfl,st.mark.1.mono hext1⟩,λ c hc=>?_,?_⟩,λ c hc=>?_,λ h=>absurd rfl h,hdm,by rw[hsz];exact hst⟩
   ·rw[AHeap.get_add_other (by have:=st.rel.dom _ _ hcy;omega)];exact hcy
   ·rcases List.mem_cons.1 hm with rfl | hm
    ·have:=st.alt hA;omega
    ·exact st.mb c hm hA
   ·rcases List.mem_cons.1 hc with rfl | hc
    ·exact AHeap.get_add (Nat.zero_le _)
    ·have:=st.mark.2.1 c hc;rw[AHeap.get_add_other (by have:=st.rel.dom _ _ this;omega)];exact this
   ·simp only[List.nodup_cons];exact ⟨λ hm=>by have:=st.rel.dom _ _ (st.mark.2.1 _ hm);omega,st.mark.2.2⟩
   ·rcases List.mem_cons.1 hc with rfl | hc
    ·exact .inr (Nat.le_refl _)
    ·exact .inl hc
  | busy=>
   obtain ⟨hAl,sl,hget,_⟩:=st.lp (by simp);obtain ⟨bl,hbl,hb0⟩:=st.fr.2.2;obtain ⟨_,L',hcell,_,_,_,_,_,_,_,bd,hbd,hde⟩:=st.rel.blk _ _ _ hbl hget;have hen1:=qhk (P:=P) hcell b.fn a.tmps ps assign body;rw[<- hb0] at hen1;have hst:=qi0 (cs:=cs) (k:=k) hen1 hv hen;rw[hde] at hst;exact ⟨H,M,w,[],ds,_,bd,Ext.refl M,st.rel,Below.refl _ _,Nat.le_refl _,λ _ _ h=>h,λ c hA hm=>st.mb c hm hA,st.mark,λ c hc=>.inl hc,λ _=>rfl,hbd,hst⟩
 let rec0:Loop:={ state:=.ready,pending:=none,fn:=f,tmps:=#[],params:=ps,assign,body,defers:=d0 }
 have hl:H.next<=Hm.next:=e4;have hrel2:=e2.add (b:={ real:=wm.heap.size }) (x:=.loop rec0 E n)
  (o:=.loop { state:=.ready,pending:=none,fn:=b.fn,tmps:=a.tmps,params:=ps,assign,body,defers:=bd.real }) rfl (Nat.zero_le _)
  ⟨e2.fresh,_,qbe wm _,rfl,rfl,st.fr.1,rfl,rfl,rfl,(st.er.mono e1).mono (Ext.snoc Mm _),bd,Ext.snoc Mm _ _ _ e8,rfl⟩
 have hml:(Mm++[({ real:=wm.heap.size }:BI)])[Hm.next]?=some { real:=wm.heap.size }:=by rw[<- e2.len];exact qda Mm _
 have hext2:Ext M (Mm++[({ real:=wm.heap.size }:BI)]):=e1.trans (Ext.snoc Mm _)
 let H2:AHeap:=Hm.add (.loop rec0 E n)
 have hH2l:H2.t.get Hm.next=some (.loop rec0 E n):=AHeap.get_add (Nat.zero_le _);have hH2:∀ c y,Hm.t.get c=some y->H2.t.get c=some y:=λ c y hcy=>by
  rw[show H2.t.get c=Hm.t.get c from AHeap.get_add_other (by have:=e2.dom _ _ hcy;omega)];exact hcy
 have hH20:∀ c y,H.t.get c=some y->H2.t.get c=some y:=λ c y hcy=>hH2 c y (e5 c y hcy)
 have hn2:H2.next=Hm.next+1:=rfl;have grow:∀ {ν':Nu} {bk:List (Nat × LB)},PR Z ν' ⟨[],bk⟩ .nil H->PR Z ν' ⟨[],bk⟩ .nil H2:=λ hp=>hp.growI (B:=λ _=>False) (λ c y hcy _=>hH20 c y hcy) (λ _ _ h=>h) (λ _ h=>h.elim)
 let Yd':Nat->Prop:=λ c=>Z c≠none\/H.next<=c\/Own (nuI ν ns1) ⟨[],bkKL 0 ct.cap xi⟩ c\/Own (nuI ν ns2) ⟨[],bkKL 0 Ko x0⟩ c
 have hyd:∀ c,Yd' c->Yd c:=by
  rintro c (h | h | h | h)
  ·exact st.yz c h
  ·exact st.yn c h
  ·exact st.yo c (hoI c h)
  ·exact st.yo c (hoR c h)
 let QL:AExit->Nat × Bool->DI Ko->Prop:=λ e g x=>GoodE P G f n rd Y K (qk3 e++k) g (qby (killA (ns1.filterMap id) S) d ns2 (bkF x))
 have htv:∀ (j t:Nat),(tl.map (·.1))[j]?=some t->∃ v,vals[j]?=some v/\E.get t=some v:=by
  intro j t hj;rw[List.getElem?_map,Option.map_eq_some_iff] at hj;obtain ⟨p,hp,rfl⟩:=hj;exact hval j p hp
 have hd':HdOK P base G ⟨Hm.next,ct.ysh,ct.ys xi⟩ Yd' (JL P G f n Y (tl.map (·.1)) ps.toList Ko ct.ysh assign body QL J Yd' rec0 E Hm.next x0 (nuI ν ns2) Z H.next H2.next A B (ct.ys xi)):=
  JL.ok st.hd hyd (λ c h=>.inr (.inl h)) (by omega) (λ c hA=>st.alt hA) (λ c h=>.inr (.inr (.inr h))) ⟨hl,by omega⟩ ⟨rfl,rfl,rfl,rfl⟩ hps (by
   have q1:=VSL.vra r1;have q2:=VSL.vra hvals;simp only[List.length_map] at q2 |-
   omega) r1 htv
 let A0:Nat->Prop:=λ c=>c=Hm.next\/Own (nuI ν ns2) ⟨[],bkKL 0 Ko x0⟩ c\/Z c≠none\/A c
 let B0:Nat->Prop:=λ c=>c=Hm.next\/Own (nuI ν ns2) ⟨[],bkKL 0 Ko x0⟩ c\/B c
 have hBA:∀ c,B c->A c:=(st.hd.dom _ _ _ _ _ st.j).2;have j0:JL P G f n Y (tl.map (·.1)) ps.toList Ko ct.ysh assign body QL J Yd' rec0 E Hm.next x0 (nuI ν ns2) Z H.next H2.next A B (ct.ys xi) 0 false A0 B0 H2:=
  ⟨g,x0,Z,nuI ν ns2,A,B,⟨grow r2,st.gz,st.hd.stab _ _ _ _ _ _ st.j (λ c y _ hcy=>hH20 c y hcy) (by omega),λ c hA ho=>st.dis c hA (hoR c ho),st.bz,λ _=>⟨hH2l,hL⟩,λ h=>(by cases h),rfl,λ _ _=>rfl,hT,ZLe.refl _,λ c h=>.inl h,λ c h=>.inl h,λ c h=>.inl h,λ c h=>.inl h,Nat.le_refl _,λ c=>Iff.rfl,λ c=>Iff.rfl⟩⟩
 have hzlt:∀ c,Z c≠none->c<H.next:=λ c hc=>let ⟨y,hy⟩:=Option.ne_none_iff_exists'.1 hc;st.rel.dom _ _ (st.pr.zh c y hy).1
 have hargs:VRA (Mm++[({ real:=wm.heap.size }:BI)]) (.func (.yield Hm.next) #[] #[]::vc).toArray (x'++#[.func (.yield wm.heap.size) #[] #[]]++y'):=by
  have hx1:=VRA.mono hext2 _ _ hx;have hy1:=VRA.mono hext2 _ _ hy;rw[VRA.iff] at hx1 hy1 |-;simp only[Array.toList_append];have hxn:x'.toList=[]:=by
   have:=hx1.length;simp only[List.length_nil] at this;exact List.eq_nil_of_length_eq_zero this
  rw[hxn,List.nil_append];refine VRL.cons ?_ (by simpa using hy1);simp only[VR];exact ⟨_,#[],#[],⟨_,hml,rfl⟩,VRA.iff.2 .nil,VRA.iff.2 .nil,rfl⟩
 obtain ⟨i,s,M',H',w',A',B',v',fr',q1,q2,q3,q4,q5,q6,q7,q8,q9,q10,q11⟩:=hH xi hpre base Yd' _ Hm.next _ vc _ _ (Fr b { a with defers:=mark++a.defers } (.inRangeFunc wm.heap.size::k)::cs) Z (nuI ν ns1) H2 A0 B0 hd' j0
  (λ c hA ho=>by
   have hlt:=hltS c (hoI c ho);rcases hA with rfl | hA | hA | hA
   ·omega
   ·exact hdj c ho hA
   ·exact hA (st.pr.zo c (hoI c ho))
   ·exact st.dis c hA (hoI c ho))
  (λ c hB=>by
   rcases hB with rfl | hB | hB
   ·cases hz:Z Hm.next with
    | none=>rfl
    | some y=>have:=hzlt Hm.next (by rw[hz];simp);omega
   ·exact st.pr.zo c (hoR c hB)
   ·exact st.bz c hB)
  (λ c h=>.inl h) (λ c h=>.inr (.inl (by omega))) (λ c h=>.inr (.inr (.inl h))) i1 (grow i2) st.gz hargs hrel2
 obtain ⟨gI,x,ZI,νI,AI,BI,hLA⟩:=q1
 -- how it was left
 obtain ⟨e,pe,hget,hpe,hbusy,hQ⟩:∃ (e:AExit) (sl:LoopState),H'.t.get Hm.next=some (.loop { rec0 with state:=sl,pending:=qal e } E n)/\True/\(sl == .busy)=false/\QL e gI x:=by
  cases s with
  | true=>
   obtain ⟨e,_,m2,m3⟩:=hLA.stop rfl;exact ⟨e,.done,m2,trivial,rfl,m3⟩
  | false=>
   obtain ⟨m1,m2⟩:=hLA.go rfl;have hi:i=(ct.ys xi).length:=q2.resolve_left (by simp);rw[hi,List.drop_length] at m2;exact ⟨.normal,.ready,m1,trivial,rfl,m2⟩
 have hml':=q3 _ _ hml;obtain ⟨hbb,L',hcell,t1,t2,t3,t4,t5,t6,t7,bt,t8,t9⟩:=q4.blk _ _ _ hml' hget;have hlt:=q4.lt _ _ _ hml' hget;have hend:=run_endLoop (P:=P) hcell (by rw[t1];exact hbusy);have ht:=qba w' wm.heap.size (.loop { L' with state:=.exhausted });have hrel4:=q4.put (y:=.loop { rec0 with state:=.exhausted,pending:=qal e } E n) hml' hget rfl rfl (Nat.zero_le _) ht.size ht.other ⟨hbb,{ L' with state:=.exhausted },qb7 _ hlt,rfl,t2,t3,t4,t5,t6,t7,bt,t8,t9⟩;have hsteps:Steps P (lone (Fr b a (.code (.rangeFunc fo ps assign body)::k)) cs w) (lone (Fr b { a with defers:=mark++a.defers } (qk3 e++k)) cs { w' with heap:=w'.heap.setIfInBounds wm.heap.size (.loop { L' with state:=.exhausted }) }):=by
  refine .head e9 (q9.trans (.head (m₁:=lone (Fr b { a with defers:=mark++a.defers } (.endRangeFunc wm.heap.size::k)) cs w') ?_ (.one ?_)))
  ·rw[step_leave_returned q11];rfl
  ·have:=qkf (b:=b) (a:={ a with defers:=mark++a.defers }) (k:=k) (cs:=cs) hend;have hj:(L'.pending.map Item.code).toList=qk3 e:=by rw[t2];exact q15 e
   rw[hj] at this;exact this
 let H3:AHeap:=H'.put Hm.next (.loop { rec0 with state:=.exhausted,pending:=qal e } E n)
 have hH3:∀ c,c≠Hm.next->H3.t.get c=H'.t.get c:=λ c hc=>AHeap.get_put_other hc
 have hn3:H2.next<=H3.next:=q6;have keep:∀ c y,Hm.t.get c=some y->¬ Own (nuI ν ns1) ⟨[],bkKL 0 ct.cap xi⟩ c->¬ Own (nuI ν ns2) ⟨[],bkKL 0 Ko x0⟩ c->¬ B c->H3.t.get c=some y:=by
  intro c y hcy g1 g2 g3;have hc:=e2.dom _ _ hcy;rw[hH3 c (by omega)];exact q7 c y (hH2 c y hcy) g1 (λ h=>h.elim (λ h=>by omega) λ h=>h.elim g2 g3)
 have hZl:ZI Hm.next=none:=hLA.zl;have hAl:¬ AI Hm.next:=by
  intro hA;rcases hLA.aa _ hA with k1 | k1 | k1
  ·have:=st.alt k1;omega
  ·omega
  ·exact k1 hZl
 obtain ⟨f1,f2,f3,f4⟩:=hF x hLA.sv;obtain ⟨pv1,pv2⟩:=hLA.pr.via f1 f2;have pv3:PR ZI (λ i=>νI (rho rF i)) ⟨[],bkF x⟩ .nil H3:=pv1.growI (B:=λ c=>c=Hm.next) (λ c y hcy hc=>by rw[hH3 c hc];exact hcy) (λ c ho=>hLA.ol (pv2 c ho)) (λ c hc=>by rw[hc];exact hZl);have hpS1:PR Z ν (killA (ns1.filterMap id) S) E H:=PR.killA _ st.pr λ _ _=>rfl
 have hS1o:∀ c,Own ν (killA (ns1.filterMap id) S) c->Own ν S c:=λ c hc=>qkp (λ _ _=>rfl) hc
 have hS1:∀ (j o:Nat),ns2[j]?=some (some o)->∃ lb,lk (killA (ns1.filterMap id) S).blk o=some lb:=by
  intro j o hj;obtain ⟨lb,hlb⟩:=r4 j o hj;exact qhy _ (λ hm=>hnd3 o hm (qkw hj)) hlb
 obtain ⟨νF,u1,u2,u3,_⟩:=qpp (D:=λ c=>Own (nuI ν ns1) ⟨[],bkKL 0 ct.cap xi⟩ c\/B c) (vs:=[]) (out:=[]) (m:=m) (blk:=bkF x) (bk:=bkKL 0 Ko x0) (ns:=ns2) (d:=d) (ν':=λ i=>νI (rho rF i)) (Z':=ZI) (H':=H3)
  (λ c hD ho=>by
   rcases hD with hD | hD
   ·obtain ⟨j1,o1,l1,n1,k1,k2,k3,k4⟩:=i3 c hD;obtain ⟨id,lb,ni,m1,m2,m3⟩:=ho;obtain ⟨m4,m5⟩:=qhz _ (j:=id) (by rw[m1];simp);obtain ⟨lb',hlb'⟩:=Option.ne_none_iff_exists'.1 m4;have:=st.pr.inj o1 id l1 lb' n1 ni k3 hlb' k2 m2 (k4.trans m3.symm);subst this;exact m5 (qkw k1)
   ·exact st.dis c (hBA c hD) (hS1o c ho))
  (λ c hD=>hD.elim (λ h=>st.pr.zo c (hoI c h)) (st.bz c)) hpS1 st.rel.dom hd hS1
  (λ c hc=>by
   obtain ⟨j,o,lb,ni,m1,m2,m3,m4⟩:=r3 c hc;obtain ⟨lb',hlb'⟩:=hS1 j o m1
   exact ⟨j,o,lb',ni,m1,m2,hlb',m4⟩)
  pv3 ⟨hLA.z,λ c hc=>by
    rcases hLA.yz c hc with h | h | h | h
    ·exact .inl h
    ·exact .inr (.inl h)
    ·exact .inr (.inr (.inr (.inl h)))
    ·exact .inr (.inr (.inl h)),
   by omega,λ c y g1 g2 g3 g4=>keep c y (e5 c y g1) (λ h=>g4 (.inl h)) g3 (λ h=>g4 (.inr h)),λ c hc=>hLA.own c (pv2 c hc),λ id hB hid=>by
    obtain ⟨lb,hlb⟩:=Option.ne_none_iff_exists'.1 hid;have hmem:(id,lb)∈bkF x:=q4k hlb;obtain ⟨g1,g2⟩:=f3 _ hmem hB;simp only at g1 g2;obtain ⟨_,⟨lb0,g4⟩,_⟩:=(qiq hT).2 id g2;refine ⟨by show lk (bkKL 0 Ko x0) id≠none;rw[g4];simp,?_⟩
    show νI (rho rF id)=nuI ν ns2 id
    rw[g1]
    exact hLA.st id g2⟩ rfl f4
 have hb3:∀ c,BI c->B c\/H.next<=c:=λ c hc=>(hLA.bb c hc).imp_right λ h=>by omega
 have ha3:∀ c,AI c->A c\/H.next<=c\/ZI c≠none:=λ c hc=>(hLA.aa c hc).imp_right (Or.imp_left λ h=>by omega)
 have kindS:∀ {c:Nat} {y:ABlk},Hm.t.get c=some y->¬ isCells y->(∀ es,y≠.map es)->(∀ s p,y≠.iter s p)->¬ Own ν S c:=by
  intro c y hcy h1 h2 h3 ho;obtain ⟨y',g1,g2⟩:=qc0 st.pr ho;have:=e5 _ _ g1;rw[hcy] at this;cases this;rcases g2 with g2 | ⟨es,rfl⟩ | ⟨s,p,rfl⟩
  ·exact h1 g2
  ·exact h2 es rfl
  ·exact h3 s p rfl
 have stF:OnW P G f n rd Y base Yd J lr b gI (qby (killA (ns1.filterMap id) S) d ns2 (bkF x)) M' { a with defers:=mark++a.defers } { w' with heap:=w'.heap.setIfInBounds wm.heap.size (.loop { L' with state:=.exhausted }) } ZI νF E H3 AI BI ds0:=by
  refine ⟨st.hd,st.hd.stab _ _ _ _ _ _ hLA.jo (λ c y hA hcy=>by rw[hH3 c (by rintro rfl;exact hAl hA)];exact hcy) (Nat.le_refl _),λ c hA ho=>?_,hLA.bz,λ c hc=>hyd c (hLA.yz c hc),λ c hc=>st.yn c (by omega),λ c ho=>?_,st.fr.mono (hext2.trans q3),λ hr=>?_,st.er.mono (hext2.trans q3),⟨(e6.1.mono (Ext.snoc Mm _)).mono q3,λ c hc=>?_,e6.2.2⟩,λ c hc hA=>?_,hrel4,u1,hLA.gz⟩
  ·rcases u3 c ho with h | h
   ·have hS:=hS1o c h;rcases ha3 c hA with k1 | k1 | k1
    ·exact st.dis c k1 hS
    ·have:=hltS c hS;omega
    ·exact k1 (u1.zo c ho)
   ·exact hLA.dis c hA (pv2 c h)
  ·rcases u2.own c ho with h | h
   ·exact st.yo c (hS1o c h)
   ·exact st.yn c h
  ·obtain ⟨g1,sl,g2,g3⟩:=st.lp hr;have hno:=kindS (e5 _ _ g2) (λ h=>h) (λ es h=>by cases h) (λ s p h=>by cases h);have hk:=keep _ _ (e5 _ _ g2) (λ h=>hno (hoI _ h)) (λ h=>hno (hoR _ h)) (λ h=>g1 (hBA _ h));refine ⟨λ hA=>?_,sl,hk,g3⟩;rcases ha3 _ hA with k1 | k1 | k1
   ·exact g1 k1
   ·have:=st.rel.dom _ _ g2;omega
   ·obtain ⟨yy,hyy⟩:=Option.ne_none_iff_exists'.1 k1;obtain ⟨m1,m2⟩:=u1.zh _ yy hyy;rw[hk] at m1;cases m1;exact m2.elim
  ·have g2:=e6.2.1 c hc;have hno:=kindS g2 (λ h=>h) (λ es h=>by cases h) (λ s p h=>by cases h);exact keep c _ g2 (λ h=>hno (hoI c h)) (λ h=>hno (hoR c h)) (λ h=>e5' c (hBA c h) hc)
  ·have g2:=e6.2.1 c hc;have hno:=kindS g2 (λ h=>h) (λ es h=>by cases h) (λ s p h=>by cases h);have hk:=keep c _ g2 (λ h=>hno (hoI c h)) (λ h=>hno (hoR c h)) (λ h=>e5' c (hBA c h) hc);rcases hLA.aa c hA with k1 | k1 | k1
   ·exact e5' c k1 hc
   ·have:=e2.dom _ _ g2;omega
   ·obtain ⟨yy,hyy⟩:=Option.ne_none_iff_exists'.1 k1;obtain ⟨m1,m2⟩:=u1.zh _ yy hyy;rw[hk] at m1;cases m1;exact m2.elim
 obtain ⟨eF,gF,SF,MF,aF,wF,ZF,νG,EF,HF,AF,BF,dsF,kF,x1,x2,x3,x4,x5,x6,x6r,x7,x8⟩:=hQ base Yd J lr b cs M' _ _ ZI νF E H3 AI BI ds0 stF;have hfc:FCY (XL rd lr) Z ν S H A B ZI νF (qby (killA (ns1.filterMap id) S) d ns2 (bkF x)) H3 AI BI:=by
  refine ⟨hLA.z,λ c hc=>?_,by omega,λ c y g1 g2 g3 g4 _=>keep c y (e5 c y g1) (λ h=>g3 (hoI c h)) (λ h=>g3 (hoR c h)) g4,λ c ho=>(u2.own c ho).imp_left (hS1o c),hb3,ha3,λ id hB hid=>?_⟩
  ·rcases hLA.yz c hc with h | h | h | h
   ·exact .inl h
   ·exact .inr (.inl h)
   ·exact .inr (.inr (hoI c h))
   ·exact .inr (.inr (hoR c h))
  ·obtain ⟨g1,g2⟩:=u2.big id hB hid;exact ⟨(qhz _ g1).1,g2⟩
 refine ⟨eF,gF,SF,MF,aF,wF,ZF,νG,EF,HF,AF,BF,dsF,kF,x1,x2,(hext2.trans q3).trans x3,(e3.trans ((qbv e2.base_le _).trans (q5.trans (ht.below hbb)))).trans x4,hfc.trans x5,λ c hc=>?_,λ hr=>(x6r hr).trans (e7' hr),hsteps.trans x7,x8⟩;rcases x6 c hc with h | h
 ·exact e7 c h
 ·exact .inr (by omega)
end
def rfA (fn:Func) (i:Nat):Code:=match hd fn i with
 | .code (.rangeFunc _ _ a _)::_=>a
 | _=>.ret
def rfB (fn:Func) (i:Nat):Code:=match hd fn i with
 | .code (.rangeFunc _ _ _ b)::_=>b
 | _=>.ret
def rfK (fn:Func) (i:Nat):List Item:=(hd fn i).tail
section
variable {P:Program} {tt:TT} {G:GV} {C:CV} {f:FuncId} {n:Nat} {rd:Rd} {Y:Yp} {K:AExit->Nat × Bool->PS->Prop}
theorem GoodE.keep {l b:List Nat} {it:List Item} {g:Nat × Bool} {S:PS} (h:GoodE P G f n rd Y K it g (qaj l b S)):GoodE P G f n rd Y K it g S:=
 GoodE.less (λ _ _ e=>qea (p:=λ i=>l.contains i) e) (λ _ _ e=>qea (p:=λ i=>b.contains i) e) h
theorem GoodE.only {it:List Item} {g:Nat × Bool} {S S':PS} (h:GoodE P G f n rd Y K it g S') (he:allIn S.env S'.env) (hb:allIn S.blk S'.blk):GoodE P G f n rd Y K it g S:=
 GoodE.less (qic _ he) (qic _ hb) h
theorem qdt (hx:CxOK P tt G C) {it:List Item} {g:Nat × Bool} {S:PS} {A:Prop} (e:syE tt G C n Y K (λ it g S=>GoodE P G f n rd.out Y K it g S) rd 1000 it g S=A) (h:A):GoodE P G f n rd Y K it g S:=
 qkb hx (λ _ _ _ h=>h) 1000 rd it g S rfl (e ▸ h)
theorem qm1 (hx:CxOK P tt G C) {l b:List Nat} {it:List Item} {g:Nat × Bool} {S:PS} {A:Prop} (e:syE tt G C n Y K (λ it g S=>GoodE P G f n rd.out Y K it g (qaj l b S)) rd 1000 it g S=A) (h:A):GoodE P G f n rd Y K it g S:=
 qkb hx (λ _ _ _ h=>h.keep) 1000 rd it g S rfl (e ▸ h)
end
open Ax Go.ChangeShapes Go.WideShapes Go.RowKit
def qlv (P:Program) (T:TypeId->Bool) (sz:Nat) (fs:List Field) (off:Nat):Bool:=match fs with
 | [f]=>decide (f.offset=off)&&T f.type&&decide (P.cellsOf f.type=sz)
 | _=>false
def quj (P:Program) (T:TypeId->Bool) (sz:Nat) (R:List Field->Nat->Bool) (fs:List Field) (off:Nat):Bool:=match fs with
 | f::fs=>decide (f.offset=off)&&T f.type&&decide (P.cellsOf f.type=sz)&&R fs (off+sz)
 | []=>false
def shB (P:Program):Sh->(TypeId->Bool) × (List Field->Nat->Bool)
 | .int k=>
  let T:TypeId->Bool:=λ t=>match P.underlying t with | some (.int k')=>decide (k'=k) | _=>false
  (T,qlv P T 1)
 | .bool=>
  let T:TypeId->Bool:=λ t=>match P.underlying t with | some .bool=>true | _=>false
  (T,qlv P T 1)
 | .str=>
  let T:TypeId->Bool:=λ t=>match P.underlying t with | some .string=>true | _=>false
  (T,qlv P T 1)
 | .unit=>(λ _=>false,λ _ _=>false)
 | .arr n e=>
  let T:TypeId->Bool:=λ t=>match P.underlying t with
   | some (.array m u)=>decide (m=n)&&(shB P e).1 u&&decide (P.cellsOf u=e.size)&&decide (P.cellsOf t=n*e.size)
   | _=>false
  (T,qlv P T (n*e.size))
 | .sl e=>
  let T:TypeId->Bool:=λ t=>match P.underlying t with
   | some (.slice u)=>(shB P e).1 u&&decide (P.cellsOf u=e.size)&&decide (0<e.size)
   | _=>false
  (T,qlv P T 1)
 | .pair a b=>
  let F:List Field->Nat->Bool:=quj P (shB P a).1 a.size (shB P b).2
  let T:TypeId->Bool:=λ t=>match P.underlying t with
   | some (.struct fs)=>F fs.toList 0&&decide (P.cellsOf t=a.size+b.size)
   | _=>false
  (T,λ fs off=>F fs off || qlv P T (a.size+b.size) fs off)
def wfD:(σ:Sh)->σ.D->Prop
 | .int k,(n:Int)=>(Lit.int k n).wf=true
 | .bool,_=>True
 | .str,(l:List UInt8)=>l.length<=maxLen
 | .unit,_=>True
 | .pair a b,x=>wfD a x.1/\wfD b x.2
 | .arr n e,(l:List e.D)=>l.length=n/\∀ x∈l,wfD e x
 | .sl e,(l:List e.D)=>l.length<2 ^ 63/\∀ x∈l,wfD e x
abbrev RelW (W:World) (M:Map) (H:AHeap):Prop:=Rel (λ k=>k<W.heap.size) M H W
def InOK (G:GV) (W:World) (σ:Sh) (cs:List Value):Prop:=
 ∀ M H,RelW W M H->Fro G H->∃ (M':Map) (H':AHeap) (us:List Value) (x:σ.D),Ext M M'/\RelW W M' H'/\Fro G H'/\ZLe (λ b=>H.t.get b) (λ b=>H'.t.get b)/\VRL M' us cs/\(∀ Z,ZLe (λ b=>H'.t.get b) Z->RV Z σ x us)/\wfD σ x
def InLs (G:GV) (W:World) (e:Sh) (m:Nat) (cs:List Value):Prop:=
 ∀ M H,RelW W M H->Fro G H->∃ (M':Map) (H':AHeap) (us:List Value) (l:List e.D),Ext M M'/\RelW W M' H'/\Fro G H'/\ZLe (λ b=>H.t.get b) (λ b=>H'.t.get b)/\VRL M' us cs/\(∀ Z,ZLe (λ b=>H'.t.get b) Z->RVL (λ x u=>RV Z e x u) l us)/\l.length=m/\∀ x∈l,wfD e x
section
variable {G:GV} {W:World}
theorem InOK.flat {σ:Sh} {cs:List Value} (x:σ.D) (hf:qa9 cs=true) (hr:∀ Z,RV Z σ x cs) (hw:wfD σ x):InOK G W σ cs:=
 λ M H hR hF=>⟨M,H,cs,x,Ext.refl M,hR,hF,ZLe.refl _,VRL.self hf,λ Z _=>hr Z,hw⟩
theorem InOK.pair {a b:Sh} {c1 c2:List Value} (h1:InOK G W a c1) (h2:InOK G W b c2):InOK G W (.pair a b) (c1++c2):=by
 intro M H hR hF;obtain ⟨M1,H1,u1,x1,e1,r1,f1,z1,v1,w1,d1⟩:=h1 M H hR hF;obtain ⟨M2,H2,u2,x2,e2,r2,f2,z2,v2,w2,d2⟩:=h2 M1 H1 r1 f1
 exact ⟨M2,H2,u1++u2,(x1,x2),e1.trans e2,r2,f2,z1.trans z2,(VRL.mono e2 _ _ v1).append v2,λ Z hZ=>by
  simp only[RV]
  exact ⟨u1,u2,rfl,w1 Z (z2.trans hZ),w2 Z hZ⟩,d1,d2⟩
theorem qz4 (cs:List Value) (m n:Nat):cs.take (m+n)=cs.take m++(cs.drop m).take n:=by
 rw[List.take_add]
theorem InLs.of {e:Sh}:∀ (m:Nat) (cs:List Value),cs.length=m*e.size->(∀ i,i<m->InOK G W e ((cs.drop (i*e.size)).take e.size))->InLs G W e m cs
 | 0,cs,hl,_=>by
  intro M H hR hF;rw[Nat.zero_mul] at hl;obtain rfl:=List.eq_nil_of_length_eq_zero hl;exact ⟨M,H,[],[],Ext.refl M,hR,hF,ZLe.refl _,VRL.nil,λ Z _=>rfl,rfl,λ x h=>by cases h⟩
 | m+1,cs,hl,hi=>by
  intro M H hR hF;rw[Nat.succ_mul] at hl;have h0:=hi 0 (by omega);rw[Nat.zero_mul,List.drop_zero] at h0;obtain ⟨M1,H1,u1,x1,e1,r1,f1,z1,v1,w1,d1⟩:=h0 M H hR hF
  obtain ⟨M2,H2,u2,l2,e2,r2,f2,z2,v2,w2,n2,d2⟩:=InLs.of (e:=e) m (cs.drop e.size) (by rw[List.length_drop];omega) (λ i h=>by
   have:=hi (i+1) (by omega);rw[Nat.succ_mul,Nat.add_comm,<- List.drop_drop] at this
   exact this) M1 H1 r1 f1
  refine ⟨M2,H2,u1++u2,x1::l2,e1.trans e2,r2,f2,z1.trans z2,?_,λ Z hZ=>⟨u1,u2,rfl,w1 Z (z2.trans hZ),w2 Z hZ⟩,by rw[List.length_cons,n2],λ x hx=>?_⟩
  ·have:=(VRL.mono e2 _ _ v1).append v2;rwa[List.take_append_drop] at this
  ·rcases List.mem_cons.1 hx with rfl | hx
   ·exact d1
   ·exact d2 x hx
end
section
variable {H:Type} {enc:TypeId × Value->H} {P:Program} {G:GV} {W:World} {held:Bool}
theorem qtq (c:Array Value) (i:Nat):c.toList[i]?=c[i]?:=by simp
theorem q2a {n:Nat} {t u:TypeId} {e:Sh} {cs:List Value} {d:DataW H × List MemPlace} (ht:P.underlying t=some (.slice u)) (hC:P.cellsOf u=e.size) (h0:0<e.size)
  (ih:∀ cs d,DataW.trod enc P W 0 (λ _=>true) held n u cs=some d->InOK G W e cs)
  (h:DataW.trod enc P W 0 (λ _=>true) held (n+1) t cs=some d):InOK G W (.sl e) cs:=by
 rcases DataW.trod_slice ht h with ⟨rfl,_⟩ | ⟨a,len,cap,elems,rest,n',hn,rfl,rfl,hb,hl,hm,hlen,hel,hsp,_⟩
 ·exact InOK.flat [] rfl (λ Z=>by simp only[RV];exact ⟨_,rfl,.inl ⟨rfl,.inl rfl⟩⟩) ⟨by simp,λ x h=>by cases h⟩
 obtain rfl:n=n':=by omega
 obtain ⟨hrl,hr⟩:=hsp rfl;by_cases hc0:cap=0
 ·subst hc0;obtain rfl:len=0:=by omega
  intro M H hR hF;exact ⟨M,H,[emptySlice],[],Ext.refl M,hR,hF,ZLe.refl _,VRL.cons (VR.emptySlice _ _) VRL.nil,λ Z _=>by simp only[RV];exact ⟨_,rfl,.inl ⟨rfl,.inr rfl⟩⟩,by simp,λ x h=>by cases h⟩
 rw[hC] at hel hr;have each:∀ i,i<cap->∃ ci y,W.cells? 0 (a.add (i*e.size)) e.size=some ci/\DataW.trod enc P W 0 (λ _=>true) held n u ci=some y:=by
  intro i hi;by_cases hil:i<len
  ·have:=hel i hil;rw[List.getElem?_eq_getElem (by omega),Option.bind_eq_some_iff] at this;obtain ⟨ci,h1,h2⟩:=this;exact ⟨ci,_,h1,h2⟩
  ·have:=hr (i-len) (by omega);rw[List.getElem?_eq_getElem (by omega),Option.bind_eq_some_iff,show len+(i-len)=i by omega] at this;obtain ⟨ci,h1,h2⟩:=this;exact ⟨ci,_,h1,h2⟩
 obtain ⟨b,off,spot⟩:=a;obtain ⟨c0,y0,hc1,_⟩:=each 0 (by omega);obtain ⟨_,hl0,hcell0⟩:=World.cells?_some hc1;have hcell0:=hcell0 0 h0;rw[Nat.zero_mul,List.getElem?_eq_getElem (by omega)] at hcell0;have hspot:spot=none:=by simpa [Addr.add] using World.cell?_spot hcell0
 subst hspot;have hadd:∀ i,(⟨b,off,none⟩:Addr).add i=⟨b,off+i,none⟩:=λ i=>qa3 ..
 have hadd2:∀ i j,((⟨b,off,none⟩:Addr).add i).add j=⟨b,off+i+j,none⟩:=λ i j=>by rw[hadd];exact qa3 ..
 rw[hadd2] at hcell0;simp only[World.cell?] at hcell0
 cases hb:W.heap[b]? with
 | none=>rw[hb] at hcell0;simp at hcell0
 | some o=>
  cases o with
  | cells c et f=>
   have hcell:∀ i,i<cap->∃ y,(off+i*e.size+e.size<=c.toList.length)/\DataW.trod enc P W 0 (λ _=>true) held n u ((c.toList.drop (off+i*e.size)).take e.size)=some y:=by
    intro i hi;obtain ⟨ci,y,h1,h2⟩:=each i hi;obtain ⟨_,h3,h4⟩:=World.cells?_some h1;have h5:∀ j,j<e.size->c.toList[off+i*e.size+j]?=ci[j]?:=by
     intro j hj;have:=h4 j hj;rw[hadd2] at this;simp only[World.cell?,hb,Option.isSome_none,Bool.false_eq_true,if_false] at this;rw[qtq];exact this
    have h6:off+i*e.size+e.size<=c.toList.length:=by
     have:=h5 (e.size-1) (by omega);rw[List.getElem?_eq_getElem (show e.size-1<ci.length by omega)] at this;have:=(List.getElem?_eq_some_iff.1 this).1;omega
    refine ⟨y,h6,?_⟩;have e1:(c.toList.drop (off+i*e.size)).take e.size=ci:=by
     apply List.ext_getElem?;intro j;rw[List.getElem?_take];split
     ·rw[List.getElem?_drop];exact h5 j ‹_›
     ·rw[List.getElem?_eq_none (by omega)]
    rw[e1];exact h2
   have hend:off+cap*e.size<=c.toList.length:=by
    obtain ⟨_,h6,_⟩:=hcell (cap-1) (by omega);have:(cap-1)*e.size+e.size=cap*e.size:=by
     rw[<- Nat.succ_mul];congr 1;omega
    omega
   have hls:InLs G W e cap ((c.toList.drop off).take (cap*e.size)):=by
    refine InLs.of cap _ (by rw[List.length_take,List.length_drop];omega) λ i hi=>?_
    obtain ⟨y,h6,h7⟩:=hcell i hi;have hsz:i*e.size+e.size<=cap*e.size:=by
     rw[<- Nat.succ_mul];exact Nat.mul_le_mul_right _ hi
    have e2:(((c.toList.drop off).take (cap*e.size)).drop (i*e.size)).take e.size=(c.toList.drop (off+i*e.size)).take e.size:=by
     rw[List.drop_take,List.take_take,List.drop_drop,show min e.size (cap*e.size-i*e.size)=e.size by omega]
    rw[e2];exact ih _ _ h7
   intro M H hR hF;obtain ⟨M1,H1,us,l,e1,r1,f1,z1,v1,w1,n1,d1⟩:=hls M H hR hF;have hus:us.length=cap*e.size:=by
    have:=VRL.length v1;rw[List.length_take,List.length_drop] at this;omega
   have hmax:maxLen<2 ^ 63:=by decide
   have htl:(l.take len).length=len:=by rw[List.length_take];omega
   refine ⟨M1++[{ real:=b,sh:=off }],H1.add (.cells us et 2),[.slice (some ⟨H1.next,0,none⟩) (l.take len).length cap],l.take len,e1.trans (Ext.snoc M1 _),Rel.read r1 f1.ro (Nat.zero_le _) hb ?_,f1.add (Nat.zero_le _) _ _,z1.trans λ b' x hx=>?_,VRL.cons ?_ VRL.nil,λ Z hZ=>?_,by rw[htl];omega,λ x hx=>d1 x (List.mem_of_mem_take hx)⟩
   ·rw[hus];exact VRL.mono (Ext.snoc M1 _) _ _ v1
   ·have:=f1.dom b' x hx
    show (H1.add _).t.get b'=some x
    rw[AHeap.get_add_other (by omega)];exact hx
   ·simp only[VR];rw[if_neg (by simp)];refine ⟨_,by rw[<- r1.len];exact qda M1 _,?_⟩;rw[htl];simp only[qcb];rw[if_neg (by unfold qag;omega)];simp
   ·have hZ1:ZLe (λ b=>H1.t.get b) Z:=λ b' x hx=>hZ b' x (by
     have:=f1.dom b' x hx
     show (H1.add _).t.get b'=some x
     rw[AHeap.get_add_other (by omega)];exact hx)
    simp only[RV];refine ⟨_,rfl,.inr ⟨H1.next,0,cap,us,et,2,rfl,hZ _ _ (AHeap.get_add (Nat.zero_le _)),?_,?_,.inr ⟨by rw[htl];omega,by omega⟩⟩⟩
    ·rw[htl,hus,Nat.zero_add];exact Nat.mul_le_mul_right _ hl
    ·rw[List.drop_zero,htl];exact RVL.take (λ x u k=>RV.len e x u k) len (w1 Z hZ1)
  | _=>rw[hb] at hcell0;simp at hcell0
theorem qiv {σ:Sh} {T:TypeId->Bool} {sz:Nat} {n:Nat} {cs:List Value} (hz:sz=σ.size)
  (ih:∀ t cs d,T t=true->DataW.trod enc P W 0 (λ _=>true) held n t cs=some d->InOK G W σ cs) {fs:List Field} {off:Nat} (hb:qlv P T sz fs off=true)
  (h:∀ f∈fs,∃ d,DataW.trod enc P W 0 (λ _=>true) held n f.type ((cs.drop f.offset).take (P.cellsOf f.type))=some d):InOK G W σ ((cs.drop off).take σ.size):=by
 unfold qlv at hb;split at hb
 next f=>simp only[Bool.and_eq_true,decide_eq_true_eq] at hb;obtain ⟨⟨h1,h2⟩,h3⟩:=hb;obtain ⟨d,hd⟩:=h f (by simp);rw[h1,h3,hz] at hd;exact ih _ _ _ h2 hd
 ·cases hb
theorem qo8 {n:Nat} (ih:∀ (σ:Sh) t cs d,(shB P σ).1 t=true->DataW.trod enc P W 0 (λ _=>true) held n t cs=some d->InOK G W σ cs) {cs:List Value}:∀ (σ:Sh) (fs:List Field) (off:Nat),(shB P σ).2 fs off=true ->
  (∀ f∈fs,∃ d,DataW.trod enc P W 0 (λ _=>true) held n f.type ((cs.drop f.offset).take (P.cellsOf f.type))=some d)->InOK G W σ ((cs.drop off).take σ.size)
 | .int k,fs,off,hb,h=>qiv rfl (ih (.int k)) hb h
 | .bool,fs,off,hb,h=>qiv rfl (ih .bool) hb h
 | .str,fs,off,hb,h=>qiv rfl (ih .str) hb h
 | .unit,fs,off,hb,h=>by cases hb
 | .arr m e,fs,off,hb,h=>qiv rfl (ih (.arr m e)) hb h
 | .sl e,fs,off,hb,h=>qiv rfl (ih (.sl e)) hb h
 | .pair a b,fs,off,hb,h=>by
  have hb':(quj P (shB P a).1 a.size (shB P b).2 fs off || qlv P (shB P (.pair a b)).1 (a.size+b.size) fs off)=true:=hb;rw[Bool.or_eq_true] at hb';rcases hb' with hb' | hb'
  ·unfold quj at hb';split at hb'
   next f fs'=>
    simp only[Bool.and_eq_true,decide_eq_true_eq] at hb';obtain ⟨⟨⟨h1,h2⟩,h3⟩,h4⟩:=hb';obtain ⟨d,hd⟩:=h f (by simp);rw[h1,h3] at hd;have p1:=ih a _ _ _ h2 hd;have p2:=qo8 ih b fs' (off+a.size) h4 λ g hg=>h g (List.mem_cons_of_mem _ hg)
    have:=p1.pair p2;rw[<- List.drop_drop,<- qz4] at this;exact this
   ·cases hb'
  ·exact qiv rfl (ih (.pair a b)) hb' h
theorem qj2:∀ (n:Nat) (σ:Sh) (t:TypeId) (cs:List Value) (d:DataW H × List MemPlace),(shB P σ).1 t=true->DataW.trod enc P W 0 (λ _=>true) held n t cs=some d->InOK G W σ cs
 | 0,σ,t,cs,d,_,h=>by simp[DataW.trod] at h
 | n+1,.int k,t,cs,d,hb,h=>by
  simp only[shB] at hb;split at hb
  next k' hu=>obtain rfl:=of_decide_eq_true hb;obtain ⟨m,rfl,_,hw⟩:=DataW.trod_int hu h;exact InOK.flat (σ:=.int k') m rfl (λ Z=>by simp only[RV]) hw
  ·cases hb
 | n+1,.bool,t,cs,d,hb,h=>by
  simp only[shB] at hb;split at hb
  next hu=>obtain ⟨m,rfl,_⟩:=DataW.trod_bool hu h;exact InOK.flat (σ:=.bool) m rfl (λ Z=>by simp only[RV]) trivial
  ·cases hb
 | n+1,.str,t,cs,d,hb,h=>by
  simp only[shB] at hb;split at hb
  next hu=>obtain ⟨s,rfl,_,hw⟩:=DataW.trod_string hu h;exact InOK.flat (σ:=.str) s.data.toList rfl (λ Z=>by simp only[RV,bstr]) (by simpa [wfD] using hw)
  ·cases hb
 | n+1,.unit,t,cs,d,hb,h=>by cases hb
 | n+1,.arr m e,t,cs,d,hb,h=>by
  simp only[shB] at hb;split at hb
  next m' u hu=>
   simp only[Bool.and_eq_true,decide_eq_true_eq] at hb;obtain ⟨⟨⟨rfl,h2⟩,h3⟩,h4⟩:=hb;obtain ⟨xs,n',hn,_,hcl,hlen,hg⟩:=DataW.trod_array hu h;obtain rfl:n=n':=by omega
   have hls:InLs G W e m' cs:=InLs.of m' cs (hcl.trans h4) λ i hi=>by
    have:=hg i hi;rw[h3,List.getElem?_eq_getElem (by omega)] at this;exact qj2 n e u _ _ h2 this
   intro M H hR hF;obtain ⟨M1,H1,us,l,e1,r1,f1,z1,v1,w1,n1,d1⟩:=hls M H hR hF;exact ⟨M1,H1,us,l,e1,r1,f1,z1,v1,λ Z hZ=>by simp only[RV];exact ⟨n1,w1 Z hZ⟩,n1,d1⟩
  ·cases hb
 | n+1,.sl e,t,cs,d,hb,h=>by
  simp only[shB] at hb;split at hb
  next u hu=>simp only[Bool.and_eq_true,decide_eq_true_eq] at hb;obtain ⟨⟨h2,h3⟩,h4⟩:=hb;exact q2a hu h3 h4 (λ cs d hd=>qj2 n e u cs d h2 hd) h
  ·cases hb
 | n+1,.pair a b,t,cs,d,hb,h=>by
  have hb':(match P.underlying t with
   | some (.struct fs)=>quj P (shB P a).1 a.size (shB P b).2 fs.toList 0&&decide (P.cellsOf t=a.size+b.size)
   | _=>false)=true:=hb
  split at hb'
  next fs hu=>
   simp only[Bool.and_eq_true,decide_eq_true_eq] at hb';obtain ⟨h2,h3⟩:=hb';obtain ⟨xs,n',hn,_,hcl,hlen,hg⟩:=DataW.trod_struct hu h;obtain rfl:n=n':=by omega
   have hf:(shB P (.pair a b)).2 fs.toList 0=true:=by
    show (quj P (shB P a).1 a.size (shB P b).2 fs.toList 0 || qlv P (shB P (.pair a b)).1 (a.size+b.size) fs.toList 0)=true
    rw[h2,Bool.true_or]
   have:=qo8 (G:=G) (λ σ t cs d=>qj2 n σ t cs d) (.pair a b) fs.toList 0 hf λ f hfm=>by
    obtain ⟨i,hi⟩:=List.getElem?_of_mem hfm;rw[Array.getElem?_toList] at hi;have h5:=hg i f hi;have:i<xs.length:=by
     have:=(Array.getElem?_eq_some_iff.1 hi).1;omega
    rw[List.getElem?_eq_getElem this] at h5;exact ⟨_,h5⟩
   rw[List.drop_zero,List.take_of_length_le (by rw[hcl,h3];exact Nat.le_refl _)] at this;exact this
  ·cases hb'
theorem arg_in {r:Reach} {b0:Nat} (σ:Sh) {t:TypeId} {v:Value} {d:DataW H} {p:List MemPlace} (hs:(shB P σ).1 t=true) (hv:Value.okWide P W r b0 t v) (h:DataW.Trod enc P W 0 (λ _=>true) held t v d p) {M:Map} {Hh:AHeap} (hR:RelW W M Hh) (hF:Fro G Hh) :
  ∃ (M':Map) (H':AHeap) (u:Value) (x:σ.D),Ext M M'/\RelW W M' H'/\Fro G H'/\ZLe (λ b=>Hh.t.get b) (λ b=>H'.t.get b)/\VR M' u v/\(∀ Z,ZLe (λ b=>H'.t.get b) Z->∀ ν,VS Z ν (ofD σ x) u)/\wfD σ x:=by
 obtain ⟨fuel,hf⟩:=h;have hin:=qj2 (G:=G) fuel σ t _ _ hs hf M Hh hR hF;obtain ⟨M1,H1,us,x,e1,r1,f1,z1,v1,w1,d1⟩:=hin;have one:v.cells=#[v]->∃ u,us=[u]/\VR M1 u v:=by
  intro hc;rw[hc] at v1;have hl:=VRL.length v1
  match us,hl with
  | [u],_=>obtain ⟨v',l',q1,q2,q3⟩:=v1.cases;cases q3;exact ⟨u,rfl,q1⟩
 have fin1:∀ {u:Value},us=[u]->VR M1 u v->(∀ Z,RV Z σ x [u]->∀ ν,VS Z ν (ofD σ x) u)->∃ (M':Map) (H':AHeap) (u:Value) (x:σ.D),Ext M M'/\RelW W M' H'/\Fro G H'/\ZLe (λ b=>Hh.t.get b) (λ b=>H'.t.get b)/\VR M' u v/\(∀ Z,ZLe (λ b=>H'.t.get b) Z->∀ ν,VS Z ν (ofD σ x) u)/\wfD σ x:=
  λ hu hvr hk=>⟨M1,H1,_,x,e1,r1,f1,z1,hvr,λ Z hZ ν=>hk Z (hu ▸ w1 Z hZ) ν,d1⟩
 have finA:∀ (cs:Array Value),v=.agg cs->(∀ Z,RV Z σ x us->∀ ν,VS Z ν (ofD σ x) (.agg us.toArray))->∃ (M':Map) (H':AHeap) (u:Value) (x:σ.D),Ext M M'/\RelW W M' H'/\Fro G H'/\ZLe (λ b=>Hh.t.get b) (λ b=>H'.t.get b)/\VR M' u v/\(∀ Z,ZLe (λ b=>H'.t.get b) Z->∀ ν,VS Z ν (ofD σ x) u)/\wfD σ x:=by
  intro cs hcs hk;subst hcs;refine ⟨M1,H1,.agg us.toArray,x,e1,r1,f1,z1,?_,λ Z hZ ν=>hk Z (w1 Z hZ) ν,d1⟩;simp only[VR];exact ⟨cs,VRA.iff.2 (by simpa [Value.cells] using v1),rfl⟩
 cases σ with
 | int k=>
  simp only[shB] at hs;split at hs
  next k' hu=>
   obtain rfl:=of_decide_eq_true hs;obtain ⟨n,rfl⟩:=okWide_int hu hv;obtain ⟨u,hu1,hu2⟩:=one rfl;exact fin1 hu1 hu2 λ Z hr ν=>by
    simp only[RV] at hr;cases hr
    show CR Z ν (SV.int k' x) [_]
    simp only[CR]
  ·cases hs
 | bool=>
  simp only[shB] at hs;split at hs
  next hu=>
   obtain ⟨n,rfl⟩:=okWide_bool hu hv;obtain ⟨u,hu1,hu2⟩:=one rfl;exact fin1 hu1 hu2 λ Z hr ν=>by
    simp only[RV] at hr;cases hr
    show CR Z ν (SV.bool x) [_]
    simp only[CR]
  ·cases hs
 | str=>
  simp only[shB] at hs;split at hs
  next hu=>
   obtain ⟨n,rfl⟩:=okWide_string hu hv;obtain ⟨u,hu1,hu2⟩:=one rfl;exact fin1 hu1 hu2 λ Z hr ν=>by
    simp only[RV] at hr;cases hr
    show CR Z ν (SV.str x) [_]
    simp only[CR]
  ·cases hs
 | unit=>cases hs
 | arr m e=>
  simp only[shB] at hs;split at hs
  next m' u hu=>obtain ⟨cs,hcs⟩:=Ax.okWide_arr hu hv;exact finA cs hcs λ Z hr ν=>⟨us,rfl,hr⟩
  ·cases hs
 | sl e=>
  simp only[shB] at hs;split at hs
  next u hu=>
   obtain ⟨a,len,cap,rfl⟩:=okWide_slice hu hv;obtain ⟨u,hu1,hu2⟩:=one rfl;exact fin1 hu1 hu2 λ Z hr ν=>by
    simp only[RV] at hr;obtain ⟨w,hw,hr⟩:=hr;cases hw;exact VS.mkSl hr
  ·cases hs
 | pair a b=>
  have hs':(match P.underlying t with
   | some (.struct fs)=>quj P (shB P a).1 a.size (shB P b).2 fs.toList 0&&decide (P.cellsOf t=a.size+b.size)
   | _=>false)=true:=hs
  split at hs'
  next fs hu=>obtain ⟨cs,hcs,_⟩:=okWide_struct hu hv;exact finA cs hcs λ Z hr ν=>⟨us,rfl,qao (.pair a b) x hr⟩
  ·cases hs'
end
theorem q4p (l:List UInt8) (i:Nat):((⟨l.toArray⟩:ByteArray).get! i)=l[i]!:=by
 show l.toArray[i]! = _
 simp
theorem q6p (l:List UInt8):(⟨l.toArray⟩:ByteArray).size=l.length:=by simp[ByteArray.size]
theorem qyn {l:List UInt8} {i:Nat} (h:i<l.length):l[i]! = l[i]:=by
 rw[List.getElem!_eq_getElem?_getD,List.getElem?_eq_getElem h];rfl
theorem qwn {l:List UInt8} {i:Nat} (h:i<l.length) (hb:l[i].toNat<128):qc7 l i=(l[i].toNat,1):=by
 unfold qc7 Utf8.decode;simp only[q4p,Nat.add_zero,qyn h];rw[if_pos hb]
theorem qwo {l:List UInt8} {i:Nat} (h:i<l.length) (hb:128<=l[i].toNat) :
  128<=(qc7 l i).1/\(qc7 l i).1<2097152/\1<=(qc7 l i).2/\i+(qc7 l i).2<=l.length/\∀ k,k<(qc7 l i).2->∀ h':i+k<l.length,128<=l[i+k].toNat:=by
 have hlt:∀ k:Nat,(l[k]!:UInt8).toNat<256:=λ k=>UInt8.toNat_lt _
 have one:128<=Utf8.runeError/\Utf8.runeError<2097152/\1<=1/\i+1<=l.length/\∀ k,k<1->∀ h':i+k<l.length,128<=l[i+k].toNat:=by
  refine ⟨by decide,by decide,by decide,h,λ k hk h'=>?_⟩;have:k=0:=by omega
  subst this;exact hb
 have more:∀ n,(∀ k,1<=k->k<n->(decide (i+k<l.length)&&l[i+k]!.toNat / 64 == 2)=true)->∀ k,k<n->∀ h':i+k<l.length,128<=l[i+k].toNat:=by
  intro n hn k hk h';by_cases h0:k=0
  ·subst h0;exact hb
  ·have:=hn k (by omega) hk;simp only[Bool.and_eq_true,decide_eq_true_eq,beq_iff_eq] at this;rw[qyn h'] at this;omega
 have inl:∀ k,(decide (i+k<l.length)&&l[i+k]!.toNat / 64 == 2)=true->i+k<l.length:=by
  intro k hk;simp only[Bool.and_eq_true,decide_eq_true_eq] at hk;exact hk.1
 unfold qc7 Utf8.decode;simp only[q4p,q6p,Nat.add_zero,qyn h];rw[if_neg (by omega)];have h0:=UInt8.toNat_lt l[i];have b1:=hlt (i+1);have b2:=hlt (i+2);have b3:=hlt (i+3);split
 next c=>
  simp only[Bool.and_eq_true,beq_iff_eq] at c;split
  ·refine ⟨by omega,by omega,by omega,inl 1 (by simpa using c.2),more 2 λ k k1 k2=>?_⟩;have:k=1:=by omega
   subst this;simpa using c.2
  ·exact one
 ·split
  next c=>
   simp only[Bool.and_eq_true,beq_iff_eq] at c;split
   next c2=>
    simp only[Bool.and_eq_true,decide_eq_true_eq] at c2;have c2:=c2.1;refine ⟨by omega,by omega,by omega,inl 2 (by simpa using c.2),more 3 λ k k1 k2=>?_⟩;have:k=1\/k=2:=by omega
    rcases this with rfl | rfl
    ·simpa using c.1.2
    ·simpa using c.2
   ·exact one
  ·split
   next c=>
    simp only[Bool.and_eq_true,beq_iff_eq] at c;split
    next c2=>
     simp only[Bool.and_eq_true,decide_eq_true_eq] at c2;have c2:=c2.1;refine ⟨by omega,by omega,by omega,inl 3 (by simpa using c.2),more 4 λ k k1 k2=>?_⟩;have:k=1\/k=2\/k=3:=by omega
     rcases this with rfl | rfl | rfl
     ·simpa using c.1.1.2
     ·simpa using c.1.2
     ·simpa using c.2
    ·exact one
   ·exact one
section
variable {P:Program} {tt:TT} {G:GV} {f:FuncId} {n:Nat} {rd:Rd} {Y:Yp} {K:AExit->Nat × Bool->PS->Prop} {res:List ResultVar} {Q:List SV->List (Nat × LB)->Prop}
theorem GoodE.frz {it:List Item} {g:Nat × Bool} {S:PS} {i:Nat} {e:Sh} {et:TypeId} {xs:List e.D} (hl:lk S.blk i=some (.row et e xs)) (hi:∀ c∈cdP i xs.length S,c) (h:GoodE P G f n rd Y K it g (S.frzR i e xs)):GoodE P G f n rd Y K it g S:=by
 intro base Yd J lr b cs M a w Z ν E H A B ds st;obtain ⟨Z1,h1,h2,_⟩:=q4q st.pr hl (q40 hi);obtain ⟨e1,g',S',M',a',w',Z',ν',E',H',A',B',ds',k0,x1,x2,x3,x4,x5,x6⟩:=h base Yd J lr b cs M a w Z1 ν E H A B ds (st.next (Ext.refl M) st.er rfl st.rel h1 h2);exact ⟨e1,g',S',M',a',w',Z',ν',E',H',A',B',ds',k0,x1,x2,x3,x4,(FCY.of h2).trans x5,x6⟩
theorem Good.frz {it:List Item} {S:PS} {i:Nat} {e:Sh} {et:TypeId} {xs:List e.D} (hl:lk S.blk i=some (.row et e xs)) (hi:∀ c∈cdP i xs.length S,c) (h:Good P tt G f n res Q it (S.frzR i e xs)):Good P tt G f n res Q it S:=GoodE.frz hl hi h
def qul:Nat->List LB->List SV->List SV
 | _,[],l=>l
 | k,.row _ e xs::rows,l=>qul (k+1) rows (frzL k e xs l)
 | k,_::rows,l=>qul (k+1) rows l
def inRs:Nat->List LB->List SV->Prop
 | _,[],_=>True
 | k,.row _ e xs::rows,l=>inL k xs.length l/\inRs (k+1) rows (frzL k e xs l)
 | k,_::rows,l=>inRs (k+1) rows l
theorem qsy {ν:Nu} {H:AHeap} {nx:Nat} {vs:List Value}:∀ (rows:List LB) (k:Nat) (l:List SV) (Z:Nat->Option ABlk),(∀ b y,Z b=some y->H.t.get b=some y/\isCells y) ->
  (∀ j lb,rows[j]?=some lb->BR Z ν H (k+j) lb/\∀ ni,ν (k+j)=some ni->nx<=ni.b)->inRs k rows l->V1L Z ν l vs ->
  ∃ Z1,ZLe Z Z1/\(∀ b y,Z1 b=some y->H.t.get b=some y/\isCells y)/\(∀ b,Z1 b≠none->Z b≠none\/nx<=b)/\V1L Z1 ν (qul k rows l) vs
 | [],k,l,Z,hz,_,_,hv=>⟨Z,ZLe.refl _,hz,λ _ h=>.inl h,hv⟩
 | lb::rows,k,l,Z,hz,hb,hi,hv=>by
  have nxt:∀ (l':List SV) (Z1:Nat->Option ABlk),ZLe Z Z1->(∀ b y,Z1 b=some y->H.t.get b=some y/\isCells y)->(∀ b,Z1 b≠none->Z b≠none\/nx<=b)->inRs (k+1) rows l'->V1L Z1 ν l' vs ->
    ∃ Z2,ZLe Z Z2/\(∀ b y,Z2 b=some y->H.t.get b=some y/\isCells y)/\(∀ b,Z2 b≠none->Z b≠none\/nx<=b)/\V1L Z2 ν (qul (k+1) rows l') vs:=by
   intro l' Z1 g1 g2 g3 g4 g5
   obtain ⟨Z2,q1,q2,q3,q4⟩:=qsy rows (k+1) l' Z1 g2 (λ j lb' hj=>by
    obtain ⟨s1,s2⟩:=hb (j+1) lb' (by simpa using hj);rw[show k+(j+1)=k+1+j by omega] at s1 s2
    exact ⟨s1.mono g1,s2⟩) g4 g5
   exact ⟨Z2,g1.trans q1,q2,λ b hq=>(q3 b hq).elim (λ h=>g3 b h) .inr,q4⟩
  obtain ⟨b0,b1⟩:=hb 0 lb rfl;rw[Nat.add_zero] at b0 b1
  cases lb with
  | row et e xs=>
   let Z1:Nat->Option ABlk:=λ c=>match ν k with
    | some ni=>if c=ni.b then H.t.get c else Z c
    | none=>Z c
   have z1:ZLe Z Z1:=by
    intro c y hc;simp only[Z1];split
    ·split
     ·exact (hz c y hc).1
     ·exact hc
    ·exact hc
   have z2:∀ ni y,ν k=some ni->H.t.get ni.b=some y->Z1 ni.b=some y:=by
    intro ni y hn hy;simp only[Z1,hn,if_true];exact hy
   refine nxt _ Z1 z1 ?_ ?_ hi.2 (V1L.frz b0 z1 z2 hi.1 hv)
   ·intro c y hc;simp only[Z1] at hc;split at hc
    next ni hn=>
     split at hc
     next hcn=>
      subst hcn;obtain ⟨_,⟨hn',_⟩ | ⟨ni',cs,tl,k',hn',hg,_,_⟩⟩:=b0
      ·rw[hn] at hn';cases hn'
      ·rw[hn] at hn';cases hn';rw[hg] at hc;cases hc;exact ⟨hg,trivial⟩
     ·exact hz c y hc
    ·exact hz c y hc
   ·intro c hc;simp only[Z1] at hc;split at hc
    next ni hn=>
     split at hc
     next hcn=>subst hcn;exact .inr (b1 ni hn)
     ·exact .inl hc
    ·exact .inl hc
  | var m=>exact nxt l Z (ZLe.refl _) hz (λ _ h=>.inl h) hi hv
  | mp κ σ m=>exact nxt l Z (ZLe.refl _) hz (λ _ h=>.inl h) hi hv
  | iter m p=>exact nxt l Z (ZLe.refl _) hz (λ _ h=>.inl h) hi hv
def Ctr.frz (ct:Ctr):Ctr:=⟨ct.args,ct.pre,λ x=>qul 0 (ct.rows x) (ct.out x),λ _=>[]⟩
theorem Held.frz {ct:Ctr} (h:Held P G f ct) (hi:∀ x,ct.pre x->inRs 0 (ct.rows x) (ct.out x)):Held P G f ct.frz:=by
 intro x hpre base M args args' w cs Z H h1 h2 h3 h4 h5;obtain ⟨Z',ν',H',M',w',v',vs,fr',x1,x2,x3,x4,x5,x6,x7,x8,x9,x10,x11,x12,x13,x14,x15⟩:=h x hpre base M args args' w cs Z H h1 h2 h3 h4 h5
 obtain ⟨Z1,q1,q2,q3,q4⟩:=qsy (nx:=H.next) (ct.rows x) 0 (ct.out x) Z' x3 (λ j lb hj=>by
  rw[Nat.zero_add]
  exact ⟨(x7 j lb hj).1,λ ni hn=>((x7 j lb hj).2 ni hn).1⟩) (hi x hpre) x6
 exact ⟨Z1,ν',H',M',w',v',vs,fr',x1.trans q1,λ b hb=>(q3 b hb).elim (x2 b) .inr,q2,x4,x5,q4,λ i lb hl=>by simp[Ctr.frz] at hl,λ i j li lj ni nj hl=>by simp[Ctr.frz] at hl,x9,x10,x11,x12,x13,x14,x15⟩
theorem Held.iff {ct ct2:Ctr} (h:Held P G f ct) (ha:ct2.args=ct.args) (hp:∀ x,ct2.pre x->ct.pre (ha ▸ x)) (ho:∀ x,ct2.pre x->ct2.out x=ct.out (ha ▸ x)) (hr:∀ x,ct2.pre x->ct2.rows x=ct.rows (ha ▸ x)):Held P G f ct2:=by
 obtain ⟨a,p,o,r⟩:=ct;obtain ⟨a2,p2,o2,r2⟩:=ct2;simp only at ha;subst ha;intro x hpre;have:=h x (hp x hpre);simp only at ho hr |-;rw[ho x hpre,hr x hpre];exact this
end
section
variable {P:Program} {tt:TT} {G:GV} {C:CV} {f:FuncId} {n:Nat} {rd:Rd} {Y:Yp} {K:AExit->Nat × Bool->PS->Prop} {res:List ResultVar} {Q:List SV->List (Nat × LB)->Prop}
end
end Go.Px
