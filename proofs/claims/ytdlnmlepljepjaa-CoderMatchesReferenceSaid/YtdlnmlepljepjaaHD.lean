/-
  A part of the proof: a run over an abstract memory, its soundness and its rules; each theorem says its conditions.
-/
import Derived.Test.YtdlnmlepljepjaaHC
import Derived.Test.YtdlnmlepljepjaaGD
import Derived.Test.YtdlnmlepljepjaaGE
set_option linter.unusedVariables false
set_option linter.unusedSimpArgs false
namespace Go.Px
open Ax
def q0o (ρ:Operand->Option SV) (o:Oper):Option (Nat × List SV):=
 match o.op with
 | .call c=>match c.callee with
  | .value fo=>match ρ fo with
   | some (.yl l)=>match qbb ρ c.args with
    | some as=>some (l,as)
    | none=>none
   | _=>none
  | _=>none
 | _=>none
def nilC (tt:TT) (ρ:Operand->Option SV) (o:Oper):Option (Nat × Prop):=
 match o.op with
 | .binOp op t x y _=>match op,o.dst,kOf tt t with
  | .eql,some d,some (.slice _)=>match ρ x,ρ y with
   | some (.sl _ l),some .nils=>some (d,l=[])
   | _,_=>none
  | _,_,_=>none
 | _=>none
def exE (tt:TT) (G:GV) (C:CV) (Y:Yp) (S:PS) (g:Nat × Bool) (o:Oper) (K:PS->Nat × Bool->Prop):Prop:=
 match nilC tt (pv G S.env) o with
 | some (d,p)=>∀ r:Bool,(r=true->p)->K (S.with d (.bool r)) g
 | none=>match fulC tt G S o with
 | some (d,id,s,cs)=>conj (cs++(frzN [id] S).1) (K ((frzN [id] S).2.with d s) g)
 | none=>match opnX tt G S o with
 | some (cs,S')=>conj cs (K S' g)
 | none=>match q0o (pv G S.env) o with
 | some (l,as)=>match o.dst,qdb [] Y.as as with
  | some d,some (cs,y)=>match qcs as with
   | true=>conj (cs++[l=Y.l,g.2=false,Y.ys[g.1]?=some y]) (∀ r:Bool,K (S.with d (.bool r)) (g.1+1,!r))
   | false=>False
  | _,_=>False
 | none=>match q49 C (pv G S.env) S.blk o with
  | []=>exK tt G C false S o λ S'=>K S' g
  | i::l=>conj (frzN (i::l) S).1 (exK tt G C false (frzN (i::l) S).2 o λ S'=>K S' g)
def runE (tt:TT) (G:GV) (C:CV) (Y:Yp) (n:Nat) (ops:Array Oper):List Nat->PS->Nat × Bool->(PS->Nat × Bool->Prop)->Prop
 | [],S,g,K=>K S g
 | i::l,S,g,K=>match ops[i]? with
  | none=>False
  | some o=>match qo0 n o with
   | false=>False
   | true=>match o.guard with
    | none=>exE tt G C Y S g o λ S' g'=>runE tt G C Y n ops l S' g' K
    | some (j,want)=>match (ops[j]?).bind (·.dst) with
     | none=>False
     | some d=>match lk S.env d with
      | some (.bool b)=>bc b
        (match want with
         | true=>exE tt G C Y (S.with d (.bool true)) g o λ S' g'=>runE tt G C Y n ops l S' g' K
         | false=>runE tt G C Y n ops l ((S.with d (.bool true)).put o.dst (some (.tup []))) g K)
        (match want with
         | true=>runE tt G C Y n ops l ((S.with d (.bool false)).put o.dst (some (.tup []))) g K
         | false=>exE tt G C Y (S.with d (.bool false)) g o λ S' g'=>runE tt G C Y n ops l S' g' K)
      | some (.tup [])=>runE tt G C Y n ops l (S.put o.dst (some (.tup []))) g K
      | _=>False
def isYl (o:Oper):Bool:=match o.op with
 | .call c=>match c.callee with
  | .value (.tmp _)=>true
  | _=>false
 | _=>false
def yldAt (ops:Array Oper):Option Nat:=(List.range ops.size).find? λ i=>match ops[i]? with
 | some o=>isYl o
 | none=>false
def swY (tt:TT) (C:CV) (ops:Array Oper) (u:Nat) (a b:Oper):Bool:=match ops[u]? with
 | some o=>swE tt C ops a b && !decide (a.dst=o.dst) && !decide (b.dst=o.dst)
 | none=>false
def qz5 (C:CV) (ops:Array Oper):Option Nat:=match decide (3<=(ops.toList.filter (ciOp C)).length) with
 | true=>(List.range ops.size).reverse.find? λ i=>match ops[i]? with
  | some o=>ciOp C o
  | none=>false
 | false=>none
def tlAt (C:CV) (Y:Yp) (ops:Array Oper):Option Nat:=match Y.as with
 | []=>qz5 C ops
 | _::_=>yldAt ops
def yldS (tt:TT) (C:CV) (Y:Yp) (ops:Array Oper):Option Nat:=match tlAt C Y ops with
 | some u=>match qgc (swY tt C ops u) ops with
  | true=>some u
  | false=>none
 | none=>none
theorem qs8 {tt:TT} {C:CV} {Y:Yp} {ops:Array Oper} {u:Nat} (h:yldS tt C Y ops=some u):u<ops.size/\qgc (swY tt C ops u) ops=true:=by
 unfold yldS at h;split at h
 next u' hu=>
  split at h
  next hd=>
   cases h;refine ⟨?_,hd⟩;unfold tlAt at hu;split at hu
   ·unfold qz5 at hu;split at hu
    ·have:=List.mem_of_find?_eq_some hu;simpa using this
    ·cases hu
   ·have:=List.mem_of_find?_eq_some hu;simpa using this
  ·cases h
 ·cases h
def runU (tt:TT) (G:GV) (C:CV) (Y:Yp) (n:Nat) (ops:Array Oper) (u:Nat) (S:PS) (g:Nat × Bool) (K:PS->Nat × Bool->Prop):Prop:=match ops[u]? with
 | some o=>match qo0 n o&&o.guard.isNone with
  | true=>exE tt G C Y S g o K
  | false=>False
 | none=>False
def offR (rd:Rd) (p:Prop):Prop:=match rd with
 | .ready=>False
 | _=>p
def syE (tt:TT) (G:GV) (C:CV) (n:Nat) (Y:Yp) (K:AExit->Nat × Bool->PS->Prop) (R:List Item->Nat × Bool->PS->Prop):Rd->Nat->List Item->Nat × Bool->PS->Prop
 | rd,0,it,g,S=>offR rd (R it g S)
 | _,_+1,[],g,S=>K .normal g S
 | rd,_+1,.inLoop c::k,g,S=>offR rd (R (.code c::.inLoop c::k) g S)
 | rd,m+1,.inBlock _::k,g,S=>syE tt G C n Y K R rd m k g S
 | rd,m+1,.inScope _::k,g,S=>syE tt G C n Y K R rd m k g S
 | rd,m+1,.beginRound::k,g,S=>match rd with
  | .ready=>syE tt G C n Y K R .busy m k g S
  | _=>False
 | rd,m+1,.code c::k,g,S=>match c with
  | .skip=>syE tt G C n Y K R rd m k g S
  | .label _=>syE tt G C n Y K R rd m k g S
  | .seq a b=>syE tt G C n Y K R rd m (.code a::.code b::k) g S
  | .cond o a b=>match pv G S.env o with
   | some (.bool t)=>bc t (syE tt G C n Y K R rd m (.code a::k) g S) (syE tt G C n Y K R rd m (.code b::k) g S)
   | _=>False
  | .block id c=>syE tt G C n Y K R rd m (.code c::.inBlock id::k) g S
  | .scope c=>syE tt G C n Y K R rd m (.code c::.inScope c::k) g S
  | .loop c=>offR rd (R (.code c::.inLoop c::k) g S)
  | .exit id=>match exitTo id k with
   | some k'=>syE tt G C n Y K R rd m k' g S
   | none=>K (.exit id) g S
  | .goto l=>match gotoIn l k with
   | some k'=>syE tt G C n Y K R rd m k' g S
   | none=>K (.goto l) g S
  | .ret=>K .ret g S
  | .region _ ops false=>runE tt G C Y n ops (List.range ops.size) S g λ S' g'=>syE tt G C n Y K R rd m k g' S'
  | .region _ ops true=>match yldS tt C Y ops with
   | some u=>runO tt G C true n ops (List.range u) (loses C S ops) λ S'=>runU tt G C Y n ops u S' g λ S' g'=>runO tt G C true n ops (List.range' (u+1) (ops.size-(u+1))) S' λ S'=>syE tt G C n Y K R rd m k g' S'
   | none=>match qgc (swE tt C ops) ops with
    | true=>runO tt G C true n ops (List.range ops.size) (loses C S ops) λ S'=>syE tt G C n Y K R rd m k g S'
    | false=>False
  | .rangeFunc f ps a b=>offR rd (R (.code (.rangeFunc f ps a b)::k) g S)
  | _=>False
 | _,_+1,_,_,_=>False
def endK (tt:TT) (G:GV) (res:List ResultVar) (Q:List SV->List (Nat × LB)->Prop):AExit->Nat × Bool->PS->Prop
 | .normal,_,S=>match rsOf tt G S res with
  | some rs=>Q rs S.blk
  | none=>False
 | .ret,_,S=>match rsOf tt G S res with
  | some rs=>Q rs S.blk
  | none=>False
 | _,_,_=>False
def sy (tt:TT) (G:GV) (C:CV) (n:Nat) (res:List ResultVar) (Q:List SV->List (Nat × LB)->Prop) (R:List Item->PS->Prop) (m:Nat) (it:List Item) (S:PS):Prop:=
 syE tt G C n Y0 (endK tt G res Q) (λ it _ S=>R it S) .fn m it (0,false) S
def Good (P:Program) (tt:TT) (G:GV) (f:FuncId) (n:Nat) (res:List ResultVar) (Q:List SV->List (Nat × LB)->Prop) (it:List Item) (S:PS):Prop:=
 GoodE P G f n .fn Y0 (endK tt G res Q) it (0,false) S
section
variable {P:Program} {tt:TT} {G:GV} {C:CV} {f:FuncId} {n:Nat} {rd:Rd} {Y:Yp} {K:AExit->Nat × Bool->PS->Prop} {g:Nat × Bool} {res:List ResultVar} {Q:List SV->List (Nat × LB)->Prop}
theorem GoodE.any {it:List Item} {S:PS} (hy:Y.ys=[]) (hk:∀ e g g' S,K e g S->K e g' S) (h:GoodE P G f n rd Y K it g S) (g2:Nat × Bool):GoodE P G f n rd Y K it g2 S:=by
 intro base Yd J lr b cs M a w Z ν E H A B ds st;have hd':HdOK P base G Y Yd (λ _ _ A B H=>J g2.1 g2.2 A B H):=⟨λ i s A B H H' h1=>st.hd.stab _ _ A B H H' h1,λ i s A B H h1=>st.hd.dom _ _ A B H h1,λ i y A B H M w Z args args' c cs h1=>by rw[hy] at h1;simp at h1⟩;obtain ⟨e,g',S',M',a',w',Z',ν',E',H',A',B',ds',k0,x1,x2,x3⟩:=h base Yd (λ _ _ A B H=>J g2.1 g2.2 A B H) lr b cs M a w Z ν E H A B ds ⟨hd',st.j,st.dis,st.bz,st.yz,st.yn,st.yo,st.fr,st.lp,st.er,st.mark,st.mb,st.rel,st.pr,st.gz⟩;exact ⟨e,g2,S',M',a',w',Z',ν',E',H',A',B',ds',k0,hk _ _ _ _ x1,⟨st.hd,x2.j,x2.dis,x2.bz,x2.yz,x2.yn,x2.yo,x2.fr,x2.lp,x2.er,x2.mark,x2.mb,x2.rel,x2.pr,x2.gz⟩,x3⟩
theorem qf6 (e:AExit) (g g':Nat × Bool) (S:PS) (h:endK tt G res Q e g S):endK tt G res Q e g' S:=by
 cases e <;> exact h
def Reg (P:Program) (G:GV) (f:FuncId) (n:Nat) (rd:Rd) (Y:Yp) (ops:Array Oper) (l:List Nat) (g:Nat × Bool) (S:PS) (K':PS->Nat × Bool->Prop):Prop:=
 ∀ (base:Prot) (Yd:Nat->Prop) (J:Jt) (lr:LR) (b:Frame) (cs:List Frame) (M:Map) (a:Act) (w:World) (Z:Nat->Option ABlk) (ν:Nu) (E:T Value) (H:AHeap) (A B:Nat->Prop) (ds:List Nat) (k:List Item),
  OnW P G f n rd Y base Yd J lr b g S M a w Z ν E H A B ds->∃ g1 S1 M1 a1 w1 Z1 ν1 E1 H1 A1 B1,OnW P G f n rd Y base Yd J lr b g1 S1 M1 a1 w1 Z1 ν1 E1 H1 A1 B1 ds/\Ext M M1/\Below base w w1/\FCY (XL rd lr) Z ν S H A B Z1 ν1 S1 H1 A1 B1 /\
   Steps P (lone (Fr b a (.inRegion ops l::k)) cs w) (lone (Fr b a1 k) cs w1)/\K' S1 g1
theorem qw4 {ρ:Operand->Option SV} {o:Oper} {l:Nat} {as:List SV} (h:q0o ρ o=some (l,as)):∃ c fo,o.op=.call c/\c.callee=.value fo/\ρ fo=some (.yl l)/\qbb ρ c.args=some as:=by
 unfold q0o at h;split at h
 next c hop=>
  split at h
  next fo hcal=>
   split at h
   next l' hl=>
    split at h
    next as' has=>cases h;exact ⟨c,fo,hop,hcal,hl,has⟩
    ·cases h
   ·cases h
  ·cases h
 ·cases h
theorem VS.yl {Z:Nat->Option ABlk} {ν:Nu} {l:Nat} {v:Value} (h:VS Z ν (.yl l) v):v=.func (.yield l) #[] #[]:=by
 have:CR Z ν (.yl l) [v]:=h;simp only[CR] at this
 cases this;rfl
theorem q0c (hx:CxOK P tt G C) {ops:Array Oper} {i:Nat} {l:List Nat} {o:Oper} {S:PS} {K':PS->Nat × Bool->Prop} (ho:ops[i]?=some o) (hd:∀ d,o.dst=some d->d<n/\d<500000) (h:exK tt G C false S o λ S'=>Reg P G f n rd Y ops l g S' K')
  {base:Prot} {Yd:Nat->Prop} {J:Jt} {lr:LR} {b:Frame} (cs:List Frame) {M:Map} {a:Act} {w:World} {Z:Nat->Option ABlk} {ν:Nu} {E:T Value} {H:AHeap} {A B:Nat->Prop} {ds:List Nat} (k:List Item)
  (st:OnW P G f n rd Y base Yd J lr b g S M a w Z ν E H A B ds) (hw:qak ops o E=some true) :
  ∃ g1 S1 M1 a1 w1 Z1 ν1 E1 H1 A1 B1,OnW P G f n rd Y base Yd J lr b g1 S1 M1 a1 w1 Z1 ν1 E1 H1 A1 B1 ds/\Ext M M1/\Below base w w1/\FCY (XL rd lr) Z ν S H A B Z1 ν1 S1 H1 A1 B1 /\
   Steps P (lone (Fr b a (.inRegion ops (i::l)::k)) cs w) (lone (Fr b a1 k) cs w1)/\K' S1 g1:=by
 obtain ⟨S1,⟨cs1,h1,h1c⟩,_,h2⟩:=qsv h;obtain ⟨M1,Z1,ν1,E1,H1,a1,w1,x1,x2,x3,x4,x5,x6,x7,x8⟩:=qd7 hx (rest:=l) ho hd hw ⟨cs1,h1,h1c⟩ st.er st.rel st.pr st.gz b k cs;obtain ⟨g2,S2,M2,a2,w2,Z2,ν2,E2,H2,A2,B2,y1,y2,y3,y4,y5,y6⟩:=h2 base Yd J lr b cs M1 a1 w1 Z1 ν1 E1 H1 A B ds k (st.next x1 x2 x3 x4 x6 x7);exact ⟨g2,S2,M2,a2,w2,Z2,ν2,E2,H2,A2,B2,y1,x1.trans y2,x5.trans y3,(FCY.of x7).trans y4,x8.trans y5,y6⟩
theorem q16 {t e:TypeId} {xo yo:Operand} (h:qaa P (underlying t)=some (.slice e)) :
  aBin P .eql t xo yo (.slice none 0 0) (.slice none 0 0)=some (.bool true)/\∀ a n c,aBin P .eql t xo yo (.slice (some a) n c) (.slice none 0 0)=some (.bool false):=by
 constructor
 ·have e1:qaa P (eqGuard .eql t xo yo (.slice none 0 0) (.slice none 0 0))=some ():=by simp[eqGuard,qac]
  have e2:qaa P (binOp .eql t (.slice none 0 0) (.slice none 0 0))=some (.bool true):=by
   simp only[binOp];rw[qad];have:qaa P (Op.equal t (.slice none 0 0) (.slice none 0 0))=some true:=by
    have e:Op.equal t (.slice none 0 0) (.slice none 0 0)=Op.equalIn (9999+1) t (.slice none 0 0) (.slice none 0 0):=by unfold Op.equal Op.maxDepth;rfl
    rw[e,Op.equalIn,qad,h];rfl
   rw[this];rfl
  unfold aBin;rw[if_pos (by rfl),qad,e1,Option.bind_some,e2];rfl
 ·intro a n c;unfold aBin;rw[if_neg (by simp[Ax.flat]),h];rfl
theorem qvg {ρ:Operand->Option SV} {o:Oper} {d:Nat} {p:Prop} (h:nilC tt ρ o=some (d,p)):∃ t x y ty e et l,o.op=.binOp .eql t x y ty/\o.dst=some d/\kOf tt t=some (.slice et)/\ρ x=some (.sl e l)/\ρ y=some .nils/\p=(l=[]):=by
 unfold nilC at h;split at h
 next op t x y ty hop=>
  split at h
  next d' et hdst hk=>
   split at h
   next e l h1 h2=>cases h;exact ⟨t,x,y,ty,e,et,l,hop,hdst,hk,h1,h2,rfl⟩
   ·cases h
  ·cases h
 ·cases h
theorem q17 (hx:CxOK P tt G C) {ops:Array Oper} {i:Nat} {l:List Nat} {o:Oper} {S:PS} {d:Nat} {p:Prop} (hn:nilC tt (pv G S.env) o=some (d,p)) (ho:ops[i]?=some o) (hd:∀ d,o.dst=some d->d<n/\d<500000)
  {base:Prot} {M:Map} {a:Act} {w:World} {Z:Nat->Option ABlk} {ν:Nu} {E:T Value} {H:AHeap} (hw:qak ops o E=some true) (her:ER M n E a.tmps) (hrel:Rel base M H w) (hp:PR Z ν S E H) (hg:GZ Z G) (b:Frame) (k:List Item) (cs:List Frame) :
  ∃ r:Bool,(r=true->p)/\∃ M' E' H' a' w',Ext M M'/\ER M' n E' a'.tmps/\a'.defers=a.defers/\Rel base M' H' w'/\Below base w w'/\PR Z ν (S.with d (.bool r)) E' H'/\FC Z ν S H Z ν (S.with d (.bool r)) H' /\
   Steps P (lone (Fr b a (.inRegion ops (i::l)::k)) cs w) (lone (Fr b a' (.inRegion ops l::k)) cs w'):=by
 obtain ⟨t,x,y,ty,e,et,l0,hop,hdst,hk,h1,h2,rfl⟩:=qvg hn;have hρ:=qbr hp hg;obtain ⟨vx,hvx,hsx⟩:=hρ _ _ h1;obtain ⟨vy,hvy,hsy⟩:=hρ _ _ h2;have hy:vy=.slice none 0 0:=by
  have:CR Z ν .nils [vy]:=hsy;simp only[CR] at this
  cases this;rfl
 subst hy;have hu:qaa P (underlying t)=some (.slice et):=hx.ty.kind hk;obtain ⟨b1,b2⟩:=q16 (xo:=x) (yo:=y) hu;have hsl:SlR Z (RV Z e) e.size l0 vx:=by
  have:CR Z ν (.sl e l0) [vx]:=hsx;simp only[CR,RV] at this;obtain ⟨v,hv,hr⟩:=this
  cases hv;exact hr
 have key:∃ r:Bool,(r=true->l0=[])/\aBin P .eql t x y vx (.slice none 0 0)=some (.bool r):=by
  rcases hsl with ⟨hl,rfl | rfl⟩ | ⟨bb,off,cap,cs',et',k',rfl,_⟩
  ·exact ⟨true,λ _=>hl,b1⟩
  ·exact ⟨false,by simp,b2 _ _ _⟩
  ·exact ⟨false,by simp,b2 _ _ _⟩
 obtain ⟨r,hr,hb⟩:=key;have hF:∀ f,(λ f=>(lk C f).isSome) f=true->∀ args w,(callFunc f args).run P w=.ok (.enter f args) w:=by
  intro f hf;exact hx.enter f hf
 obtain ⟨E',hE⟩:∃ E',putE n (some d) (.bool r) E=some E':=⟨_,by simp only[putE];rw[if_pos (hd d hdst)]⟩;have hop2:aOp P (λ f=>(lk C f).isSome) (qcx E) H o=some (.val (.bool r),H):=by
  obtain ⟨dst,op,type,pos,after,guard⟩:=o;simp only at hop;subst hop;simp[aOp,hvx,hvy,hb]
 have hst:qbm P (λ f=>(lk C f).isSome) noEv n ops i (E,H)=some (E',H):=by
  simp[qbm,ho,qhm,hw,hop2,hdst,hE]
 obtain ⟨M',a',w',x1,x2,x3,x4,x5,x6⟩:=qa0 (base:=base) hF (λ r res h=>by cases h) (rest:=l) hst her hrel b k cs;exact ⟨r,hr,M',E',H,a',w',x1,x2,x3,x4,x5,hp.put hE VS.mkBool,FC.same λ _=>rfl,x6⟩
theorem qro (hx:CxOK P tt G C) {ops:Array Oper} {i:Nat} {l:List Nat} {o:Oper} {S:PS} {K':PS->Nat × Bool->Prop} (ho:ops[i]?=some o) (hd:∀ d,o.dst=some d->d<n/\d<500000) (h:exE tt G C Y S g o λ S' g'=>Reg P G f n rd Y ops l g' S' K')
  {base:Prot} {Yd:Nat->Prop} {J:Jt} {lr:LR} {b:Frame} (cs:List Frame) {M:Map} {a:Act} {w:World} {Z:Nat->Option ABlk} {ν:Nu} {E:T Value} {H:AHeap} {A B:Nat->Prop} {ds:List Nat} (k:List Item)
  (st:OnW P G f n rd Y base Yd J lr b g S M a w Z ν E H A B ds) (hw:qak ops o E=some true) :
  ∃ g1 S1 M1 a1 w1 Z1 ν1 E1 H1 A1 B1,OnW P G f n rd Y base Yd J lr b g1 S1 M1 a1 w1 Z1 ν1 E1 H1 A1 B1 ds/\Ext M M1/\Below base w w1/\FCY (XL rd lr) Z ν S H A B Z1 ν1 S1 H1 A1 B1 /\
   Steps P (lone (Fr b a (.inRegion ops (i::l)::k)) cs w) (lone (Fr b a1 k) cs w1)/\K' S1 g1:=by
 unfold exE at h;split at h
 next d0 p0 hnil=>obtain ⟨r,hr,M1,E1,H1,a1,w1,x1,x2,x3,x4,x5,x6,x7,x8⟩:=q17 hx (l:=l) hnil ho hd hw st.er st.rel st.pr st.gz b k cs;obtain ⟨g2,S2,M2,a2,w2,Z2,ν2,E2,H2,A2,B2,y1,y2,y3,y4,y5,y6⟩:=h r hr base Yd J lr b cs M1 a1 w1 Z ν E1 H1 A B ds k (st.next x1 x2 x3 x4 x6 x7);exact ⟨g2,S2,M2,a2,w2,Z2,ν2,E2,H2,A2,B2,y1,x1.trans y2,x5.trans y3,(FCY.of x7).trans y4,x8.trans y5,y6⟩
 split at h
 next d0 id0 s0 cs0 hful=>rw[qbn] at h;obtain ⟨hc,h1⟩:=h;obtain ⟨Z1,M1,E1,H1,a1,w1,x1,x2,x3,x4,x5,x6,_,x7,x8⟩:=q2p hx (l:=l) hful (λ c h=>hc c (List.mem_append_left _ h)) (λ c h=>hc c (List.mem_append_right _ h)) ho hd hw st.er st.rel st.pr st.gz b k cs;obtain ⟨g2,S2,M2,a2,w2,Z2,ν2,E2,H2,A2,B2,y1,y2,y3,y4,y5,y6⟩:=h1 base Yd J lr b cs M1 a1 w1 Z1 ν E1 H1 A B ds k (st.next x1 x2 x3 x4 x6 x7);exact ⟨g2,S2,M2,a2,w2,Z2,ν2,E2,H2,A2,B2,y1,x1.trans y2,x5.trans y3,(FCY.of x7).trans y4,x8.trans y5,y6⟩
 split at h
 next cs1 S1 hopx=>rw[qbn] at h;obtain ⟨hc,h1⟩:=h;obtain ⟨M1,Z1,ν1,E1,H1,a1,w1,x1,x2,x3,x4,x5,x6,x7,x8⟩:=qu6 hx (rest:=l) ho hd hw hopx hc st.er st.rel st.pr st.gz b k cs;obtain ⟨g2,S2,M2,a2,w2,Z2,ν2,E2,H2,A2,B2,y1,y2,y3,y4,y5,y6⟩:=h1 base Yd J lr b cs M1 a1 w1 Z1 ν1 E1 H1 A B ds k (st.next x1 x2 x3 x4 x6 x7);exact ⟨g2,S2,M2,a2,w2,Z2,ν2,E2,H2,A2,B2,y1,x1.trans y2,x5.trans y3,(FCY.of x7).trans y4,x8.trans y5,y6⟩
 split at h
 next l0 as hy=>
  split at h
  next d cs0 y hdst hrd=>
   split at h
   next hnw=>
    rw[qbn] at h;obtain ⟨hc,h1⟩:=h;have e1:l0=Y.l:=hc _ (List.mem_append_right _ (by simp));have e2:g.2=false:=hc _ (List.mem_append_right _ (by simp));have e3:Y.ys[g.1]?=some y:=hc _ (List.mem_append_right _ (by simp));subst e1;obtain ⟨c,fo,hop,hcal,hf,has⟩:=qw4 hy;have hρ:=qbr st.pr st.gz;obtain ⟨vf,hvf,hfs⟩:=hρ _ _ hf;rw[hfs.yl] at hvf;obtain ⟨vl,hvl,hls⟩:=qaw hρ has;have hF:∀ f,(λ f=>(lk C f).isSome) f=true->∀ args w,(callFunc f args).run P w=.ok (.enter f args) w:=by
     intro f hf;exact hx.enter f hf
    have hop2:aOp P (λ f=>(lk C f).isSome) (qcx E) H o=some (.yld Y.l (#[]++vl.toArray),H):=by
     obtain ⟨dst,op,type,pos,after,guard⟩:=o;simp only at hop;subst hop;simp[aOp,qh7,hcal,hvl,hvf,qjb]
    have hndf:=qck hop2;obtain ⟨bi,args',hbi,hva,hrel',hrun⟩:=qfs (P:=P) st.rel hF (qb4 st.er st.rel.glob) hop2;have hwr:=qci st.er hw;have hva0:VArgs Z Y.as y (#[]++vl.toArray).toList:=by
     have:=qeg (S:=⟨[],[]⟩) hrd hnw hls;simpa using this
    have hj:J g.1 false A B H:=by have:=st.j;rw[e2] at this;exact this
    obtain ⟨bi',hbi',M',H',w',A',B',r,v',fn,tmps,assign,body,q1,q2,q3,q4,q5,q6,q7,q8,q9,q10,q11⟩:=st.hd.yld g.1 y A B H M w Z _ args' (Fr b a (.inRegion ops (i::l)::k)) cs e3 hj st.rel hva0 st.pr.zh st.gz st.bz st.yz hva;rw[hbi] at hbi';cases hbi';have hdomA:=(st.hd.dom _ _ _ _ _ st.j).1;have hBA:=(st.hd.dom _ _ _ _ _ st.j).2;have hownlt:∀ c,Own ν S c->c<H.next:=λ c hc=>let ⟨y,g1,_⟩:=qhk st.pr hc;st.rel.dom _ _ g1
    have hp1:PR Z ν S E H':=st.pr.growI (B:=B) q9 (λ c ho hB=>st.dis c (hBA c hB) ho) st.bz;obtain ⟨E',hE⟩:∃ E',putE n (some d) (.bool r) E=some E':=⟨_,by simp only[putE];rw[if_pos (hd d hdst)]⟩;obtain ⟨z1,z2⟩:=qbs (st.er.mono q2) hE q3;have hp2:PR Z ν (S.with d (.bool r)) E' H':=hp1.put hE VS.mkBool;have st':OnW P G f n rd Y base Yd J lr b (g.1+1,!r) (S.with d (.bool r)) M' (a.put (some d) v') w' Z ν E' H' A' B' ds:=by
     refine ⟨st.hd,q7,λ c hA ho=>?_,λ c hB=>?_,st.yz,λ c hc=>st.yn c (Nat.le_trans q8 hc),st.yo,st.fr.mono q2,λ hr=>?_,z1,?_,λ c hc hB=>?_,q4,hp2,st.gz⟩
     ·rcases q11 c hA with k1 | k1 | k1
      ·exact st.dis c k1 ho
      ·have:=hownlt c ho;omega
      ·exact k1 (st.pr.zo c ho)
     ·rcases q10 c hB with k1 | k1
      ·exact st.bz c k1
      ·cases hz:Z c with
       | none=>rfl
       | some x=>have:=st.rel.dom _ _ (st.pr.zh c x hz).1;omega
     ·obtain ⟨g1,sl,g2,g3⟩:=st.lp hr;refine ⟨λ hA=>?_,sl,q9 _ _ g2 λ hB=>g1 (hBA _ hB),g3⟩;rcases q11 _ hA with k1 | k1 | k1
      ·exact g1 k1
      ·have:=st.rel.dom _ _ g2;omega
      ·obtain ⟨x,hx⟩:=Option.ne_none_iff_exists'.1 k1;obtain ⟨g4,g5⟩:=st.pr.zh _ x hx;rw[g2] at g4;cases g4;exact g5.elim
     ·refine ⟨by rw[z2];exact st.mark.1.mono q2,λ c hc=>q9 _ _ (st.mark.2.1 c hc) (λ hB=>st.mb c hc (hBA c hB)),st.mark.2.2⟩
     ·rcases q11 c hB with k1 | k1 | k1
      ·exact st.mb c hc k1
      ·have:=st.rel.dom _ _ (st.mark.2.1 c hc);omega
      ·obtain ⟨x,hx⟩:=Option.ne_none_iff_exists'.1 k1;obtain ⟨g1,g2⟩:=st.pr.zh c x hx;rw[st.mark.2.1 c hc] at g1;cases g1;exact g2.elim
    have hfc:FCY (XL rd lr) Z ν S H A B Z ν (S.with d (.bool r)) H' A' B':=⟨ZLe.refl _,λ _ h=>.inl h,q8,λ c x g1 _ _ g4 _=>q9 c x g1 g4,λ c hc=>.inl hc,q10,q11,λ id _ h=>⟨h,rfl⟩⟩;have hst:Steps P (lone (Fr b a (.inRegion ops (i::l)::k)) cs w) (lone (Fr b (a.put (some d) v') (.inRegion ops l::k)) cs w'):=by
     refine .head (qj7 ho hwr hndf (hrun.trans q1)) ?_;rw[Fr.finish,ho,Option.bind_some,hdst] at q6;exact q6
    obtain ⟨g2,S2,M2,a2,w2,Z2,ν2,E2,H2,A2,B2,y1,y2,y3,y4,y5,y6⟩:=h1 r base Yd J lr b cs M' _ w' Z ν E' H' A' B' ds k st';exact ⟨g2,S2,M2,a2,w2,Z2,ν2,E2,H2,A2,B2,y1,q2.trans y2,q5.trans y3,hfc.trans y4,hst.trans y5,y6⟩
   ·exact h.elim
  ·exact h.elim
 ·split at h
  ·exact q0c hx ho hd h cs k st hw
  ·rw[qbn] at h;obtain ⟨hc,h⟩:=h;obtain ⟨Z1,h1,h2,_⟩:=qgx _ st.pr hc;have st1:=st.next (Ext.refl M) st.er rfl st.rel h1 h2;obtain ⟨g2,S2,M2,a2,w2,Z2,ν2,E2,H2,A2,B2,y1,y2,y3,y4,y5,y6⟩:=q0c hx ho hd h cs k st1 hw;exact ⟨g2,S2,M2,a2,w2,Z2,ν2,E2,H2,A2,B2,y1,y2,y3,(FCY.of h2).trans y4,y5,y6⟩
theorem qrn {dr:Bool} {S:PS} {o:Oper} {K1 K2:PS->Prop} (hk:∀ S,K1 S->K2 S) (h:exK tt G C dr S o K1):exK tt G C dr S o K2:=by
 unfold exK at h |-;split at h
 ·split at h
  ·exact h.elim
  ·rw[ql6] at h |-;exact ⟨λ q=>hk _ (h.1 q),λ q=>hk _ (h.2 q)⟩
 ·split at h
  next cs S' he=>
   split at h
   ·rw[qbn] at h |-;exact ⟨h.1,hk _ h.2⟩
   ·exact h.elim
  ·exact h.elim
theorem qhx {S:PS} {o:Oper} {K1 K2:PS->Nat × Bool->Prop} (hk:∀ S g,K1 S g->K2 S g) (h:exE tt G C Y S g o K1):exE tt G C Y S g o K2:=by
 unfold exE at h |-;split at h
 ·exact λ r hr=>hk _ _ (h r hr)
 split at h
 ·rw[qbn] at h |-;exact ⟨h.1,hk _ _ h.2⟩
 split at h
 ·rw[qbn] at h |-;exact ⟨h.1,hk _ _ h.2⟩
 split at h
 ·split at h
  ·split at h
   ·rw[qbn] at h |-;exact ⟨h.1,λ r=>hk _ _ (h.2 r)⟩
   ·exact h.elim
  ·exact h.elim
 ·split at h
  ·exact qrn (λ S h=>hk S g h) h
  ·rw[qbn] at h |-;exact ⟨h.1,qrn (λ S h=>hk S g h) h.2⟩
theorem OnW.ext {base:Prot} {Yd:Nat->Prop} {J:Jt} {lr:LR} {b:Frame} {S S':PS} {M:Map} {a:Act} {w:World} {Z:Nat->Option ABlk} {ν:Nu} {E:T Value} {H:AHeap} {A B:Nat->Prop} {ds:List Nat} (st:OnW P G f n rd Y base Yd J lr b g S M a w Z ν E H A B ds)
  (he:∀ t,lk S'.env t=lk S.env t) (hb:∀ t,lk S'.blk t=lk S.blk t):OnW P G f n rd Y base Yd J lr b g S' M a w Z ν E H A B ds:=by
 have ho:∀ c,Own ν S' c->Own ν S c:=λ c ⟨id,lb,ni,h1,h2,h3⟩=>⟨id,lb,ni,by rw[<- hb];exact h1,h2,h3⟩
 exact ⟨st.hd,st.j,λ c hA h=>st.dis c hA (ho c h),st.bz,st.yz,st.yn,λ c h=>st.yo c (ho c h),st.fr,st.lp,st.er,st.mark,st.mb,st.rel,st.pr.ext he hb,st.gz⟩
theorem qfw (hx:CxOK P tt G C) {ops:Array Oper}:∀ (l:List Nat) {S:PS} {g:Nat × Bool} {K':PS->Nat × Bool->Prop},runE tt G C Y n ops l S g K'->Reg P G f n rd Y ops l g S K'
 | [],S,g,K',h=>λ base Yd J lr b cs M a w Z ν E H A B ds k st=>⟨g,S,M,a,w,Z,ν,E,H,A,B,st,Ext.refl M,Below.refl _ _,FCY.refl,.one qg7,h⟩
 | i::l,S,g,K',h=>by
  simp only[runE] at h;split at h
  ·exact h.elim
  next o ho=>
   split at h
   ·exact h.elim
   next hd=>
    have hd:=qeq hd;intro base Yd J lr b cs M a w Z ν E H A B ds k st;split at h
    next hg=>exact qro hx ho hd (qhx (λ S' g' h'=>qfw hx l h') h) cs k st (by simp[qak,hg])
    next j want hg=>
     split at h
     ·exact h.elim
     next d hj=>
      split at h
      next bb hb=>
       rw[ql6] at h;obtain ⟨ht,hf⟩:=h;have hget:E.get d=some (.bool bb):=by
        obtain ⟨v,h1,h2⟩:=st.pr.env d _ hb;rw[h2.bool] at h1;exact h1
       have hw:qak ops o E=some (some bb == some want):=by simp[qak,hg,qi6,hj,hget]
       have hsame:∀ t,lk (S.with d (.bool bb)).env t=lk S.env t:=by
        intro t;simp only[PS.with,qan];split
        next e=>subst e;exact hb.symm
        ·rfl
       have go:exE tt G C Y (S.with d (.bool bb)) g o (λ S' g'=>runE tt G C Y n ops l S' g' K')->bb=want->∃ g1 S1 M1 a1 w1 Z1 ν1 E1 H1 A1 B1,OnW P G f n rd Y base Yd J lr b g1 S1 M1 a1 w1 Z1 ν1 E1 H1 A1 B1 ds/\Ext M M1/\Below base w w1/\FCY (XL rd lr) Z ν S H A B Z1 ν1 S1 H1 A1 B1 /\
         Steps P (lone (Fr b a (.inRegion ops (i::l)::k)) cs w) (lone (Fr b a1 k) cs w1)/\K' S1 g1:=by
        intro h0 e;subst e;obtain ⟨g2,S2,M2,a2,w2,Z2,ν2,E2,H2,A2,B2,y1,y2,y3,y4,y5⟩:=qro hx ho hd (qhx (λ S' g' h'=>qfw hx l h') h0) cs k (st.ext hsame λ _=>rfl) (by rw[hw];simp);exact ⟨g2,S2,M2,a2,w2,Z2,ν2,E2,H2,A2,B2,y1,y2,y3,⟨y4.z,y4.zn,y4.le,y4.old,y4.own,y4.bb,y4.aa,y4.big⟩,y5⟩
       have skip:runE tt G C Y n ops l ((S.with d (.bool bb)).put o.dst (some (.tup []))) g K'->bb=(!want)->∃ g1 S1 M1 a1 w1 Z1 ν1 E1 H1 A1 B1,OnW P G f n rd Y base Yd J lr b g1 S1 M1 a1 w1 Z1 ν1 E1 H1 A1 B1 ds/\Ext M M1/\Below base w w1/\FCY (XL rd lr) Z ν S H A B Z1 ν1 S1 H1 A1 B1 /\
         Steps P (lone (Fr b a (.inRegion ops (i::l)::k)) cs w) (lone (Fr b a1 k) cs w1)/\K' S1 g1:=by
        intro h0 e;subst e;have hs:StpI tt G C ops n i S ((S.with d (.bool (!want))).put o.dst (some (.tup []))):=⟨o,ho,hd,.inr (.inl ⟨j,want,d,!want,hg,hj,hb,.inr ⟨rfl,_,.inr rfl,rfl⟩⟩)⟩;obtain ⟨M1,Z1,ν1,E1,H1,a1,w1,x1,x2,x3,x4,x5,x6,x7,x8⟩:=qqr hx (rest:=l) hs st.er st.rel st.pr st.gz b k cs;obtain ⟨g2,S2,M2,a2,w2,Z2,ν2,E2,H2,A2,B2,y1,y2,y3,y4,y5,y6⟩:=qfw hx l h0 base Yd J lr b cs M1 a1 w1 Z1 ν1 E1 H1 A B ds k (st.next x1 x2 x3 x4 x6 x7);exact ⟨g2,S2,M2,a2,w2,Z2,ν2,E2,H2,A2,B2,y1,x1.trans y2,x5.trans y3,(FCY.of x7).trans y4,x8.trans y5,y6⟩
       cases bb with
       | true=>
        have ht:=ht rfl
        cases want with
        | true=>exact go ht rfl
        | false=>exact skip ht rfl
       | false=>
        have hf:=hf rfl
        cases want with
        | true=>exact skip hf rfl
        | false=>exact go hf rfl
      next hb=>have hs:StpI tt G C ops n i S (S.put o.dst (some (.tup []))):=⟨o,ho,hd,.inr (.inr ⟨j,want,d,hg,hj,hb,rfl⟩)⟩;obtain ⟨M1,Z1,ν1,E1,H1,a1,w1,x1,x2,x3,x4,x5,x6,x7,x8⟩:=qqr hx (rest:=l) hs st.er st.rel st.pr st.gz b k cs;obtain ⟨g2,S2,M2,a2,w2,Z2,ν2,E2,H2,A2,B2,y1,y2,y3,y4,y5,y6⟩:=qfw hx l h base Yd J lr b cs M1 a1 w1 Z1 ν1 E1 H1 A B ds k (st.next x1 x2 x3 x4 x6 x7);exact ⟨g2,S2,M2,a2,w2,Z2,ν2,E2,H2,A2,B2,y1,x1.trans y2,x5.trans y3,(FCY.of x7).trans y4,x8.trans y5,y6⟩
      ·exact h.elim
theorem qmk (hx:CxOK P tt G C) {ops:Array Oper} {rest:List Nat}:∀ (l:List Nat) {base:Prot} {M:Map} {Z:Nat->Option ABlk} {ν:Nu} {S S':PS} {E:T Value} {H:AHeap} {a:Act} {w:World},Runs (StpE tt G C ops n) l S S'->ER M n E a.tmps->Rel base M H w->PR Z ν S E H->GZ Z G->∀ (b:Frame) (k:List Item) (cs:List Frame),
  ∃ M' Z' ν' E' H' a' w',Ext M M'/\ER M' n E' a'.tmps/\a'.defers=a.defers/\Rel base M' H' w'/\Below base w w'/\PR Z' ν' S' E' H'/\FC Z ν S H Z' ν' S' H'/\Steps P (lone (Fr b a (.inRegion ops (l++rest)::k)) cs w) (lone (Fr b a' (.inRegion ops rest::k)) cs w')
 | [],base,M,Z,ν,S,S',E,H,a,w,h,her,hrel,hp,hg,b,k,cs=>by
  cases h;exact ⟨M,Z,ν,E,H,a,w,Ext.refl M,her,rfl,hrel,Below.refl _ _,hp,FC.refl _ _ _ _,.refl _ _⟩
 | i::l,base,M,Z,ν,S,S',E,H,a,w,⟨S1,h1,h2⟩,her,hrel,hp,hg,b,k,cs=>by
  obtain ⟨M1,Z1,ν1,E1,H1,a1,w1,x1,x2,x3,x4,x5,x6,x7,x8⟩:=qqq hx (rest:=l++rest) h1 her hrel hp hg b k cs;obtain ⟨M2,Z2,ν2,E2,H2,a2,w2,y1,y2,y3,y4,y5,y6,y7,y8⟩:=qmk hx l h2 x2 x4 x6 (hg.mono x7.z) b k cs;exact ⟨M2,Z2,ν2,E2,H2,a2,w2,x1.trans y1,y2,y3.trans x3,y4,x5.trans y5,y6,x7.trans y7,x8.trans y8⟩
def StpW (tt:TT) (G:GV) (C:CV) (ops:Array Oper) (n u i:Nat) (x y:PS × Bool):Prop:=
 (i<u/\x.2=false/\y.2=false/\StpE tt G C ops n i x.1 y.1)\/(i=u/\x.2=false/\y.1=x.1/\y.2=true)\/(u<i/\x.2=true/\y.1=x.1/\y.2=true)
def StpV (tt:TT) (G:GV) (C:CV) (ops:Array Oper) (n u i:Nat) (x y:PS):Prop:=
 (i<=u/\y=x)\/(u<i/\StpE tt G C ops n i x y)
def EqY (x y:PS × Bool):Prop:=Eqv x.1 y.1/\x.2=y.2
theorem qzr {ops:Array Oper} {u i j:Nat} {oi oj:Oper} (hi:ops[i]?=some oi) (hj:ops[j]?=some oj) (h:swY tt C ops u oj oi=true):swE tt C ops oj oi=true/\i≠u/\j≠u:=by
 unfold swY at h;split at h
 next o ho=>
  simp only[Bool.and_eq_true,Bool.not_eq_true',decide_eq_false_iff_not] at h;obtain ⟨⟨h1,h2⟩,h3⟩:=h;refine ⟨h1,λ e=>?_,λ e=>?_⟩
  ·subst e;rw[hi] at ho;cases ho;exact h3 rfl
  ·subst e;rw[hj] at ho;cases ho;exact h2 rfl
 ·cases h
theorem qzp (ht:TTOK P tt) {ops:Array Oper} (u:Nat):Sw ops (StpW tt G C ops n u) EqY (swY tt C ops u):=by
 have h:=qqo (G:=G) (C:=C) (n:=n) (ops:=ops) ht;refine ⟨λ x=>⟨h.refl _,rfl⟩,λ x y z h1 h2=>⟨h.trans _ _ _ h1.1 h2.1,h1.2.trans h2.2⟩,?_,?_⟩
 ·rintro i ⟨S,t⟩ ⟨S',t'⟩ ⟨S1,t1⟩ ⟨he,et⟩ hs;simp only at he et;subst et;rcases hs with ⟨h1,h2,h3,h4⟩ | ⟨h1,h2,h3,h4⟩ | ⟨h1,h2,h3,h4⟩
  ·obtain ⟨y',k1,k2⟩:=h.cong i S S' S1 he h4;exact ⟨(y',false),.inl ⟨h1,h2,rfl,k1⟩,k2,h3⟩
  ·simp only at h3 h4;subst h3;exact ⟨(S',true),.inr (.inl ⟨h1,h2,rfl,rfl⟩),he,h4⟩
  ·simp only at h3 h4;subst h3;exact ⟨(S',true),.inr (.inr ⟨h1,h2,rfl,rfl⟩),he,h4⟩
 ·rintro i j oi oj ⟨S,t⟩ ⟨S1,t1⟩ ⟨S2,t2⟩ hi hj hs h1 h2;obtain ⟨q1,q2,q3⟩:=qzr hi hj hs;rcases h1 with ⟨a1,a2,a3,a4⟩ | ⟨a1,_⟩ | ⟨a1,a2,a3,a4⟩
  ·rcases h2 with ⟨b1,b2,b3,b4⟩ | ⟨b1,_⟩ | ⟨b1,b2,_⟩
   ·obtain ⟨x3,x4,k1,k2,k3⟩:=h.swap i j oi oj S S1 S2 hi hj q1 a4 b4;exact ⟨(x3,false),(x4,false),.inl ⟨b1,a2,rfl,k1⟩,.inl ⟨a1,rfl,rfl,k2⟩,k3,b3⟩
   ·exact absurd b1 q2
   ·simp only at a3 b2;rw[a3] at b2;cases b2
  ·exact absurd a1 q3
  ·rcases h2 with ⟨b1,b2,b3,b4⟩ | ⟨b1,_⟩ | ⟨b1,b2,b3,b4⟩
   ·simp only at a4 b2;rw[a4] at b2;cases b2
   ·exact absurd b1 q2
   ·simp only at a2 a3 a4 b3 b4;subst a3;subst b3;exact ⟨(_,true),(_,true),.inr (.inr ⟨b1,a2,rfl,rfl⟩),.inr (.inr ⟨a1,rfl,rfl,rfl⟩),h.refl _,b4⟩
theorem qzq (ht:TTOK P tt) {ops:Array Oper} (u:Nat):Sw ops (StpV tt G C ops n u) Eqv (swY tt C ops u):=by
 have h:=qqo (G:=G) (C:=C) (n:=n) (ops:=ops) ht;refine ⟨h.refl,h.trans,?_,?_⟩
 ·rintro i S S' S1 he (⟨h1,h2⟩ | ⟨h1,h2⟩)
  ·subst h2;exact ⟨S',.inl ⟨h1,rfl⟩,he⟩
  ·obtain ⟨y',k1,k2⟩:=h.cong i S S' S1 he h2;exact ⟨y',.inr ⟨h1,k1⟩,k2⟩
 ·rintro i j oi oj S S1 S2 hi hj hs h1 h2;obtain ⟨q1,q2,q3⟩:=qzr hi hj hs;rcases h1 with ⟨a1,a2⟩ | ⟨a1,a2⟩
  ·subst a2;exact ⟨S2,S2,h2,.inl ⟨a1,rfl⟩,h.refl _⟩
  ·rcases h2 with ⟨b1,b2⟩ | ⟨b1,b2⟩
   ·subst b2;exact ⟨S,S2,.inl ⟨b1,rfl⟩,.inr ⟨a1,a2⟩,h.refl _⟩
   ·obtain ⟨x3,x4,k1,k2,k3⟩:=h.swap i j oi oj S S1 S2 hi hj q1 a2 b2;exact ⟨x3,x4,.inr ⟨b1,k1⟩,.inr ⟨a1,k2⟩,k3⟩
theorem qln {ops:Array Oper} {u:Nat}:∀ (l:List Nat) {x y:PS × Bool},x.2=true->Runs (StpW tt G C ops n u) l x y->y.1=x.1/\∀ i∈l,u<i
 | [],x,y,_,h=>by cases h;exact ⟨rfl,by simp⟩
 | i::l,x,y,hx,⟨z,h1,h2⟩=>by
  rcases h1 with ⟨_,a2,_⟩ | ⟨_,a2,_⟩ | ⟨a1,a2,a3,a4⟩
  ·rw[hx] at a2;cases a2
  ·rw[hx] at a2;cases a2
  ·obtain ⟨b1,b2⟩:=qln l a4 h2;exact ⟨b1.trans a3,λ k hk=>(List.mem_cons.1 hk).elim (λ e=>e ▸ a1) (b2 k)⟩
theorem qgp {ops:Array Oper} {u:Nat}:∀ (l:List Nat) {S:PS} {y:PS × Bool},y.2=true->Runs (StpW tt G C ops n u) l (S,false) y->∃ l1 l2,l=l1++u::l2/\(∀ i∈l1,i<=u)/\(∀ i∈l2,u<i)/\Runs (StpE tt G C ops n) l1 S y.1
 | [],S,y,hy,h=>by cases h;cases hy
 | i::l,S,y,hy,⟨⟨S1,t1⟩,h1,h2⟩=>by
  rcases h1 with ⟨a1,_,a3,a4⟩ | ⟨a1,_,a3,a4⟩ | ⟨_,a2,_⟩
  ·simp only at a3 a4;subst a3;obtain ⟨l1,l2,b1,b2,b3,b4⟩:=qgp l hy h2;exact ⟨i::l1,l2,by rw[b1];rfl,λ k hk=>(List.mem_cons.1 hk).elim (λ e=>by omega) (b2 k),b3,S1,a4,b4⟩
  ·simp only at a3 a4;subst a1;subst a3;subst a4;obtain ⟨b1,b2⟩:=qln l rfl h2;exact ⟨[],l,rfl,by simp,b2,b1.symm⟩
  ·cases a2
theorem qml {ops:Array Oper} {u:Nat}:∀ (l:List Nat) {S S':PS},(∀ i∈l,i<u)->Runs (StpE tt G C ops n) l S S'->Runs (StpW tt G C ops n u) l (S,false) (S',false)
 | [],S,S',_,h=>by cases h;rfl
 | i::l,S,S',hl,⟨S1,h1,h2⟩=>⟨(S1,false),.inl ⟨hl i (by simp),rfl,rfl,h1⟩,qml l (λ j hj=>hl j (by simp[hj])) h2⟩
theorem qj9 {ops:Array Oper} {u:Nat}:∀ (l:List Nat) {S:PS},(∀ i∈l,u<i)->Runs (StpW tt G C ops n u) l (S,true) (S,true)
 | [],S,_=>rfl
 | i::l,S,hl=>⟨(S,true),.inr (.inr ⟨hl i (by simp),rfl,rfl,rfl⟩),qj9 l (λ j hj=>hl j (by simp[hj]))⟩
theorem qe5 {ops:Array Oper} {u:Nat}:∀ (l:List Nat) {x y:PS},(∀ i∈l,i<=u)->(Runs (StpV tt G C ops n u) l x y↔y=x)
 | [],x,y,_=>⟨λ h=>h.symm,λ h=>h.symm⟩
 | i::l,x,y,hl=>by
  have hi:=hl i (by simp);have ih:∀ {x:PS},(Runs (StpV tt G C ops n u) l x y↔y=x):=fun {x}=>qe5 l (x:=x) (y:=y) (λ j hj=>hl j (by simp[hj]))
  constructor
  ·rintro ⟨z,⟨_,h1⟩ | ⟨h1,_⟩,h2⟩
   ·subst h1;exact ih.1 h2
   ·omega
  ·intro h;exact ⟨x,.inl ⟨hi,rfl⟩,ih.2 h⟩
theorem qd0 {ops:Array Oper} {u:Nat}:∀ (l:List Nat) {x y:PS},(∀ i∈l,u<i)->(Runs (StpV tt G C ops n u) l x y↔Runs (StpE tt G C ops n) l x y)
 | [],x,y,_=>Iff.rfl
 | i::l,x,y,hl=>by
  have hi:=hl i (by simp);have ih:∀ {x:PS},(Runs (StpV tt G C ops n u) l x y↔Runs (StpE tt G C ops n) l x y):=fun {x}=>qd0 l (x:=x) (y:=y) (λ j hj=>hl j (by simp[hj]))
  constructor
  ·rintro ⟨z,⟨h1,_⟩ | ⟨_,h1⟩,h2⟩
   ·omega
   ·exact ⟨z,h1,ih.1 h2⟩
  ·rintro ⟨z,h1,h2⟩;exact ⟨z,.inr ⟨hi,h1⟩,ih.2 h2⟩
theorem qn2 {ops:Array Oper} {u:Nat} {S:PS} {K1 K2:PS->Nat × Bool->Prop} (hk:∀ S g,K1 S g->K2 S g) (h:runU tt G C Y n ops u S g K1):runU tt G C Y n ops u S g K2:=by
 unfold runU at h |-;split at h
 ·split at h
  ·exact qhx hk h
  ·exact h.elim
 ·exact h.elim
theorem GoodE.drawY (hx:CxOK P tt G C) {id u:Nat} {ops:Array Oper} {k:List Item} {S S1 S2:PS} {K':PS->Nat × Bool->Prop} (hd:qgc (swY tt C ops u) ops=true) (hu:u<ops.size) (hr:Runs (StpE tt G C ops n) (List.range u) S S1) (he:Eqv S1 S2)
  (h:runU tt G C Y n ops u S2 g λ S' g'=>∃ S3 S4,Runs (StpE tt G C ops n) (List.range' (u+1) (ops.size-(u+1))) S' S3/\Eqv S3 S4/\K' S4 g') (hk:∀ S' g',K' S' g'->GoodE P G f n rd Y K k g' S'):GoodE P G f n rd Y K (.code (.region id ops true)::k) g S:=by
 refine .on (k:=k) λ base Yd J lr b cs M a w Z ν E H A B ds st=>?_
 have e0:List.range ops.size=List.range u++(u::List.range' (u+1) (ops.size-(u+1))):=by
  have q:=List.range'_append_1 (s:=0) (m:=u) (n:=ops.size-u);rw[Nat.zero_add,show u+(ops.size-u)=ops.size by omega] at q;rw[List.range_eq_range',List.range_eq_range',<- q,show ops.size-u=(ops.size-(u+1))+1 by omega,List.range'_succ]
 have hm1:∀ i∈List.range u,i<u:=λ i hi=>by simpa using hi
 have hm2:∀ i∈List.range' (u+1) (ops.size-(u+1)),u<i:=λ i hi=>by have:=List.mem_range'_1.1 hi;omega
 have hrun:Runs (StpW tt G C ops n u) (List.range ops.size) (S,false) (S1,true):=by
  rw[e0,Runs.append];exact ⟨(S1,false),qml _ hm1 hr,(S1,true),.inr (.inl ⟨rfl,rfl,rfl,rfl⟩),qj9 _ hm2⟩
 obtain ⟨⟨S3,t3⟩,hr2,he2,ht⟩:=qa9 hx.mix (qzp (G:=G) (C:=C) (n:=n) hx.ty u) (w.tape w.drawn (.order b.fn id)) hd hrun;simp only at he2 ht;obtain ⟨l1,l2,e1,c1,c2,hr3⟩:=qgp _ ht.symm hr2;simp only at hr3;obtain ⟨M1,Z1,ν1,E1,H1,a1,w1,y1,y2,y3,y4,y5,y6,y7,y8⟩:=qmk hx (rest:=u::l2) l1 hr3 st.er (st.rel.of_heap (w':={ w with drawn:=w.drawn+1 }) rfl) st.pr st.gz b k cs;have he3:Eqv S2 S3:=he.symm.trans he2;have y7':=y7.eqv he3.symm;have hb1:Below base w w1:=(show Below base w { w with drawn:=w.drawn+1 } from ⟨rfl,rfl,rfl,Nat.le_refl _,λ _ _=>rfl⟩).trans y5;have hreg:Reg P G f n rd Y ops (u::l2) g S2 K':=by
  have hl2:∀ (S':PS) (g':Nat × Bool),(∃ S3 S4,Runs (StpE tt G C ops n) (List.range' (u+1) (ops.size-(u+1))) S' S3/\Eqv S3 S4/\K' S4 g')->Reg P G f n rd Y ops l2 g' S' K':=by
   rintro S' g' ⟨S5,S6,k1,k2,k3⟩;have hv:Runs (StpV tt G C ops n u) (List.range ops.size) S' S5:=by
    rw[e0,Runs.append];exact ⟨S',(qe5 _ λ i hi=>Nat.le_of_lt (hm1 i hi)).2 rfl,S',.inl ⟨Nat.le_refl _,rfl⟩,(qd0 _ hm2).2 k1⟩
   obtain ⟨S7,hv2,he5⟩:=qa9 hx.mix (qzq (G:=G) (C:=C) (n:=n) hx.ty u) (w.tape w.drawn (.order b.fn id)) hd hv;rw[e1,Runs.append] at hv2;obtain ⟨z,v1,z2,v2,v3⟩:=hv2;have v1:=(qe5 l1 c1).1 v1;subst v1;have v2:z2=z:=v2.elim (λ q=>q.2) (λ q=>by have:=q.1;omega);subst v2;have v3:=(qd0 l2 c2).1 v3;intro base' Yd' J' lr' b' cs' M' a' w' Z' ν' E' H' A' B' ds' k' st';obtain ⟨M2,Z2,ν2,E2,H2,a2,w2,x1,x2,x3,x4,x5,x6,x7,x8⟩:=qhb hx l2 v3 st'.er st'.rel st'.pr st'.gz b' k' cs';have he6:Eqv S6 S7:=k2.symm.trans he5;have x7':=x7.eqv he6.symm;exact ⟨g',S6,M2,a2,w2,Z2,ν2,E2,H2,A',B',st'.next x1 x2 x3 x4 (x6.eqv he6.symm) x7',x1,x5,.of x7',x8,k3⟩
  unfold runU at h;split at h
  next o ho=>
   split at h
   next hdg=>
    simp only[Bool.and_eq_true] at hdg;intro base' Yd' J' lr' b' cs' M' a' w' Z' ν' E' H' A' B' ds' k' st';have hgn:o.guard=none:=by
     cases hg:o.guard with
     | none=>rfl
     | some q=>rw[hg] at hdg;cases hdg.2
    exact qro hx ho (qeq (by simp[hdg.1])) (qhx (λ S' g' h'=>hl2 S' g' h') h) cs' k' st' (by simp[qak,hgn])
   ·exact h.elim
  ·exact h.elim
 obtain ⟨g1,S4,M4,a4,w4,Z4,ν4,E4,H4,A4,B4,z1,z2,z3,z4,z5,z6⟩:=hreg base Yd J lr b cs M1 a1 w1 Z1 ν1 E1 H1 A B ds k (st.next y1 y2 y3 y4 (y6.eqv he3.symm) y7');refine ⟨g1,S4,M4,a4,w4,Z4,ν4,E4,H4,A4,B4,ds,z1,y1.trans z2,hb1.trans z3,(FCY.of y7').trans z4,λ _ h=>.inl h,λ _=>rfl,.head qcq ?_,hk _ _ z6⟩;rw[e1];exact y8.trans z5
theorem qyr (hx:CxOK P tt G C) {id u:Nat} {ops:Array Oper} {k:List Item} {S:PS} (hlt:u<ops.size) (hd:qgc (swY tt C ops u) ops=true) {K':PS->Nat × Bool->Prop} (h:runO tt G C true n ops (List.range u) (loses C S ops) λ S'=>runU tt G C Y n ops u S' g λ S' g'=>runO tt G C true n ops (List.range' (u+1) (ops.size-(u+1))) S' λ S'=>K' S' g') (hk:∀ S' g',K' S' g'->GoodE P G f n rd Y K k g' S'):GoodE P G f n rd Y K (.code (.region id ops true)::k) g S:=by
 obtain ⟨S',S'',h1,h2,h3⟩:=qbg hx.ty _ (Eqv.refl _) h;refine GoodE.less (qjr C S ops) (λ t s h=>h) (GoodE.drawY hx hd hlt h1 h2 (qn2 (λ S g h=>?_) h3) hk);obtain ⟨T',T'',k1,k2,k3⟩:=qbg hx.ty _ (Eqv.refl _) h;exact ⟨T'',T',k1,k2,k3⟩
theorem GoodE.regionE (hx:CxOK P tt G C) {id:Nat} {ops:Array Oper} {k:List Item} {S:PS} {K':PS->Nat × Bool->Prop} (h:runE tt G C Y n ops (List.range ops.size) S g K') (hk:∀ S' g',K' S' g'->GoodE P G f n rd Y K k g' S'):GoodE P G f n rd Y K (.code (.region id ops false)::k) g S:=by
 refine .on (k:=k) λ base Yd J lr b cs M a w Z ν E H A B ds st=>?_
 obtain ⟨g1,S1,M1,a1,w1,Z1,ν1,E1,H1,A1,B1,y1,y2,y3,y4,y5,y6⟩:=qfw (rd:=rd) hx _ h base Yd J lr b cs M a w Z ν E H A B ds k st;exact ⟨g1,S1,M1,a1,w1,Z1,ν1,E1,H1,A1,B1,ds,y1,y2,y3,y4,λ _ h=>.inl h,λ _=>rfl,.head qnv y5,hk _ _ y6⟩
theorem GoodE.begin {k:List Item} {S:PS} (h:GoodE P G f n .busy Y K k g S):GoodE P G f n .ready Y K (.beginRound::k) g S:=by
 intro base Yd J lr b cs M a w Z ν E H A B ds st;obtain ⟨hB,sl,hget,hst⟩:=st.lp (by simp);obtain ⟨bl,hbl,hrd⟩:=st.fr.2.2;obtain ⟨hbb,L',hcell,q1,q2,q3,q4,q5,q6,q7,bq,q8,q9⟩:=st.rel.blk _ _ _ hbl hget;have hlt:=st.rel.lt _ _ _ hbl hget;have hbr:=run_beginRound (P:=P) hcell (by rw[q1];exact hst rfl);have ht:=qca w bl.real (.loop { L' with state:=.busy });have hrel2:=st.rel.put (y:=.loop { lr.L with state:=.busy } lr.E lr.n) hbl hget rfl rfl (Nat.zero_le _) ht.size ht.other ⟨hbb,{ L' with state:=.busy },qc9 _ hlt,rfl,q2,q3,q4,q5,q6,q7,bq,q8,q9⟩;have hoth:∀ c,c≠lr.l->(H.put lr.l (.loop { lr.L with state:=.busy } lr.E lr.n)).t.get c=H.t.get c:=λ c hc=>AHeap.get_put_other hc
 have hnZ:Z lr.l=none:=by
  cases hz:Z lr.l with
  | none=>rfl
  | some x=>obtain ⟨g1,g2⟩:=st.pr.zh _ x hz;rw[hget] at g1;cases g1;exact g2.elim
 have hnO:∀ c,Own ν S c->c≠lr.l:=by
  rintro c ho rfl;obtain ⟨y,g1,g2⟩:=qhk st.pr ho;rw[hget] at g1;cases g1;rcases g2 with g2 | ⟨es,g2⟩ | ⟨_,_,g2⟩
  ·exact g2
  ·cases g2
  ·cases g2
 have hp2:PR Z ν S E (H.put lr.l (.loop { lr.L with state:=.busy } lr.E lr.n)):=st.pr.growI (B:=λ c=>c=lr.l) (λ c y hy hc=>by rw[hoth c hc];exact hy) hnO (λ c hc=>by rw[hc];exact hnZ);have st':OnW P G f n .busy Y base Yd J lr b g S M a _ Z ν E (H.put lr.l (.loop { lr.L with state:=.busy } lr.E lr.n)) A B ds:=
  ⟨st.hd,st.hd.stab _ _ _ _ _ _ st.j (λ c y hA hy=>by rw[hoth c (by rintro rfl;exact hB hA)];exact hy) (Nat.le_refl _),st.dis,st.bz,st.yz,st.yn,st.yo,st.fr,λ _=>⟨hB,_,AHeap.get_put (Nat.zero_le _),λ h=>by cases h⟩,st.er,
   ⟨st.mark.1,λ c hc=>by rw[hoth c (by rintro rfl;have:=st.mark.2.1 _ hc;rw[hget] at this;cases this)];exact st.mark.2.1 c hc,st.mark.2.2⟩,st.mb,hrel2,hp2,st.gz⟩
 obtain ⟨e,g',S',M',a',w',Z',ν',E',H',A',B',ds',k0,x1,x2,x3,x4,x5,x6,x7,x8,x9⟩:=h base Yd J lr b cs M a _ Z ν E _ A B ds st';refine ⟨e,g',S',M',a',w',Z',ν',E',H',A',B',ds',k0,x1,x2,x3,(ht.below hbb).trans x4,⟨x5.z,x5.zn,x5.le,λ c y g1 g2 g3 g4 g5=>?_,x5.own,x5.bb,x5.aa,x5.big⟩,x6,λ _=>x7 (by simp),.head (qmh hrd hbr) x8,x9⟩;have hc:c≠lr.l:=λ hc=>g5 ⟨by simp,hc⟩
 exact x5.old c y (by rw[hoth c hc];exact g1) g2 g3 g4 λ h=>hc h.2
theorem qt0 (hx:CxOK P tt G C) {R:List Item->Nat × Bool->PS->Prop} (hR:∀ it g S,R it g S->GoodE P G f n rd.out Y K it g S):∀ (m:Nat) (rd':Rd) (it:List Item) (g:Nat × Bool) (S:PS),rd'.out=rd.out->syE tt G C n Y K R rd' m it g S->GoodE P G f n rd' Y K it g S:=by
 intro m
 induction m with
 | zero=>
  intro rd' it g S hrd h;have h:offR rd' (R it g S):=by simpa only[syE] using h
  cases rd' with
  | ready=>exact h.elim
  | fn=>have:=hR _ _ _ h;rw[<- hrd] at this;exact this
  | busy=>have:=hR _ _ _ h;rw[<- hrd] at this;exact this
 | succ m ih=>
  intro rd' it g S hrd h;have hRR:∀ {it:List Item} {g:Nat × Bool} {S:PS},offR rd' (R it g S)->GoodE P G f n rd' Y K it g S:=by
   intro it g S h
   cases rd' with
   | ready=>exact h.elim
   | fn=>have:=hR _ _ _ h;rw[<- hrd] at this;exact this
   | busy=>have:=hR _ _ _ h;rw[<- hrd] at this;exact this
  match it with
  | []=>exact .fin (e:=.normal) h rfl
  | .inLoop c::k=>exact .step (λ _ _ _ _=>qnw) (hRR h)
  | .inBlock id::k=>exact .step (λ _ _ _ _=>qlm) (ih _ _ _ _ hrd h)
  | .inScope c::k=>exact .step (λ _ _ _ _=>qll) (ih _ _ _ _ hrd h)
  | .beginRound::k=>
   cases rd' with
   | ready=>exact .begin (ih _ _ _ _ hrd h)
   | fn=>exact h.elim
   | busy=>exact h.elim
  | .code c::k=>
   cases c with
   | skip=>exact .step (λ _ _ _ _=>qt3) (ih _ _ _ _ hrd h)
   | label l=>exact .step (λ _ _ _ _=>qqt) (ih _ _ _ _ hrd h)
   | seq a b=>exact .step (λ _ _ _ _=>qzs) (ih _ _ _ _ hrd h)
   | cond o a b=>
    simp only[syE] at h;split at h
    next t ht=>rw[ql6] at h;exact .cond ht (λ e=>ih _ _ _ _ hrd (h.1 e)) (λ e=>ih _ _ _ _ hrd (h.2 e))
    ·exact h.elim
   | block id c=>exact .step (λ _ _ _ _=>qqu) (ih _ _ _ _ hrd h)
   | scope c=>exact .step (λ _ _ _ _=>qqs) (ih _ _ _ _ hrd h)
   | loop c=>exact .step (λ _ _ _ _=>qt4) (hRR h)
   | exit id=>
    simp only[syE] at h;split at h
    next k' hk=>exact .step (λ _ _ _ _=>qt6 hk) (ih _ _ _ _ hrd h)
    next hk=>exact .fin (e:=.exit id) h ⟨k,rfl,hk⟩
   | goto l=>
    simp only[syE] at h;split at h
    next k' hk=>exact .step (λ _ _ _ _=>qt5 hk) (ih _ _ _ _ hrd h)
    next hk=>exact .fin (e:=.goto l) h ⟨k,rfl,hk⟩
   | ret=>exact .fin (e:=.ret) h ⟨k,rfl⟩
   | region id ops draw=>
    cases draw with
    | false=>
     simp only[syE] at h;exact .regionE hx h λ S' g' h'=>ih _ _ _ _ hrd h'
    | true=>
     simp only[syE] at h;split at h
     next u hu=>obtain ⟨hu,hd⟩:=qs8 hu;exact qyr hx hu hd h λ S' g' hS=>ih _ _ _ _ hrd hS
     ·split at h
      next hd=>exact q2x hx hd h λ S' hS=>ih _ _ _ _ hrd hS
      ·exact h.elim
   | rangeFunc f ps a b=>exact hRR h
   | refuse w=>exact h.elim
  | .inRegion _ _::k=>exact h.elim
  | .inRangeFunc _::k=>exact h.elim
  | .endRangeFunc _::k=>exact h.elim
  | .call _ _ _ _::k=>exact h.elim
  | .extern _ _::k=>exact h.elim
theorem qnt (hx:CxOK P tt G C) {R:List Item->PS->Prop} (hR:∀ it S,R it S->Good P tt G f n res Q it S) (m:Nat) (it:List Item) (S:PS) (h:sy tt G C n res Q R m it S):Good P tt G f n res Q it S:=
 qt0 (rd:=.fn) hx (R:=λ it _ S=>R it S) (λ it g S h=>(hR it S h).any rfl (λ e g g' S h=>qf6 e g g' S h) g) m .fn it (0,false) S rfl h
theorem qxb (hx:CxOK P tt G C):∀ (m:Nat) (it:List Item) (S:PS),sy tt G C n res Q (Good P tt G f n res Q) m it S->Good P tt G f n res Q it S:=qnt hx λ _ _ h=>h
theorem Good.less {it:List Item} {S S':PS} (he:∀ t s,lk S'.env t=some s->lk S.env t=some s) (hb:∀ t s,lk S'.blk t=some s->lk S.blk t=some s) (h:Good P tt G f n res Q it S'):Good P tt G f n res Q it S:=GoodE.less he hb h
def qar (l b:List Nat) (S:PS):PS:=⟨S.env.filter λ p=>l.contains p.1,S.blk.filter λ p=>b.contains p.1⟩
theorem qd5 {α:Type} {p:Nat->Bool} {i:Nat} {x:α}:∀ {l:List (Nat × α)},lk (l.filter λ q=>p q.1) i=some x->lk l i=some x
 | [],h=>by simp[lk] at h
 | (a,y)::l,h=>by
  simp only[lk]
  cases hp:p a with
  | true=>
   simp only[List.filter_cons,hp,if_true,lk] at h;split at h
   next e=>rw[if_pos e];exact h
   next e=>rw[if_neg e];exact qd5 h
  | false=>
   simp only[List.filter_cons,hp,Bool.false_eq_true,if_false] at h;split
   next e=>
    subst e;exfalso;have:∀ {l:List (Nat × α)},lk (l.filter λ q=>p q.1) a=some x->False:=by
     intro l
     induction l with
     | nil=>intro h;simp[lk] at h
     | cons q l ih=>
      obtain ⟨c,z⟩:=q;intro h
      cases hc:p c with
      | true=>
       simp only[List.filter_cons,hc,if_true,lk] at h;split at h
       next e=>subst e;rw[hp] at hc;cases hc
       ·exact ih h
      | false=>
       simp only[List.filter_cons,hc,Bool.false_eq_true,if_false] at h;exact ih h
    exact this h
   ·exact qd5 h
theorem Good.keep {l b:List Nat} {it:List Item} {S:PS} (h:Good P tt G f n res Q it (qar l b S)):Good P tt G f n res Q it S:=
 Good.less (λ _ _ e=>qd5 (p:=λ i=>l.contains i) e) (λ _ _ e=>qd5 (p:=λ i=>b.contains i) e) h
end
section
variable {P:Program} {tt:TT} {G:GV} {f:FuncId} {n:Nat} {res:List ResultVar} {Q:List SV->List (Nat × LB)->Prop}
theorem qlk:∀ (ds:List Nat) (H:AHeap),(∀ d∈ds,H.t.get d=some (.deferred true))->ds.Nodup->∃ H2,qj2 H ds=some H2/\H2.next=H.next/\∀ b,b ∉ ds->H2.t.get b=H.t.get b
 | [],H,_,_=>⟨H,rfl,rfl,λ _ _=>rfl⟩
 | d::ds,H,h,hn=>by
  simp only[List.nodup_cons] at hn;have hd:=h d (by simp)
  obtain ⟨H2,h1,h2,h3⟩:=qlk ds (H.put d (.deferred false)) (λ c hc=>by
   rw[AHeap.get_put_other (by rintro rfl;exact hn.1 hc)]
   exact h c (by simp[hc])) hn.2
  refine ⟨H2,?_,h2,λ b hb=>?_⟩
  ·simp only[qj2,hd];rw[if_pos (Nat.zero_le _)];exact h1
  ·simp only[List.mem_cons,not_or] at hb;rw[h3 b hb.2,AHeap.get_put_other hb.1]
theorem Hd0 {base:Prot} {G:GV} {Yd:Nat->Prop}:HdOK P base G Y0 Yd (λ _ _ A B _=>(∀ b,¬ A b)/\∀ b,¬ B b):=
 ⟨λ _ _ _ _ _ _ h _ _=>h,λ _ _ _ _ _ h=>⟨λ b hb=>absurd hb (h.1 b),λ b hb=>absurd hb (h.2 b)⟩,λ i y A B H M w Z args args' c cs h=>by
  have h:([]:List (DL Y0.as))[i]?=some y:=h
  rw[List.getElem?_nil] at h;cases h⟩
theorem Good.ends {it:List Item} {S:PS} (h:Good P tt G f n res Q it S) {base:Prot} {M:Map} {b:Frame} {a:Act} {cs:List Frame} {w:World} {Z:Nat->Option ABlk} {ν:Nu} {E:T Value} {H:AHeap} (hfr:FrOK M ⟨f,none,n⟩ b) (her:ER M n E a.tmps) (hdf:a.defers=[]) (hrel:Rel base M H w) (hp:PR Z ν S E H) (hg:GZ Z G) :
  ∃ rs S' M' Z' ν' E' H' a' w' k0,rsOf tt G S' res=some rs/\Q rs S'.blk/\Ext M M'/\ER M' n E' a'.tmps/\a'.defers=[]/\Rel base M' H' w'/\Below base w w'/\PR Z' ν' S' E' H'/\FC Z ν S H Z' ν' S' H' /\
   Steps P (lone (Fr b a it) cs w) (lone { Fr b a' k0 with mode:=.returning } cs w'):=by
 have st:OnW P G f n .fn Y0 base (λ _=>True) (λ _ _ A B _=>(∀ b,¬ A b)/\∀ b,¬ B b) ⟨0,default,.nil,0⟩ b (0,false) S M a w Z ν E H (λ _=>False) (λ _=>False) []:=
  ⟨Hd0,⟨λ _ h=>h,λ _ h=>h⟩,λ _ h=>h.elim,λ _ h=>h.elim,λ _ _=>trivial,λ _ _=>trivial,λ _ _=>trivial,hfr,λ h=>absurd rfl h,her,⟨by rw[hdf];rfl,by simp,by simp⟩,by simp,hrel,hp,hg⟩
 obtain ⟨e,g',S',M',a',w',Z',ν',E',H',A',B',ds',k0,x1,x2,x3,x4,x5,x6,_,x7,x8⟩:=h base _ _ ⟨0,default,.nil,0⟩ b cs M a w Z ν E H _ _ [] st;have hend:(∃ rs,rsOf tt G S' res=some rs/\Q rs S'.blk)/\(k0=[]\/∃ k1,k0=.code .ret::k1):=by
  cases e with
  | normal=>
   simp only[endK] at x1;split at x1
   next rs hrs=>exact ⟨⟨rs,hrs,x1⟩,.inl x8⟩
   ·exact x1.elim
  | ret=>
   simp only[endK] at x1;split at x1
   next rs hrs=>exact ⟨⟨rs,hrs,x1⟩,.inr x8⟩
   ·exact x1.elim
  | exit id=>exact x1.elim
  | goto l=>exact x1.elim
 obtain ⟨⟨rs,hrs,hq⟩,hk0⟩:=hend;have hrd:b.roundOf=none:=hfr.2.2;have hret:∃ k1,Steps P (lone (Fr b a it) cs w) (lone { Fr b a' k1 with mode:=.returning } cs w'):=by
  rcases hk0 with rfl | ⟨k1,rfl⟩
  ·exact ⟨[],Steps.trans x7 (.one (q4l hrd))⟩
  ·exact ⟨.code .ret::k1,x7.trans (.one (q4k hrd))⟩
 obtain ⟨k1,hret⟩:=hret;obtain ⟨m1,m2,m3⟩:=x2.mark;obtain ⟨H2,t1,t2,t3⟩:=qlk ds' H' m2 m3;obtain ⟨w2,r1,r2,r3⟩:=qg5 (P:=P) (b:=b) (k:=k1) (cs:=cs) ds' H' H2 a' w' t1 m1 x2.rel;have hnew:∀ d∈ds',H.next<=d:=λ d hd=>(x6 d hd).resolve_left (by simp)
 have hp2:PR Z' ν' S' E' H2:=x2.pr.growI (B:=λ c=>c∈ds') (λ c y hy hc=>by rw[t3 c hc];exact hy) (λ c ho hc=>by
  obtain ⟨y,g1,g2⟩:=qhk x2.pr ho;rw[m2 c hc] at g1;cases g1;rcases g2 with g2 | ⟨es,g2⟩ | ⟨_,_,g2⟩
  ·exact g2
  ·cases g2
  ·cases g2) (λ c hc=>by
  cases hz:Z' c with
  | none=>rfl
  | some y=>
   obtain ⟨g1,g2⟩:=x2.pr.zh c y hz
   rw[m2 c hc] at g1;cases g1;exact g2.elim)
 refine ⟨rs,S',M',Z',ν',E',H2,{ a' with defers:=[] },w2,k1,hrs,hq,x3,x2.er,rfl,r1,x4.trans r2,hp2,⟨x5.z,x5.zn,by rw[t2];exact x5.le,λ c y hy hlt ho=>?_,x5.own,x5.big⟩,hret.trans r3⟩;rw[t3 c λ hc=>by have:=hnew c hc;omega];exact x5.old c y hy hlt ho (λ h=>h.elim) λ h=>h.1 rfl
end
def qv3:Nat->(as:List Sh)->DL as->List (Nat × SV)
 | _,[],_=>[]
 | k,σ::as,x=>(k,ofD σ x.1)::qv3 (k+1) as x.2
def entry (as:List Sh) (x:DL as):PS:=⟨qv3 0 as x,[]⟩
mutual
def Mt (π:Nat->Option Nat):SV->SV->Prop
 | .win r e id lo n,s=>(∃ r' id',s=.win r' e id' lo n/\π id=some id'/\(r=true->r'=true))\/(s=.nils/\π id=none/\lo=0/\n=0)
 | .agg l,s=>∃ m,s=.agg m/\MtL π l m
 | .nils,s=>s=.nils
 | .dead,s=>s=.dead
 | .int k n,s=>s=.int k n
 | .bool b,s=>s=.bool b
 | .str l,s=>s=.str l
 | .sl e l,s=>s=.sl e l\/(s=.nils/\l=[])
 | .arr n e l,s=>s=.arr n e l
 | .ptr id off,s=>∃ id',s=.ptr id' off/\π id=some id'
 | .mp id,s=>∃ id',s=.mp id'/\π id=some id'
 | .yl l,s=>s=.yl l
 | .nilm,s=>s=.nilm
 | .nilp,s=>s=.nilp
 | .ifc t g l,s=>∃ m,s=.ifc t g m/\MtL π l m
 | .pta n l j q,s=>∃ m,s=.pta n l j m/\MtL π q m
 | .elp _ _ _ _,_=>False
 | .aep _ _ _ _ _,_=>False
 | .elv σ x,s=>s=.elv σ x
 | .tup _,_=>False
 | .fn f a c,s=>∃ a' c',s=.fn f a' c'/\MtL π a a'/\MtL π c c'
def MtL (π:Nat->Option Nat):List SV->List SV->Prop
 | [],m=>m=[]
 | s::l,m=>∃ t r,m=t::r/\Mt π s t/\MtL π l r
end
def MtR (π:Nat->Option Nat) (blk:List (Nat × LB)):Nat->List LB->Prop
 | _,[]=>True
 | i,lb::l=>((∃ id,π i=some id/\lk blk id=some lb)\/(π i=none/\∃ et e,lb=.row et e []/\0<e.size))/\MtR π blk (i+1) l
def QC (ct:Ctr) (x:DL ct.args) (rs:List SV) (blk:List (Nat × LB)):Prop:=
 ∃ π:Nat->Option Nat,MtL π (ct.out x) rs/\MtR π blk 0 (ct.rows x)/\(∀ i j a,π i=some a->π j=some a->i=j)/\(ct.rows x).all isRow=true
section
variable {P:Program} {tt:TT} {G:GV} {C:CV} {Z:Nat->Option ABlk} {ν:Nu} {S:PS} {E:T Value} {H:AHeap}
theorem qcl:∀ (vs:List Value) (k:Nat) (E:T Value) (t:Nat),k+vs.length<1000->(qda k vs E).get t=if k<=t/\t<k+vs.length then vs[t-k]? else E.get t
 | [],k,E,t,_=>by simp only[qda,List.length_nil];rw[if_neg (by omega)]
 | v::vs,k,E,t,h=>by
  simp only[List.length_cons] at h;simp only[qda];rw[qcl vs (k+1) _ t (by omega)];by_cases h1:t=k
  ·subst h1;rw[if_neg (by omega),if_pos (by simp),T.get_set_same 20 _ _ _ (by omega)];simp
  ·by_cases h2:k+1<=t/\t<k+1+vs.length
   ·rw[if_pos h2,if_pos (by simp only[List.length_cons];omega)];rw[show t-k=(t-(k+1))+1 by omega,List.getElem?_cons_succ]
   ·rw[if_neg h2,T.get_set_other _ _ _ _ _ h1,if_neg (by simp only[List.length_cons];omega)]
theorem qoy:∀ (as:List Sh) (x:DL as) (k:Nat) {vs:List Value} {t:Nat} {s:SV},VArgs Z as x vs->lk (qv3 k as x) t=some s->k<=t/\∃ v,vs[t-k]?=some v/\VS Z ν s v
 | [],x,k,vs,t,s,h,e=>by simp[qv3,lk] at e
 | σ::as,x,k,vs,t,s,⟨v,w,hv,h1,h2⟩,e=>by
  subst hv;simp only[qv3,lk] at e;split at e
  next hk=>subst hk;cases e;exact ⟨Nat.le_refl _,v,by simp,h1 ν⟩
  ·obtain ⟨h3,v',h4,h5⟩:=qoy as x.2 (k+1) h2 e;exact ⟨by omega,v',by rw[show t-k=(t-(k+1))+1 by omega,List.getElem?_cons_succ];exact h4,h5⟩
theorem VArgs.length:∀ {as:List Sh} {x:DL as} {vs:List Value},VArgs Z as x vs->vs.length=as.length
 | [],_,_,h=>by simp only[VArgs] at h;subst h;rfl
 | _::_,_,_,⟨v,w,e,_,h2⟩=>by subst e;simp[VArgs.length h2]
mutual
theorem CR.mt {π:Nat->Option Nat}:∀ (s t:SV) (vs:List Value),Mt π s t->CR Z ν t vs->CR Z (λ i=>(π i).bind ν) s vs
 | .win r e id lo n,t,vs,m,h=>by
  simp only[Mt] at m;rcases m with ⟨r',id',rfl,hp,hr⟩ | ⟨rfl,hp,rfl,rfl⟩
  ·simp only[CR,WinR,hp,Option.bind_some] at h |-;obtain ⟨v,rfl,h⟩:=h;refine ⟨v,rfl,?_⟩
   cases hn:ν id' with
   | none=>
    rw[hn] at h;simp only at h |-;obtain ⟨h1,h2,h3⟩:=h;refine ⟨h1,h2,?_⟩;rcases h3 with h3 | ⟨h3,h4⟩
    ·exact .inl h3
    ·cases r with
     | true=>rw[hr rfl] at h3;cases h3
     | false=>exact .inr ⟨rfl,h4⟩
   | some ni=>
    rw[hn] at h;simp only at h |-;rcases h with ⟨h1,h2⟩ | h
    ·cases r with
     | true=>rw[hr rfl] at h1;cases h1
     | false=>exact .inl ⟨rfl,h2⟩
    ·exact .inr h
  ·simp only[CR] at h;subst h;simp only[CR,WinR,hp,Option.bind_none];exact ⟨_,rfl,trivial,trivial,.inl rfl⟩
 | .agg l,t,vs,m,h=>by
  simp only[Mt] at m;obtain ⟨m',rfl,m⟩:=m;simp only[CR] at h |-;exact CRL.mt l m' vs m h
 | .nils,t,vs,m,h=>by simp only[Mt] at m;subst m;exact h
 | .dead,t,vs,m,h=>by simp only[Mt] at m;subst m;exact h
 | .int k n,t,vs,m,h=>by simp only[Mt] at m;subst m;exact h
 | .bool b,t,vs,m,h=>by simp only[Mt] at m;subst m;exact h
 | .str l,t,vs,m,h=>by simp only[Mt] at m;subst m;exact h
 | .sl e l,t,vs,m,h=>by
  simp only[Mt] at m;rcases m with rfl | ⟨rfl,rfl⟩
  ·exact h
  ·simp only[CR] at h;subst h;simp only[CR,RV];exact ⟨_,rfl,.inl ⟨rfl,.inl rfl⟩⟩
 | .arr n e l,t,vs,m,h=>by simp only[Mt] at m;subst m;exact h
 | .elv σ x,t,vs,m,h=>by simp only[Mt] at m;subst m;exact h
 | .ptr id off,t,vs,m,h=>by
  simp only[Mt] at m;obtain ⟨id',rfl,hp⟩:=m;simp only[CR] at h |-;obtain ⟨ni,h1,h2⟩:=h;exact ⟨ni,by rw[hp];exact h1,h2⟩
 | .mp id,t,vs,m,h=>by
  simp only[Mt] at m;obtain ⟨id',rfl,hp⟩:=m;simp only[CR] at h |-;obtain ⟨ni,h1,h2⟩:=h;exact ⟨ni,by rw[hp];exact h1,h2⟩
 | .yl l,t,vs,m,h=>by simp only[Mt] at m;subst m;exact h
 | .nilm,t,vs,m,h=>by simp only[Mt] at m;subst m;exact h
 | .nilp,t,vs,m,h=>by simp only[Mt] at m;subst m;exact h
 | .ifc t0 g l,t,vs,m,h=>by
  simp only[Mt] at m;obtain ⟨m',rfl,m⟩:=m;simp only[CR] at h |-;obtain ⟨us,v,h1,h2,h3⟩:=h;exact ⟨us,v,CRL.mt l m' us m h1,h2,h3⟩
 | .pta _ _ _ l,t,vs,m,h=>by
  simp only[Mt] at m;obtain ⟨m',rfl,m⟩:=m;simp only[CR] at h |-;obtain ⟨us,v,h1,h2⟩:=h;exact ⟨us,v,CRL.mt l m' us m h1,h2⟩
 | .elp _ _ _ _,_,_,m,_=>by simp only[Mt] at m
 | .aep _ _ _ _ _,_,_,m,_=>by simp only[Mt] at m
 | .tup _,_,_,m,_=>by simp only[Mt] at m
 | .fn f a c,t,vs,m,h=>by
  simp only[Mt] at m;obtain ⟨a',c',rfl,m1,m2⟩:=m;simp only[CR] at h |-;obtain ⟨va,vc,h1,h2,h3⟩:=h;exact ⟨va,vc,h1,CRO.mt a a' va m1 h2,CRO.mt c c' vc m2 h3⟩
theorem CRL.mt {π:Nat->Option Nat}:∀ (l m:List SV) (vs:List Value),MtL π l m->CRL Z ν m vs->CRL Z (λ i=>(π i).bind ν) l vs
 | [],m,vs,e,h=>by simp only[MtL] at e;subst e;exact h
 | s::l,m,vs,e,h=>by
  simp only[MtL] at e;obtain ⟨t,r,rfl,h1,h2⟩:=e;simp only[CRL] at h |-;obtain ⟨u,w,e,h3,h4⟩:=h;exact ⟨u,w,e,CR.mt s t u h1 h3,CRL.mt l r w h2 h4⟩
theorem CRO.mt {π:Nat->Option Nat}:∀ (l m:List SV) (vs:List Value),MtL π l m->CRO Z ν m vs->CRO Z (λ i=>(π i).bind ν) l vs
 | [],m,vs,e,h=>by simp only[MtL] at e;subst e;exact h
 | s::l,m,vs,e,h=>by
  simp only[MtL] at e;obtain ⟨t,r,rfl,h1,h2⟩:=e;simp only[CRO] at h |-;obtain ⟨u,w,e,h3,h4⟩:=h;exact ⟨u,w,e,CR.mt s t [u] h1 h3,CRO.mt l r w h2 h4⟩
end
theorem V1.mt {π:Nat->Option Nat} {s t:SV} {v:Value} (m:Mt π s t) (h:V1 Z ν t v):V1 Z (λ i=>(π i).bind ν) s v:=by
 cases s with
 | agg l=>
  simp only[Mt] at m;obtain ⟨m',rfl,m⟩:=m;obtain ⟨vs,e,h⟩:=h;exact ⟨vs,e,CRL.mt l m' vs m h⟩
 | arr n e l=>simp only[Mt] at m;subst m;exact h
 | win r e id lo n=>
  have ht:CR Z ν t [v]:=by
   have m':=m;simp only[Mt] at m';rcases m' with ⟨r',id',rfl,_⟩ | ⟨rfl,_⟩ <;> exact h
  exact CR.mt _ _ _ m ht
 | sl e l=>
  have ht:CR Z ν t [v]:=by
   have m':=m;simp only[Mt] at m';rcases m' with rfl | ⟨rfl,_⟩ <;> exact h
  exact CR.mt _ _ _ m ht
 | ptr id off=>
  have ht:CR Z ν t [v]:=by
   have m':=m;simp only[Mt] at m';obtain ⟨id',rfl,_⟩:=m';exact h
  exact CR.mt _ _ _ m ht
 | mp id=>
  have ht:CR Z ν t [v]:=by
   have m':=m;simp only[Mt] at m';obtain ⟨id',rfl,_⟩:=m';exact h
  exact CR.mt _ _ _ m ht
 | yl l=>simp only[Mt] at m;subst m;exact h
 | nilm=>simp only[Mt] at m;subst m;exact h
 | nilp=>simp only[Mt] at m;subst m;exact h
 | ifc t0 g l=>
  have ht:CR Z ν t [v]:=by
   have m':=m;simp only[Mt] at m';obtain ⟨l',rfl,_⟩:=m';exact h
  exact CR.mt _ _ _ m ht
 | pta n l0 j l=>
  have ht:CR Z ν t [v]:=by
   have m':=m;simp only[Mt] at m';obtain ⟨l',rfl,_⟩:=m';exact h
  exact CR.mt _ _ _ m ht
 | fn f a c=>
  have ht:CR Z ν t [v]:=by
   have m':=m;simp only[Mt] at m';obtain ⟨a',c',rfl,_,_⟩:=m';exact h
  exact CR.mt _ _ _ m ht
 | nils=>simp only[Mt] at m;subst m;exact h
 | dead=>simp only[Mt] at m;subst m;exact h
 | int k n=>simp only[Mt] at m;subst m;exact h
 | bool b=>simp only[Mt] at m;subst m;exact h
 | str l=>simp only[Mt] at m;subst m;exact h
 | elv σ x=>simp only[Mt] at m;subst m;exact h
 | _=>simp only[Mt] at m
theorem Mt.notup {π:Nat->Option Nat} {s t:SV} (m:Mt π s t):∀ l,t≠.tup l:=by
 rintro l rfl
 cases s <;> simp[Mt] at m
theorem V1L.mt {π:Nat->Option Nat}:∀ {l m:List SV} {vs:List Value},MtL π l m->VSL Z ν m vs->V1L Z (λ i=>(π i).bind ν) l vs
 | [],m,vs,e,h=>by simp only[MtL] at e;subst e;exact h
 | s::l,m,vs,e,h=>by
  simp only[MtL] at e;obtain ⟨t,r,rfl,h1,h2⟩:=e;simp only[VSL] at h;obtain ⟨v,w,e,h3,h4⟩:=h;exact ⟨v,w,e,(h3.v1 h1.notup).mt h1,V1L.mt h2 h4⟩
theorem MtR.get {π:Nat->Option Nat} {blk:List (Nat × LB)}:∀ {rows:List LB} {k:Nat},MtR π blk k rows->∀ i lb,rows[i]?=some lb->(∃ id,π (k+i)=some id/\lk blk id=some lb)\/(π (k+i)=none/\∃ et e,lb=.row et e []/\0<e.size)
 | [],_,_,i,lb,h=>by simp at h
 | a::rows,k,m,i,lb,h=>by
  simp only[MtR] at m
  cases i with
  | zero=>simp at h;subst h;exact m.1
  | succ i=>
   have:=m.2.get i lb (by simpa using h);rw[show k+(i+1)=k+1+i by omega];exact this
theorem qfx (ht:TTOK P tt) (hp:PR Z ν S E H) (hg:GZ Z G):∀ {res:List ResultVar} {rs:List SV},rsOf tt G S res=some rs->∃ vs,qbw (res.map (qka P E H))=some vs/\VSL Z ν rs vs
 | [],rs,h=>by simp only[rsOf,Option.some.injEq] at h;subst h;exact ⟨[],rfl,rfl⟩
 | .tmp t::l,rs,h=>by
  simp only[rsOf] at h;split at h
  next s r h1 h2=>cases h;obtain ⟨v,hv,hs⟩:=hp.env t s h1;obtain ⟨vs,h3,h4⟩:=qfx ht hp hg h2;exact ⟨v::vs,by simp[qbw,qka,hv,h3],v,vs,rfl,hs,h4⟩
  ·cases h
 | .cell x t::l,rs,h=>by
  simp only[rsOf] at h;split at h
  next s r h1 h2=>
   cases h;have hlk:∃ p,pv G S.env (.tmp x)=some p:=by
    cases hq:pv G S.env (.tmp x) with
    | none=>simp only[pR,hq] at h1;simp at h1
    | some p=>exact ⟨p,rfl⟩
   obtain ⟨p,hq⟩:=hlk;obtain ⟨v,hv,hs⟩:=qbr hp hg _ _ hq
   obtain ⟨y, hy, hys⟩ := qf2 ht hp (o := ⟨none, .load t (.tmp x), 0, "", #[], none⟩) rfl hq hs h1 (by simp)
   obtain ⟨vs,h3,h4⟩:=qfx ht hp hg h2;simp only[qcx] at hv;exact ⟨y::vs,by simp[qbw,qka,hv,hy,h3],y,vs,rfl,hys,h4⟩
  ·cases h
theorem Held.of (hx:CxOK P tt G C) {f:FuncId} {fn:Func} {c:Code} {ct:Ctr} (hf:P.funcs[f]?=some fn) (hb:fn.body=some c) (hn:ct.args.length<=fn.ntmps/\ct.args.length<1000)
  (h:∀ x,ct.pre x->Good P tt G f fn.ntmps fn.results.toList (QC ct x) [.code c] (entry ct.args x)):Held P G f ct:=by
 intro x hpre base M args args' w cs Z H hva hzh hg hargs hrel;have hlen:args.size=ct.args.length:=by have:=hva.length;simpa using this
 let fb:Frame:={ (default:Frame) with fn:=f,kind:=.normal }
 have hal:=(VRA.iff.1 hargs).length;simp only[Array.length_toList] at hal
 let a0:Act:={ tmps:=args'++Array.replicate (fn.ntmps-args'.size) undef,defers:=[] }
 have henter:Frame.enter P f args' .normal=Fr fb a0 [.code c]:=by
  simp[Frame.enter,Fr,fb,a0,hf,hb];rfl
 have hfr:FrOK M ⟨f,none,fn.ntmps⟩ fb:=⟨rfl,rfl,rfl⟩;have her:ER M fn.ntmps (qda 0 args.toList .nil) a0.tmps:=qrs hargs (by omega) (by omega);have hp:PR Z (λ _=>none) (entry ct.args x) (qda 0 args.toList .nil) H:=by
  refine ⟨λ t s e=>?_,λ id lb e=>by simp[entry,lk] at e,hzh,λ b ⟨id,lb,ni,h1,_⟩=>by simp[entry,lk] at h1,λ i j li lj ni nj h1=>by simp[entry,lk] at h1⟩;obtain ⟨_,v,h1,h2⟩:=qoy (ν:=λ _=>none) ct.args x 0 hva e;refine ⟨v,?_,h2⟩;rw[qcl _ _ _ _ (by simp;omega)];have hlt:=(List.getElem?_eq_some_iff.1 h1).1;rw[if_pos ⟨Nat.zero_le _,by omega⟩];exact h1
 obtain ⟨rs,S',M1,Z',ν',E',H',a1,w1,k1,x1,x2,x3,x4,x5,x6,x7,x8,x9,hret⟩:=(h x hpre).ends (cs:=cs) hfr her rfl hrel hp hg;obtain ⟨π,m1,m2,m3,m4⟩:=x2;obtain ⟨vs,hvs,hvl⟩:=qfx hx.ty x8 (hg.mono x9.z) x1;obtain ⟨v',hr,hv⟩:=qhd (P:=P) x4 x6 hvs;have hown0:∀ b,¬ Own (λ _=>none) (entry ct.args x) b:=λ b ⟨id,lb,ni,h1,_⟩=>by simp[entry,lk] at h1
 have hfresh:∀ b,Own ν' S' b->H.next<=b:=λ b ho=>(x9.own b ho).resolve_left (hown0 b)
 have hblk:∀ i lb,(ct.rows x)[i]?=some lb->BR Z' (λ i=>(π i).bind ν') H' i lb/\∀ ni,(π i).bind ν'=some ni->H.next<=ni.b/\Z' ni.b=none:=by
  intro i lb hl;have hrow:isRow lb=true:=List.all_eq_true.1 m4 lb (List.mem_of_getElem? hl);have:=m2.get i lb hl;rw[Nat.zero_add] at this;rcases this with ⟨id,h1,h2⟩ | ⟨h1,et,e,rfl,h2⟩
  ·refine ⟨?_,λ ni hni=>?_⟩
   ·have hbr:=x8.blk id lb h2
    cases lb with
    | var l=>simp[isRow] at hrow
    | mp κ σ l=>simp[isRow] at hrow
    | iter l pos=>simp[isRow] at hrow
    | row et e xs=>
     simp only[BR,h1,Option.bind_some] at hbr |-;exact hbr
   ·rw[h1] at hni;have ho:Own ν' S' ni.b:=⟨id,lb,ni,h2,hni,rfl⟩;exact ⟨hfresh _ ho,x8.zo _ ho⟩
  ·exact ⟨⟨h2,.inl ⟨by simp[h1],rfl⟩⟩,λ ni hni=>by simp[h1] at hni⟩
 refine ⟨Z',λ i=>(π i).bind ν',H',M1,w1,v',vs,{ Fr fb { a1 with defers:=[] } k1 with mode:=.returning },x9.z,λ b hb'=>?_,x8.zh,x9.le,λ b y hy=>x9.old b y hy (hrel.dom _ _ hy) (hown0 b),V1L.mt m1 hvl,hblk,?_,x3,hv,x6,x7,?_,rfl,rfl,rfl,rfl,fn,hf,hr⟩
 ·rcases x9.zn b hb' with h | h | h
  ·exact .inl h
  ·exact .inr h
  ·exact absurd h (hown0 b)
 ·intro i j li lj ni nj g1 g2 g3 g4 g5;have s1:=m2.get i li g1;have s2:=m2.get j lj g2;rw[Nat.zero_add] at s1 s2;rcases s1 with ⟨a,h1,h2⟩ | ⟨h1,_⟩
  ·rcases s2 with ⟨b,h3,h4⟩ | ⟨h3,_⟩
   ·simp only[h1,h3,Option.bind_some] at g3 g4;have:=x8.inj a b li lj ni nj h2 h4 g3 g4 g5;subst this;exact m3 i j a h1 h3
   ·simp[h3] at g4
  ·simp[h1] at g3
 ·rw[henter];have e:a1={ a1 with defers:=[] }:=by
   cases a1;simp only at x5;subst x5;rfl
  rw[<- e];exact hret
end
def qc0:Sh->List Value
 | .int k=>[.int k 0]
 | .bool=>[.bool false]
 | .str=>[bstr []]
 | .unit=>[]
 | .pair a b=>qc0 a++qc0 b
 | .arr n e=>(List.replicate n (qc0 e)).flatten
 | .sl _=>[.slice none 0 0]
theorem qbk (Z:Nat->Option ABlk):∀ σ:Sh,RV Z σ σ.dflt (qc0 σ)
 | .int _=>by simp only[RV,Sh.dflt,qc0]
 | .bool=>by simp only[RV,Sh.dflt,qc0]
 | .str=>by simp only[RV,Sh.dflt,qc0]
 | .unit=>by simp only[RV,qc0]
 | .pair a b=>by simp only[RV,Sh.dflt,qc0];exact ⟨_,_,rfl,qbk Z a,qbk Z b⟩
 | .arr n e=>by simp only[RV,Sh.dflt,qc0];exact ⟨by simp,RVL.rep (qbk Z e) n⟩
 | .sl e=>by simp only[RV,Sh.dflt,qc0];exact ⟨_,rfl,.inl ⟨rfl,.inl rfl⟩⟩
def qyc (P:Program) (t:TypeId):TK->Bool
 | .int k=>match qaa P (underlying t) with
  | some (.int k')=>decide (k=k')
  | _=>false
 | .bool=>match qaa P (underlying t) with
  | some .bool=>true
  | _=>false
 | .str=>match qaa P (underlying t) with
  | some .string=>true
  | _=>false
 | .slice e=>match qaa P (underlying t) with
  | some (.slice e')=>e == e'
  | _=>false
 | .array n e=>match qaa P (underlying t) with
  | some (.array n' e')=>n == n'&&e == e'
  | _=>false
 | .struct fs=>match qaa P (underlying t) with
  | some (.struct fields)=>decide (fields.toList.map (λ f=>(f.offset,f.type))=fs)&&match qaa P (fields.mapM λ f=>do pure (f.offset,<- sizeOf f.type)) with
   | some places=>match allS (fs.map λ f=>(qaa P (sizeOf f.2)).map λ n=>(f.1,n)) with
    | some l=>decide (l=places.toList)
    | none=>false
   | none=>false
  | _=>false
 | .map k e=>match qaa P (underlying t) with
  | some (.map k' e')=>k == k'&&e == e'
  | _=>false
 | .ptr e=>match qaa P (underlying t) with
  | some (.pointer e')=>e == e'
  | _=>false
 | .other=>true
theorem qrg {P:Program} {t:TypeId} {k:TK} (h:qyc P t k=true):KOK P t k:=by
 cases k <;> simp only[qyc] at h <;> simp only[KOK]
 ·split at h
  next hu=>rw[hu];simp only[decide_eq_true_eq] at h;rw[h]
  ·cases h
 ·split at h
  next hu=>exact hu
  ·cases h
 ·split at h
  next hu=>exact hu
  ·cases h
 ·split at h
  next hu=>rw[hu];simp only[beq_iff_eq] at h;rw[h]
  ·cases h
 ·split at h
  next hu=>rw[hu];simp only[Bool.and_eq_true,beq_iff_eq] at h;rw[h.1,h.2]
  ·cases h
 ·split at h
  next fields hu=>
   simp only[Bool.and_eq_true,decide_eq_true_eq] at h;obtain ⟨h1,h⟩:=h;split at h
   next places hm=>
    split at h
    next l hl=>simp only[decide_eq_true_eq] at h;exact ⟨fields,places,hu,h1,hm,by rw[hl,h]⟩
    ·cases h
   ·cases h
  ·cases h
 ·split at h
  next hu=>rw[hu];simp only[Bool.and_eq_true,beq_iff_eq] at h;rw[h.1,h.2]
  ·cases h
 ·split at h
  next hu=>rw[hu];simp only[beq_iff_eq] at h;rw[h]
  ·cases h
def tiB (P:Program) (t:TypeId) (i:TI):Bool:=
 decide (qaa P (sizeOf t)=some i.size)&&decide (qaa P (isAgg t)=some i.agg)&&qyc P t i.kind&&(i.agg || decide (i.size=1)) &&
 (match qaa P (typeInfo t) with
  | some inf=>decide (inf.bytes=i.bytes)&&decide (inf.size=i.size)
  | none=>false) &&
 (match qaa P (zeroValue t) with
  | some z=>Ax.flat z&&(match i.kind with
   | .other=>eqL z.cells.toList [.nilFunc]&&decide (i.sh.size≠i.size)
   | .map _ _=>(match z with | .map none=>true | _=>false)&&decide (i.sh.size≠i.size)
   | _=>eqL z.cells.toList (qc0 i.sh))&&decide (z.cells.size=i.size)&&(match z with | .agg _=>i.agg | .tuple _=>false | _ => !i.agg)
  | none=>false) &&
 (match qpx i with
  | true=>match qaa P (underlying t) with
   | some (.struct fields)=>qcm P (qpw i.sh) fields.toList 0 && !P.stoodInHeld t && !P.eqGuardType P.depth t
   | _=>false
  | false=>true) &&
 (match i.ieq with
  | some k=>qpx i || match qaa P (underlying t) with
   | some (.struct fields)=>qd6 P k fields.toList 0 && !P.stoodInHeld t && !P.eqGuardType P.depth t&&decide (fields.size=i.size)
   | some (.array n et) => !P.eqGuardType P.depth t&&decide (n=i.size)&&decide (qaa P (sizeOf et)=some 1)&&decide (qaa P (isAgg et)=some false)&&(match qaa P (underlying et) with
    | some (.int k')=>k' == k
    | _=>false)
   | _=>false
  | none=>true)
def zD:Sh->List SV
 | .sl _=>[.nils]
 | .pair a b=>zD a++zD b
 | .int k=>[.int k 0]
 | .bool=>[.bool false]
 | .str=>[.str []]
 | .unit=>[]
 | .arr n e=>qdy (.arr n e) (Sh.dflt (.arr n e))
theorem q0n {Z:Nat->Option ABlk} {ν:Nu}:∀ σ:Sh,CRL Z ν (zD σ) (qc0 σ)
 | .sl _=>⟨[.slice none 0 0],[],rfl,(by show CR Z ν .nils _;simp only[CR]),rfl⟩
 | .pair a b=>CRL.app (q0n a) (q0n b)
 | .int k=>qam (.int k) _ (qbk Z _)
 | .bool=>qam .bool _ (qbk Z _)
 | .str=>qam .str _ (qbk Z _)
 | .unit=>qam .unit _ (qbk Z _)
 | .arr n e=>qam (.arr n e) _ (qbk Z _)
theorem qlt (id:Nat):∀ {l m:List SV},qaf id l=false->qaf id m=false->qaf id (l++m)=false
 | [],_,_,h=>h
 | s::l,m,h,k=>by
  simp only[qaf,Bool.or_eq_false_iff,List.cons_append] at h |-;exact ⟨h.1,qlt id h.2 k⟩
theorem qpu (id:Nat):∀ σ:Sh,qaf id (zD σ)=false
 | .sl _=>rfl
 | .pair a b=>qlt id (qpu id a) (qpu id b)
 | .int _=>rfl
 | .bool=>rfl
 | .str=>rfl
 | .unit=>rfl
 | .arr _ _=>qbc id _ _
def zeroOf (k:TK) (sh:Sh):List SV:=match k with
 | .other=>[.dead]
 | .map _ _=>[.nilm]
 | .slice _=>match sh with
  | .sl _=>[.nils]
  | sh=>qdy sh sh.dflt
 | .struct _=>zD sh
 | _=>qdy sh sh.dflt
theorem q4d {P:Program} {t:TypeId} {i:TI} (hz:i.zero=zeroOf i.kind i.sh) (h:tiB P t i=true):TOK P t i:=by
 unfold tiB at h;simp only[Bool.and_eq_true,decide_eq_true_eq,Bool.or_eq_true] at h;obtain ⟨⟨⟨⟨⟨⟨⟨h1,h2⟩,h3⟩,h4⟩,h5⟩,h6⟩,h8⟩,h7⟩:=h
 refine ⟨h1,h2,qrg      h3,fun ha=>by rcases h4 with h4 | h4;· rw[ha] at h4;cases h4
                                      ·exact h4,?_,?_,λ z hz0=>?_,λ id=>by
                       rw[hz];unfold zeroOf;split
                       ·rfl
                       ·rfl
                       ·split
                        ·rfl
                        ·exact qbc id _ _
                       ·exact qpu id _
                       ·exact qbc id _ _,?_,?_⟩
 ·split at h5
  next inf hi=>simp only[Bool.and_eq_true,decide_eq_true_eq] at h5;exact ⟨inf,hi,h5.1,h5.2⟩
  ·cases h5
 ·split at h6
  next z hzz=>
   simp only[Bool.and_eq_true,decide_eq_true_eq] at h6;obtain ⟨⟨⟨g1,g2⟩,g3⟩,_⟩:=h6;have key:i.zero=qdy i.sh i.sh.dflt->eqL z.cells.toList (qc0 i.sh)=true->∃ z,qaa P (zeroValue t)=some z/\Ax.flat z=true/\(∀ Z ν,CRL Z ν i.zero z.cells.toList)/\z.cells.size=i.size/\(i.sh.size=i.size->∀ Z,RV Z i.sh i.sh.dflt z.cells.toList):=by
    intro hz g2;have g2:=qi2 _ _ g2;refine ⟨z,hzz,g1,λ Z ν=>?_,g3,λ _ Z=>?_⟩
    ·rw[hz,g2];exact qam _ _ (qbk Z _)
    ·rw[g2];exact qbk Z _
   cases hk:i.kind with
   | other=>
    rw[hk] at g2 hz;simp only[Bool.and_eq_true,decide_eq_true_eq] at g2;have e:=qi2 _ _ g2.1;refine ⟨z,hzz,g1,λ Z ν=>?_,g3,λ e2=>absurd e2 g2.2⟩;rw[hz,e];exact ⟨[.nilFunc],[],rfl,⟨.nilFunc,rfl,rfl,rfl⟩,rfl⟩
   | map k e=>
    rw[hk] at g2 hz;simp only[Bool.and_eq_true,decide_eq_true_eq] at g2;have e1:z=.map none:=by
     have:=g2.1;split at this
     ·rfl
     ·cases this
    subst e1;refine ⟨_,hzz,g1,λ Z ν=>?_,g3,λ e2=>absurd e2 g2.2⟩;rw[hz];exact ⟨[.map none],[],rfl,rfl,rfl⟩
   | slice e=>
    rw[hk] at g2 hz;have hz':i.zero=zeroOf (.slice e) i.sh:=hz;simp only[zeroOf] at hz';have g2:eqL z.cells.toList (qc0 i.sh)=true:=g2
    cases hs:i.sh with
    | sl σ=>
     have e1:=qi2 _ _ g2;rw[hs] at hz' e1;have e2:z.cells.toList=[.slice none 0 0]:=e1;refine ⟨z,hzz,g1,λ Z ν=>?_,g3,λ _ Z=>?_⟩
     ·rw[hz',e2];exact ⟨[.slice none 0 0],[],rfl,(by show CR Z ν .nils _;simp only[CR]),rfl⟩
     ·rw[qi2 _ _ g2,hs];exact qbk Z _
    | _=>rw[hs] at hz';rw[<- hs];exact key (hz'.trans (by rw[hs])) g2
   | struct fs=>
    rw[hk] at g2 hz;have g2:eqL z.cells.toList (qc0 i.sh)=true:=g2;have hz':i.zero=zD i.sh:=hz;refine ⟨z,hzz,g1,λ Z ν=>?_,g3,λ _ Z=>?_⟩
    ·rw[hz',qi2 _ _ g2];exact q0n _
    ·rw[qi2 _ _ g2];exact qbk Z _
   | _=>rw[hk] at g2 hz;exact key hz g2
  ·cases h6
 ·rw[hz0] at h6;simp only[Bool.and_eq_true,decide_eq_true_eq] at h6;have h:=h6.2
  cases hagg:i.agg with
  | true=>
   rw[hagg] at h;simp only[if_true]
   cases z <;> simp at h
   rfl
  | false=>
   rw[hagg] at h;simp only[Bool.false_eq_true,if_false]
   cases z <;> simp at h <;> rfl
 ·intro hm;rw[hm] at h8;simp only at h8;split at h8
  next fields hu=>simp only[Bool.and_eq_true,Bool.not_eq_true'] at h8;exact ⟨h8.2,λ X Y hX hY=>qpl hu h8.1.1 h8.1.2 hX hY⟩
  ·cases h8
 ·intro hm k hk;rw[hk,hm] at h7;simp only[Bool.false_or] at h7;split at h7
  next fields hu=>simp only[Bool.and_eq_true,Bool.not_eq_true',decide_eq_true_eq] at h7;exact ⟨h7.1.2,λ X Y hX hY=>qpm hu h7.1.1.1 h7.1.1.2 (by omega) (by omega)⟩
  next n et hu=>
   simp only[Bool.and_eq_true,Bool.not_eq_true',decide_eq_true_eq] at h7;obtain ⟨⟨⟨⟨g1,g2⟩,g3⟩,g4⟩,g5⟩:=h7;split at g5
   next k' he=>have:=eq_of_beq g5;subst this;exact ⟨g1,λ X Y hX hY=>qpn hu g3 g4 he (by omega) (by omega)⟩
   ·cases g5
  ·cases h7
def mkT (size bytes:Nat) (agg:Bool) (kind:TK) (sh:Sh) (ieq:Option IntKind):TI:=⟨size,bytes,agg,kind,zeroOf kind sh,sh,ieq⟩
def ttB (P:Program):List (Nat × (Nat × Nat × Bool × TK × Sh × Option IntKind))->Bool
 | []=>true
 | (t,(a,b,c,d,e,f))::l=>tiB P t (mkT a b c d e f)&&ttB P l
def ttOf:List (Nat × (Nat × Nat × Bool × TK × Sh × Option IntKind))->TT
 | []=>[]
 | (t,(a,b,c,d,e,f))::l=>(t,mkT a b c d e f)::ttOf l
theorem qzo {P:Program}:∀ {l:List (Nat × (Nat × Nat × Bool × TK × Sh × Option IntKind))},ttB P l=true->TTOK P (ttOf l)
 | [],_,t,i,h=>by simp[ttOf,lk] at h
 | (a,(b,c,d,e,f,g))::l,hb,t,i,h=>by
  simp only[ttB,Bool.and_eq_true] at hb;simp only[ttOf,lk] at h;split at h
  next e1=>subst e1;cases h;exact q4d rfl hb.1
  ·exact qzo hb.2 t i h
def nilV:Value->Bool
 | .pointer none=>true
 | _=>false
def qi4:List SV->List Value->Bool
 | [],[]=>true
 | .int k n::l,.int k' m::r=>decide (k=k'/\n=m)&&qi4 l r
 | .nilp::l,.pointer none::r=>qi4 l r
 | .nils::l,.slice none 0 0::r=>qi4 l r
 | .pta n q j m::l,vs=>(match m with | [.nilp]=>true | _=>false)&&decide (n=q.length/\n<=j/\n<=vs.length)&&q.all nilV&&(vs.take n).all nilV&&qi4 l (vs.drop n)
 | _,_=>false
theorem qvf {v:Value} (h:nilV v=true):v=.pointer none:=by
 unfold nilV at h;split at h
 ·rfl
 ·cases h
theorem qnl:∀ {q:List Value},q.all nilV=true->q=List.replicate q.length (.pointer none)
 | [],_=>rfl
 | v::q,h=>by
  simp only[List.all_cons,Bool.and_eq_true] at h;rw[List.length_cons,List.replicate_succ,<- qnl h.2,qvf h.1]
theorem qfq {Z:Nat->Option ABlk} {ν:Nu}:∀ (l:List SV) (vs:List Value),qi4 l vs=true->CRL Z ν l vs
 | [],[],_=>rfl
 | .int k n::l,.int k' m::r,h=>by
  simp only[qi4,Bool.and_eq_true,decide_eq_true_eq] at h;obtain ⟨⟨rfl,rfl⟩,h⟩:=h;exact ⟨[.int k n],r,rfl,rfl,qfq l r h⟩
 | .nilp::l,.pointer none::r,h=>⟨[.pointer none],r,rfl,rfl,qfq l r h⟩
 | .nils::l,.slice none 0 0::r,h=>⟨[.slice none 0 0],r,rfl,rfl,qfq l r h⟩
 | .pta n q j m::l,vs,h=>by
  simp only[qi4,Bool.and_eq_true,decide_eq_true_eq] at h;obtain ⟨⟨⟨⟨h1,h2,h3,h4⟩,h5⟩,h6⟩,h7⟩:=h;refine ⟨vs.take n,vs.drop n,(List.take_append_drop n vs).symm,?_,qfq l _ h7⟩;split at h1
  ·simp only[CR];refine ⟨[.pointer none],.pointer none,⟨[.pointer none],[],rfl,rfl,rfl⟩,rfl,⟨none,rfl⟩,λ w hw=>⟨none,qvf (List.all_eq_true.1 h5 w hw)⟩,h2.symm,?_⟩;rw[List.set_eq_of_length_le (by omega),qnl h5,qnl h6,List.length_take,Nat.min_eq_left h4,h2]
  ·cases h1
def noNm:List SV->Bool
 | []=>true
 | .int _ _::l | .nilp::l | .nils::l=>noNm l
 | .pta _ _ _ [.nilp]::l=>noNm l
 | _=>false
theorem q15 (id:Nat):∀ l:List SV,noNm l=true->qaf id l=false:=by
 intro l
 induction l with
 | nil=>intro _;rfl
 | cons s l ih=>
  intro h;unfold noNm at h;split at h <;> first | cases h;done | skip
  all_goals (rename_i e;first | (cases e;done) | (cases e;simp only[qaf,ment,Bool.false_or,Bool.or_false];exact ih h))
def tpB (P:Program) (t:TypeId) (i:TI):Bool:=
 decide (qaa P (sizeOf t)=some i.size)&&decide (qaa P (isAgg t)=some i.agg)&&qyc P t i.kind&&(i.agg || decide (i.size=1)) &&
 (match qaa P (typeInfo t) with
  | some inf=>decide (inf.bytes=i.bytes)&&decide (inf.size=i.size)
  | none=>false) &&
 (match qaa P (zeroValue t) with
  | some z=>Ax.flat z&&qi4 i.zero z.cells.toList&&decide (i.sh.size≠i.size)&&decide (z.cells.size=i.size)&&(match z with | .agg _=>i.agg | .tuple _=>false | _ => !i.agg)
  | none=>false)&&noNm i.zero && !qpx i&&i.ieq.isNone
theorem q4c {P:Program} {t:TypeId} {i:TI} (h:tpB P t i=true):TOK P t i:=by
 unfold tpB at h;simp only[Bool.and_eq_true,decide_eq_true_eq,Bool.or_eq_true,Bool.not_eq_true',Option.isNone_iff_eq_none] at h;obtain ⟨⟨⟨⟨⟨⟨⟨⟨h1,h2⟩,h3⟩,h4⟩,h5⟩,h6⟩,h7⟩,h8⟩,h9⟩:=h
 refine ⟨h1,h2,qrg      h3,fun ha=>by rcases h4 with h4 | h4;· rw[ha] at h4;cases h4
                                      ·exact h4,?_,?_,λ z hz0=>?_,λ id=>q15 id _ h7,λ hm=>by rw[hm] at h8;(cases h8),λ _ k hk=>by rw[h9] at hk;cases hk⟩
 ·split at h5
  next inf hi=>simp only[Bool.and_eq_true,decide_eq_true_eq] at h5;exact ⟨inf,hi,h5.1,h5.2⟩
  ·cases h5
 ·split at h6
  next z hzz=>simp only[Bool.and_eq_true,decide_eq_true_eq] at h6;obtain ⟨⟨⟨⟨g1,g2⟩,g3⟩,g4⟩,_⟩:=h6;exact ⟨z,hzz,g1,λ Z ν=>qfq _ _ g2,g4,λ e=>absurd e g3⟩
  ·cases h6
 ·rw[hz0] at h6;simp only[Bool.and_eq_true,decide_eq_true_eq] at h6;have h:=h6.2
  cases hagg:i.agg with
  | true=>
   rw[hagg] at h;simp only[if_true]
   cases z <;> simp at h
   rfl
  | false=>
   rw[hagg] at h;simp only[Bool.false_eq_true,if_false]
   cases z <;> simp at h <;> rfl
def mkP (size bytes:Nat) (agg:Bool) (kind:TK) (zero:List SV):TI:=⟨size,bytes,agg,kind,zero,.unit,none⟩
def tpsB (P:Program):TT->Bool
 | []=>true
 | (t,i)::l=>tpB P t i&&tpsB P l
theorem qty {P:Program}:∀ {l:TT},tpsB P l=true->TTOK P l
 | [],_,t,i,h=>by simp[lk] at h
 | (a,j)::l,hb,t,i,h=>by
  simp only[tpsB,Bool.and_eq_true] at hb;simp only[lk] at h;split at h
  next e1=>subst e1;cases h;exact q4c hb.1
  ·exact qty hb.2 t i h
theorem TTOK.app {P:Program} {l m:TT} (h1:TTOK P l) (h2:TTOK P m):TTOK P (l++m):=λ t i h=>by
 have:lk (l++m) t=match lk l t with
   | some b=>some b
   | none=>lk m t:=by
  clear h1 h2 h
  induction l with
  | nil=>rfl
  | cons p l ih=>
   obtain ⟨a,b⟩:=p;simp only[List.cons_append,lk];split
   ·rfl
   ·exact ih
 rw[this] at h;split at h
 next b hb=>cases h;exact h1 t i hb
 ·exact h2 t i h
def hds:Code->List Item->List (List Item)
 | .seq a b,k=>hds a (.code b::k)++hds b k
 | .cond _ a b,k=>hds a k++hds b k
 | .block id c,k=>hds c (.inBlock id::k)
 | .scope c,k=>hds c (.inScope c::k)
 | .loop c,k=>(.code c::.inLoop c::k)::hds c (.inLoop c::k)
 | .rangeFunc f ps a b,k=>[.code (.rangeFunc f ps a b)::k]
 | _,_=>[]
def qah (fn:Func):Code:=fn.body.getD .skip
def hd (fn:Func) (i:Nat):List Item:=((hds (qah fn) [])[i]?).getD []
mutual
def qkp:SV->Bool
 | .int _ _ | .bool _ | .str _ | .arr _ _ _ | .sl _ _ | .nils | .elv _ _=>true
 | .agg l=>qly l
 | .ifc _ _ l=>qly l
 | _=>false
def qly:List SV->Bool
 | []=>true
 | s::l=>qkp s&&qly l
end
mutual
theorem q2g (π:Nat->Option Nat):∀ s,qkp s=true->Mt π s s
 | .int _ _,_=>by simp[Mt]
 | .bool _,_=>by simp[Mt]
 | .str _,_=>by simp[Mt]
 | .arr _ _ _,_=>by simp[Mt]
 | .sl _ _,_=>by simp[Mt]
 | .nils,_=>by simp[Mt]
 | .elv _ _,_=>by simp[Mt]
 | .agg l,h=>by
  simp only[qkp] at h;simp only[Mt];exact ⟨l,rfl,qbt π l h⟩
 | .win _ _ _ _ _,h=>by simp[qkp] at h
 | .dead,h=>by simp[qkp] at h
 | .ptr _ _,h=>by simp[qkp] at h
 | .elp _ _ _ _,h=>by simp[qkp] at h
 | .aep _ _ _ _ _,h=>by simp[qkp] at h
 | .tup _,h=>by simp[qkp] at h
 | .fn _ _ _,h=>by simp[qkp] at h
 | .ifc t g l,h=>by
  simp only[qkp] at h;simp only[Mt];exact ⟨l,rfl,qbt π l h⟩
theorem qbt (π:Nat->Option Nat):∀ l,qly l=true->MtL π l l
 | [],_=>by simp[MtL]
 | s::l,h=>by
  simp only[qly,Bool.and_eq_true] at h;exact ⟨s,l,rfl,q2g π s h.1,qbt π l h.2⟩
end
theorem QC.flat {ct:Ctr} {x:DL ct.args} {rs:List SV} {blk:List (Nat × LB)} (h:ct.out x=rs) (hr:ct.rows x=[]) (hf:qly rs=true):QC ct x rs blk:=
 ⟨λ _=>none,by rw[h];exact qbt _ _ hf,by rw[hr];trivial,λ _ _ _ e=>by simp at e,by rw[hr];rfl⟩
theorem CxOK.nil {P:Program} {tt:TT} {G:GV} (h:TTOK P tt) (hm:P.follows .mixedOrders=true) (hmt:∀ t nm f,(t,(nm,f))∈G.mt->qsq P t nm=some f:=by intro t nm f h;cases h):CxOK P tt G []:=
 ⟨h,λ _ _ e=>by simp[lk] at e,λ _ _ e=>by simp at e,λ _ e=>by simp[lk] at e,hm,hmt⟩
theorem CxOK.cons {P : Program} {tt : TT} {G : GV} {C : CV} (hx : CxOK P tt G C) {f : FuncId} {fn : Func} {ct : Ctr} (hh : Held P G f ct) (hf : P.funcs[f]? = some fn) (hn : (fn.name == "runtime.NumGoroutine") = false) (hb : fn.body.isSome = true) : CxOK P tt G ((f, .inl ct) :: C) := by
 refine ⟨hx.ty,λ g cg e=>?_,λ g cg e=>?_,λ g e=>?_,hx.mix,hx.mth⟩
 ·simp only[lk] at e;split at e
  next h=>subst h;cases e;exact hh
  ·exact hx.held g cg e
 ·rcases List.mem_cons.1 e with e | e
  ·cases e
  ·exact hx.heldI g cg e
 ·simp only[lk] at e;split at e
  next h=>subst h;exact λ args w=>qgk hf hn hb args w
  ·exact hx.enter g e
theorem qbf {P:Program} {tt:TT} {G:GV} {C:CV} (hx:CxOK P tt G C) {f:FuncId} {n:Nat} {res:List ResultVar} {Q:List SV->List (Nat × LB)->Prop} {it:List Item} {S:PS} {A:Prop} (e:sy tt G C n res Q (Good P tt G f n res Q) 1000 it S=A) (h:A):Good P tt G f n res Q it S:=qxb hx _ _ _ (e ▸ h)
theorem qag {P:Program} {tt:TT} {G:GV} {C:CV} (hx:CxOK P tt G C) {l b:List Nat} {f:FuncId} {n:Nat} {res:List ResultVar} {Q:List SV->List (Nat × LB)->Prop} {it:List Item} {S:PS} {A:Prop} (e:sy tt G C n res Q (λ it S=>Good P tt G f n res Q it (qar l b S)) 1000 it S=A) (h:A):Good P tt G f n res Q it S:=qnt hx (λ _ _ h=>h.keep) _ _ _ (e ▸ h)
theorem bc_t {A B:Prop}:bc true A B=A:=rfl
theorem bc_f {A B:Prop}:bc false A B=B:=rfl
theorem qaj {b:Bool} {A B:Prop} (h1:b=true->A) (h2:b=false->B):bc b A B:=by
 cases b
 ·exact h2 rfl
 ·exact h1 rfl
def allIn {α:Type} (L:List (Nat × α)):List (Nat × α)->Prop
 | []=>True
 | (t,s)::l=>lk L t=some s/\allIn L l
theorem qet {α:Type} {L:List (Nat × α)}:∀ l,allIn L l->∀ t s,lk l t=some s->lk L t=some s
 | [],_,_,_,e=>by simp[lk] at e
 | (a,x)::l,h,t,s,e=>by
  simp only[lk] at e;split at e
  next q=>subst q;cases e;exact h.1
  ·exact qet l h.2 t s e
theorem Good.only {P:Program} {tt:TT} {G:GV} {f:FuncId} {n:Nat} {res:List ResultVar} {Q:List SV->List (Nat × LB)->Prop} {it:List Item} {S S':PS}
  (h:Good P tt G f n res Q it S') (he:allIn S.env S'.env) (hb:allIn S.blk S'.blk):Good P tt G f n res Q it S:=
 Good.less (qet _ he) (qet _ hb) h
theorem Good.post {P:Program} {tt:TT} {G:GV} {f:FuncId} {n:Nat} {res:List ResultVar} {Q Q':List SV->List (Nat × LB)->Prop} {it:List Item} {S:PS}
  (h:Good P tt G f n res Q it S) (hq:∀ rs blk,Q rs blk->Q' rs blk):Good P tt G f n res Q' it S:=by
 refine GoodE.post h λ e g S hk=>?_
 cases e with
 | normal=>
  simp only[endK] at hk |-;split at hk
  ·exact hq _ _ hk
  ·exact hk.elim
 | ret=>
  simp only[endK] at hk |-;split at hk
  ·exact hq _ _ hk
  ·exact hk.elim
 | exit id=>exact hk
 | goto l=>exact hk
theorem calls_of_held {P:Program} {G:GV} {f:FuncId} {ct:Ctr} (hh:Held P G f ct) {x:DL ct.args} (hp:ct.pre x) {b:Bool} (ho:ct.out x=[.bool b]) {args args':Array Value} {M:Map} {H:AHeap} {w:World} {Z:Nat->Option ABlk}
  (hva:VArgs Z ct.args x args.toList) (hz:∀ b y,Z b=some y->H.t.get b=some y/\isCells y) (hg:GZ Z G) (hargs:VRA M args args') (hrel:Rel (λ k=>k<w.heap.size) M H w) :
  Calls P f args' w λ e w'=>e=.returned (.bool b)/\RowKit.Below w.heap.size w w':=by
 intro cs;obtain ⟨Z',ν',H',M',w',v',vs,fr',x1,x2,x3,x4,x5,x6,x7,x8,x9,x10,x11,hbel,hst,hfn,hlv⟩:=hh x hp (λ k=>k<w.heap.size) M args args' w cs Z H hva hz hg hargs hrel;rw[ho] at x6;obtain ⟨v,u,rfl,hv,rfl⟩:=x6;have hv':v=.bool b:=by simpa [V1,CR] using hv
 subst hv';have e:v'=.bool b:=(VR.flat_iff (.bool b) rfl v').1 x10;rw[e] at hlv;exact ⟨.returned (.bool b),w',fr',⟨rfl,hbel.os,hbel.tape,hbel.output,hbel.size,hbel.block⟩,hst,hfn,hlv⟩
def MtB (π:Nat->Option Nat):LB->LB->Prop
 | .row et e xs,b=>b=.row et e xs
 | .var l,b=>∃ m,b=.var m/\MtL π l m
 | .mp κ σ l,b=>b=.mp κ σ l
 | .iter l pos,b=>b=.iter l pos
def MtK (π:Nat->Option Nat) (blk:List (Nat × LB)):List (Nat × LB)->Prop
 | []=>True
 | (i,lb)::l=>((∃ a b,π i=some a/\lk blk a=some b/\MtB π lb b)\/(π i=none/\∃ et e,lb=.row et e []/\0<e.size))/\MtK π blk l
def piOf (th:List (Nat × Nat)) (i:Nat):Option Nat:=match decide (BIG<=i) with
 | true=>some i
 | false=>lk th i
def QI (ct:CtrI) (x:DI ct.args) (rs:List SV) (blk:List (Nat × LB)):Prop:=
 ∃ th:List (Nat × Nat),MtL (piOf th) (ct.out x) rs/\MtK (piOf th) blk (ct.blk x)/\(th.map (·.2)).Nodup/\∀ p∈th,p.2<BIG
section
variable {P:Program} {tt:TT} {G:GV} {C:CV}
theorem qxy {th:List (Nat × Nat)} (hn:(th.map (·.2)).Nodup) (hb:∀ p∈th,p.2<BIG) {i j a:Nat} (h1:piOf th i=some a) (h2:piOf th j=some a):i=j:=by
 have hmem:∀ {i a:Nat},lk th i=some a->(i,a)∈th:=by
  intro i a h;clear hn hb h1 h2
  induction th with
  | nil=>simp[lk] at h
  | cons p l ih=>
   obtain ⟨k,b⟩:=p;simp only[lk] at h;split at h
   next e=>cases h;subst e;simp
   ·exact List.mem_cons_of_mem _ (ih h)
 unfold piOf at h1 h2;by_cases hi:BIG<=i
 ·rw[decide_eq_true hi] at h1;cases h1;by_cases hj:BIG<=j
  ·rw[decide_eq_true hj] at h2;cases h2;rfl
  ·rw[decide_eq_false hj] at h2;have:=hb _ (hmem h2);simp only at this;omega
 ·rw[decide_eq_false hi] at h1;by_cases hj:BIG<=j
  ·rw[decide_eq_true hj] at h2;cases h2;have:=hb _ (hmem h1);simp only at this;omega
  ·rw[decide_eq_false hj] at h2;have g1:=hmem h1;have g2:=hmem h2;clear h1 h2 hb hmem
   induction th with
   | nil=>cases g1
   | cons p l ih=>
    simp only[List.map_cons,List.nodup_cons] at hn;rcases List.mem_cons.1 g1 with e | e
    ·rcases List.mem_cons.1 g2 with e' | e'
     ·rw[<- e] at e';cases e';rfl
     ·exfalso;subst e;exact hn.1 (List.mem_map.2 ⟨_,e',rfl⟩)
    ·rcases List.mem_cons.1 g2 with e' | e'
     ·exfalso;subst e';exact hn.1 (List.mem_map.2 ⟨_,e,rfl⟩)
     ·exact ih hn.2 e e'
theorem MtK.get {π:Nat->Option Nat} {blk:List (Nat × LB)}:∀ {l:List (Nat × LB)},MtK π blk l->∀ i lb,lk l i=some lb->(∃ a b,π i=some a/\lk blk a=some b/\MtB π lb b)\/(π i=none/\∃ et e,lb=.row et e []/\0<e.size)
 | [],_,i,lb,h=>by simp[lk] at h
 | (j,b)::l,m,i,lb,h=>by
  simp only[MtK] at m;simp only[lk] at h;split at h
  next e=>subst e;cases h;exact m.1
  ·exact m.2.get i lb h
theorem q41 {π:Nat->Option Nat}:∀ {s t:SV},Mt π s t->opU t=opU s/\opE t=opE s:=by
 intro s t h1
 cases s with
 | win=>simp only[Mt] at h1;rcases h1 with ⟨_,_,rfl,_⟩ | ⟨rfl,_⟩ <;> exact ⟨rfl,rfl⟩
 | sl=>simp only[Mt] at h1;rcases h1 with rfl | ⟨rfl,_⟩ <;> exact ⟨rfl,rfl⟩
 | agg=>simp only[Mt] at h1;obtain ⟨_,rfl,_⟩:=h1;exact ⟨rfl,rfl⟩
 | ptr=>simp only[Mt] at h1;obtain ⟨_,rfl,_⟩:=h1;exact ⟨rfl,rfl⟩
 | mp=>simp only[Mt] at h1;obtain ⟨_,rfl,_⟩:=h1;exact ⟨rfl,rfl⟩
 | ifc=>simp only[Mt] at h1;obtain ⟨_,rfl,_⟩:=h1;exact ⟨rfl,rfl⟩
 | pta=>simp only[Mt] at h1;obtain ⟨_,rfl,_⟩:=h1;exact ⟨rfl,rfl⟩
 | fn=>simp only[Mt] at h1;obtain ⟨_,_,rfl,_⟩:=h1;exact ⟨rfl,rfl⟩
 | elp=>simp only[Mt] at h1
 | aep=>simp only[Mt] at h1
 | tup=>simp only[Mt] at h1
 | _=>simp only[Mt] at h1;subst h1;exact ⟨rfl,rfl⟩
theorem qzz {π:Nat->Option Nat}:∀ {l m:List SV},MtL π l m->opK m=opK l
 | [],m,h=>by simp only[MtL] at h;subst h;rfl
 | [s],m,h=>by
  simp only[MtL] at h;obtain ⟨t,r,rfl,h1,rfl⟩:=h;rfl
 | s::s2::l,m,h=>by
  simp only[MtL] at h;obtain ⟨t,r,rfl,h1,t2,r2,rfl,h2,_⟩:=h;simp only[opK,(q41 h1).1,(q41 h2).2]
theorem MtB.br {π:Nat->Option Nat} {Z:Nat->Option ABlk} {ν:Nu} {H:AHeap} {i a:Nat} {lb b:LB} (hp:π i=some a) (m:MtB π lb b) (h:BR Z ν H a b):BR Z (λ i=>(π i).bind ν) H i lb:=by
 cases lb with
 | row et e xs=>
  simp only[MtB] at m;subst m;simp only[BR,hp,Option.bind_some] at h |-;exact h
 | var l=>
  obtain ⟨m',rfl,m⟩:=m;obtain ⟨ni,cs,et,h1,h2,h3,h4⟩:=h;exact ⟨ni,cs,et,by simp only[hp,Option.bind_some];exact h1,h2.of (qzz m).symm,by rw[qjg (qzz m).symm];exact h3,CRL.mt _ _ _ m h4⟩
 | mp κ σ l=>
  simp only[MtB] at m;subst m;simp only[BR,hp,Option.bind_some] at h |-;exact h
 | iter l pos=>
  simp only[MtB] at m;subst m;simp only[BR,hp,Option.bind_some] at h |-;exact h
theorem qrr {Z:Nat->Option ABlk} {ν:Nu}:∀ {l:List SV} {vs:List Value} (k:Nat) {t:Nat} {s:SV},VSL Z ν l vs->lk (envI k l) t=some s->k<=t/\∃ v,vs[t-k]?=some v/\VS Z ν s v
 | [],vs,k,t,s,h,e=>by simp[envI,lk] at e
 | a::l,vs,k,t,s,h,e=>by
  obtain ⟨v,w,rfl,h1,h2⟩:=h;simp only[envI,lk] at e;split at e
  next hk=>subst hk;cases e;exact ⟨Nat.le_refl _,v,by simp,h1⟩
  ·obtain ⟨h3,v',h4,h5⟩:=qrr (k+1) h2 e;exact ⟨by omega,v',by rw[show t-k=(t-(k+1))+1 by omega,List.getElem?_cons_succ];exact h4,h5⟩
theorem qj4:∀ (as:List AK) (x:DI as) (k:Nat),(svKL k as x).length=as.length
 | [],_,_=>rfl
 | _::as,x,k=>by simp only[svKL,List.length_cons,qj4 as x.2]
theorem HeldI.of (hx:CxOK P tt G C) {f:FuncId} {fn:Func} {c:Code} {ct:CtrI} (hf:P.funcs[f]?=some fn) (hb:fn.body=some c) (hn:ct.args.length<=fn.ntmps/\ct.args.length<1000)
  (h:∀ x,ct.pre x->Good P tt G f fn.ntmps fn.results.toList (QI ct x) [.code c] (qav ct.args x)):HeldI P G f ct:=by
 intro x hpre base M args args' w cs Z ν H hva hp0 hg hargs hrel;have hlen:args.size=ct.args.length:=by
  have:=VSL.vra hva;rw[qj4] at this;simpa using this
 let fb:Frame:={ (default:Frame) with fn:=f,kind:=.normal }
 have hal:=(VRA.iff.1 hargs).length;simp only[Array.length_toList] at hal
 let a0:Act:={ tmps:=args'++Array.replicate (fn.ntmps-args'.size) undef,defers:=[] }
 have henter:Frame.enter P f args' .normal=Fr fb a0 [.code c]:=by
  simp[Frame.enter,Fr,fb,a0,hf,hb];rfl
 have hfr:FrOK M ⟨f,none,fn.ntmps⟩ fb:=⟨rfl,rfl,rfl⟩;have her:ER M fn.ntmps (qda 0 args.toList .nil) a0.tmps:=qrs hargs (by omega) (by omega);have hp:PR Z ν (qav ct.args x) (qda 0 args.toList .nil) H:=by
  refine ⟨λ t s e=>?_,hp0.blk,hp0.zh,hp0.zo,hp0.inj⟩;obtain ⟨_,v,h1,h2⟩:=qrr 0 hva e;refine ⟨v,?_,h2⟩;rw[qcl _ _ _ _ (by simp;omega)];have hlt:=(List.getElem?_eq_some_iff.1 h1).1;rw[if_pos ⟨Nat.zero_le _,by omega⟩];exact h1
 obtain ⟨rs,S',M1,Z',ν',E',H',a1,w1,k1,x1,x2,x3,x4,x5,x6,x7,x8,x9,hret⟩:=(h x hpre).ends (cs:=cs) hfr her rfl hrel hp hg;obtain ⟨th,m1,m2,m3,m4⟩:=x2;obtain ⟨vs,hvs,hvl⟩:=qfx hx.ty x8 (hg.mono x9.z) x1;obtain ⟨v',hr,hv⟩:=qhd (P:=P) x4 x6 hvs;have key:∀ i lb ni,lk (ct.blk x) i=some lb->(piOf th i).bind ν'=some ni->∃ a b,piOf th i=some a/\lk S'.blk a=some b/\ν' a=some ni:=by
  intro i lb ni h1 h2;rcases m2.get i lb h1 with ⟨a,b,g1,g2,g3⟩ | ⟨g1,_⟩
  ·exact ⟨a,b,g1,g2,by rw[g1] at h2;exact h2⟩
  ·rw[g1] at h2;cases h2
 have hown:∀ b,Own (λ i=>(piOf th i).bind ν') ⟨[],ct.blk x⟩ b->Own ν' S' b:=by
  rintro b ⟨i,lb,ni,h1,h2,rfl⟩;obtain ⟨a,c,g1,g2,g3⟩:=key i lb ni h1 h2;exact ⟨a,c,ni,g2,g3,rfl⟩
 have hp':PR Z' (λ i=>(piOf th i).bind ν') ⟨[],ct.blk x⟩ .nil H':=by
  refine ⟨λ t s e=>by simp[lk] at e,λ i lb h1=>?_,x8.zh,λ b hb=>x8.zo b (hown b hb),λ i j li lj ni nj h1 h2 h3 h4 h5=>?_⟩
  ·rcases m2.get i lb h1 with ⟨a,b,g1,g2,g3⟩ | ⟨g1,et,e,rfl,g2⟩
   ·exact g3.br g1 (x8.blk a b g2)
   ·exact ⟨g2,.inl ⟨by simp[g1],rfl⟩⟩
  ·obtain ⟨a,c,g1,g2,g3⟩:=key i li ni h1 h3;obtain ⟨a2,c2,k1,k2,k3⟩:=key j lj nj h2 h4;have:=x8.inj a a2 c c2 ni nj g2 k2 g3 k3 h5;subst this;exact qxy m3 m4 g1 k1
 refine ⟨Z',λ i=>(piOf th i).bind ν',H',M1,w1,v',vs,{ Fr fb { a1 with defers:=[] } k1 with mode:=.returning },V1L.mt m1 hvl,hp',⟨x9.z,x9.zn,x9.le,x9.old,λ b hb=>x9.own b (hown b hb),λ i hB hi=>?_⟩,x3,hv,x6,x7,?_,rfl,rfl,rfl,rfl,fn,hf,hr⟩
 ·obtain ⟨lb,hl⟩:=Option.ne_none_iff_exists'.1 hi;have hpi:piOf th i=some i:=by unfold piOf;rw[decide_eq_true hB]
  rcases m2.get i lb hl with ⟨a,b,g1,g2,g3⟩ | ⟨g1,_⟩
  ·rw[hpi] at g1;cases g1;have:=x9.big i hB (by rw[g2];simp);exact ⟨this.1,by rw[hpi];exact this.2⟩
  ·rw[hpi] at g1;cases g1
 ·rw[henter];have e:a1={ a1 with defers:=[] }:=by
   cases a1;simp only at x5;subst x5;rfl
  rw[<- e];exact hret
end
theorem CxOK.consI {P : Program} {tt : TT} {G : GV} {C : CV} (hx : CxOK P tt G C) {f : FuncId} {fn : Func} {ct : CtrI} (hh : HeldI P G f ct) (hf : P.funcs[f]? = some fn) (hn : (fn.name == "runtime.NumGoroutine") = false) (hb : fn.body.isSome = true) : CxOK P tt G ((f, .inr ct) :: C) := by
 refine ⟨hx.ty,λ g cg e=>?_,λ g cg e=>?_,λ g e=>?_,hx.mix,hx.mth⟩
 ·simp only[lk] at e;split at e
  ·cases e
  ·exact hx.held g cg e
 ·rcases List.mem_cons.1 e with e | e
  ·cases e;exact hh
  ·exact hx.heldI g cg e
 ·simp only[lk] at e;split at e
  next h=>subst h;exact λ args w=>qgk hf hn hb args w
  ·exact hx.enter g e
def rho (r:List (Nat × Nat)) (i:Nat):Nat:=match lk r i with
 | some j=>j
 | none=>i
def qo3 (r:List (Nat × Nat)) (L:List (Nat × SV)):List (Nat × SV)->Prop
 | []=>True
 | (t,s)::l=>lk L t=some (renS (rho r) s)/\qo3 r L l
def qo4 (r:List (Nat × Nat)) (L:List (Nat × LB)):List (Nat × LB)->Prop
 | []=>True
 | (i,b)::l=>lk L (rho r i)=some (renB (rho r) b)/\qo4 r L l
section
variable {Z:Nat->Option ABlk} {ν:Nu} {H:AHeap} {ρ:Nat->Nat}
mutual
theorem CR.back:∀ (s:SV) (vs:List Value),CR Z ν (Px.renS ρ s) vs->CR Z (λ i=>ν (ρ i)) s vs
 | .win _ _ _ _ _,_,k=>k
 | .ptr _ _,_,k=>k
 | .mp _,_,k=>k
 | .yl _,_,k=>k
 | .nilm,_,k=>k
 | .nilp,_,k=>k
 | .ifc t g l,vs,k=>by
  simp only[renS,CR] at k |-;obtain ⟨us,v,h1,h2,h3⟩:=k;exact ⟨us,v,CRL.back l us h1,h2,h3⟩
 | .pta _ _ _ l,vs,k=>by
  simp only[renS,CR] at k |-;obtain ⟨us,v,h1,h2⟩:=k;exact ⟨us,v,CRL.back l us h1,h2⟩
 | .elp _ _ _ _,_,k=>k
 | .aep _ _ _ _ _,_,k=>k
 | .agg l,vs,k=>by
  simp only[renS,CR] at k |-;exact CRL.back l vs k
 | .tup l,vs,k=>by simp only[renS,CR] at k
 | .fn f a c,vs,k=>by
  simp only[renS,CR] at k |-;obtain ⟨va,vc,h1,h2,h3⟩:=k;exact ⟨va,vc,h1,CRO.back a va h2,CRO.back c vc h3⟩
 | .nils,_,k=>k
 | .dead,_,k=>k
 | .int _ _,_,k=>k
 | .bool _,_,k=>k
 | .str _,_,k=>k
 | .sl _ _,_,k=>k
 | .arr _ _ _,_,k=>k
 | .elv _ _,_,k=>k
theorem CRL.back:∀ (l:List SV) (vs:List Value),CRL Z ν (renSL ρ l) vs->CRL Z (λ i=>ν (ρ i)) l vs
 | [],_,k=>k
 | s::l,vs,k=>by
  simp only[renSL,CRL] at k |-;obtain ⟨u,w,e,h1,h2⟩:=k;exact ⟨u,w,e,CR.back s u h1,CRL.back l w h2⟩
theorem CRO.back:∀ (l:List SV) (vs:List Value),CRO Z ν (renSL ρ l) vs->CRO Z (λ i=>ν (ρ i)) l vs
 | [],_,k=>k
 | s::l,vs,k=>by
  simp only[renSL,CRO] at k |-;obtain ⟨u,w,e,h1,h2⟩:=k;exact ⟨u,w,e,CR.back s [u] h1,CRO.back l w h2⟩
end
theorem V1.back {s:SV} {v:Value} (k:V1 Z ν (Px.renS ρ s) v):V1 Z (λ i=>ν (ρ i)) s v:=by
 cases s with
 | agg l=>obtain ⟨vs,e,k⟩:=k;exact ⟨vs,e,CRL.back l vs k⟩
 | arr n e l=>exact k
 | tup l=>have:CR Z ν (.tup (renSL ρ l)) [v]:=k;simp only[CR] at this
 | win r e id lo n=>exact CR.back (Z:=Z) (.win r e id lo n) [v] k
 | ptr id o=>exact CR.back (Z:=Z) (.ptr id o) [v] k
 | mp id=>exact CR.back (Z:=Z) (.mp id) [v] k
 | ifc t g l=>exact CR.back (Z:=Z) (.ifc t g l) [v] k
 | pta n l j m=>exact CR.back (Z:=Z) (.pta n l j m) [v] k
 | elp e id i o=>exact CR.back (Z:=Z) (.elp e id i o) [v] k
 | aep e id b i o=>exact CR.back (Z:=Z) (.aep e id b i o) [v] k
 | fn f a c=>exact CR.back (Z:=Z) (.fn f a c) [v] k
 | _=>exact k
theorem V1L.back:∀ {l:List SV} {vs:List Value},V1L Z ν (renSL ρ l) vs->V1L Z (λ i=>ν (ρ i)) l vs
 | [],_,k=>k
 | _::_,_,⟨v,w,e,h1,h2⟩=>⟨v,w,e,h1.back,V1L.back h2⟩
theorem VS.back {s:SV} {v:Value} (k:VS Z ν (Px.renS ρ s) v):VS Z (λ i=>ν (ρ i)) s v:=by
 cases s with
 | tup l=>obtain ⟨vs,e,k⟩:=k;exact ⟨vs,e,k.back⟩
 | agg l=>exact V1.back (s:=.agg l) k
 | arr n e l=>exact k
 | win r e id lo n=>exact CR.back (Z:=Z) (.win r e id lo n) [v] k
 | ptr id o=>exact CR.back (Z:=Z) (.ptr id o) [v] k
 | elp e id i o=>exact CR.back (Z:=Z) (.elp e id i o) [v] k
 | aep e id b i o=>exact CR.back (Z:=Z) (.aep e id b i o) [v] k
 | fn f a c=>exact CR.back (Z:=Z) (.fn f a c) [v] k
 | ifc t g l=>exact CR.back (Z:=Z) (.ifc t g l) [v] k
 | pta n l j m=>exact CR.back (Z:=Z) (.pta n l j m) [v] k
 | _=>exact k
theorem BR.back {id:Nat} {lb:LB} (k:BR Z ν H (ρ id) (Px.renB ρ lb)):BR Z (λ i=>ν (ρ i)) H id lb:=by
 cases lb with
 | var l=>
  obtain ⟨ni,cs,et,h1,h2,h3,h4⟩:=k;exact ⟨ni,cs,et,h1,h2.of (qmy ρ l).symm,by rw[qjg (qmy ρ l).symm];exact h3,CRL.back l cs h4⟩
 | row et e xs=>exact k
 | mp κ σ l=>exact k
 | iter l pos=>exact k
theorem qk4 {r:List (Nat × Nat)} {L:List (Nat × SV)}:∀ {l:List (Nat × SV)},qo3 r L l->∀ t s,lk l t=some s->lk L t=some (renS (rho r) s)
 | [],_,t,s,e=>by simp[lk] at e
 | (a,x)::l,h,t,s,e=>by
  simp only[lk] at e;split at e
  next q=>subst q;cases e;exact h.1
  ·exact qk4 h.2 t s e
theorem qbp {r:List (Nat × Nat)} {L:List (Nat × LB)}:∀ {l:List (Nat × LB)},qo4 r L l->∀ t s,lk l t=some s->lk L (rho r t)=some (renB (rho r) s)
 | [],_,t,s,e=>by simp[lk] at e
 | (a,x)::l,h,t,s,e=>by
  simp only[lk] at e;split at e
  next q=>subst q;cases e;exact h.1
  ·exact qbp h.2 t s e
theorem qej {α:Type} {f:Nat->Nat}:∀ {l:List (Nat × α)} {i j:Nat},(l.map λ p=>f p.1).Nodup->lk l i≠none->lk l j≠none->f i=f j->i=j
 | [],i,j,_,h,_,_=>absurd rfl h
 | (k,b)::l,i,j,hn,hi,hj,e=>by
  simp only[List.map_cons,List.nodup_cons] at hn;have mem:∀ {i:Nat},lk l i≠none->f i∈l.map λ p=>f p.1:=by
   intro i h;clear hn hi hj
   induction l with
   | nil=>exact absurd rfl h
   | cons p l ih=>
    simp only[lk] at h;split at h
    next q=>subst q;simp
    ·exact List.mem_cons_of_mem _ (ih h)
  simp only[lk] at hi hj;split at hi
  next q1=>
   split at hj
   next q2=>rw[<- q1,<- q2]
   ·exfalso;rw[<- q1] at e;exact hn.1 (e ▸ mem hj)
  ·split at hj
   next q2=>exfalso;rw[<- q2] at e;exact hn.1 (e ▸ mem hi)
   ·exact qej hn.2 hi hj e
end
def qva (r:List (Nat × Nat)) (S':PS):Bool:=decide (S'.blk.map λ p=>rho r p.1).Nodup&&r.all λ p=>decide (p.1<BIG)
theorem qoe {r:List (Nat × Nat)} {i j:Nat} (hl:lk r i=some j):∃ p∈r,p.1=i:=by
 induction r with
 | nil=>simp[lk] at hl
 | cons p r ih=>
  obtain ⟨a,c⟩:=p;simp only[lk] at hl;split at hl
  next q=>exact ⟨(a,c),by simp,q⟩
  ·obtain ⟨p,hp,e⟩:=ih hl;exact ⟨p,by simp[hp],e⟩
theorem GoodE.onlyR {P:Program} {G:GV} {f:FuncId} {n:Nat} {rd:Rd} {Y:Yp} {K:AExit->Nat × Bool->PS->Prop} {it:List Item} {g:Nat × Bool} {S S':PS}
  (h:GoodE P G f n rd Y K it g S') (r:List (Nat × Nat)) (hr:qva r S'=true) (he:qo3 r S.env S'.env) (hb:qo4 r S.blk S'.blk):GoodE P G f n rd Y K it g S:=by
 intro base Yd J lr b cs M a w Z ν E H A B ds st;simp only[qva,Bool.and_eq_true,decide_eq_true_eq,List.all_eq_true] at hr;have hbig:∀ i,BIG<=i->rho r i=i:=by
  intro i hi;unfold rho
  cases hl:lk r i with
  | none=>rfl
  | some j=>
   exfalso;have:∃ p∈r,p.1=i:=qoe hl;obtain ⟨p,hp,rfl⟩:=this;have:=hr.2 p hp;omega
 have hown:∀ b,Own (λ i=>ν (rho r i)) S' b->Own ν S b:=λ b ⟨id,lb,ni,g1,g2,g3⟩=>⟨rho r id,_,ni,qbp hb _ _ g1,g2,g3⟩
 have hp:PR Z (λ i=>ν (rho r i)) S' E H:=by
  refine ⟨λ t s e=>?_,λ t s e=>(st.pr.blk _ _ (qbp hb t s e)).back,st.pr.zh,λ b ho=>st.pr.zo b (hown b ho),λ i j li lj ni nj g1 g2 g3 g4 g5=>?_⟩
  ·obtain ⟨v,k1,k2⟩:=st.pr.env t _ (qk4 he t s e);exact ⟨v,k1,k2.back⟩
  ·exact qej hr.1 (by rw[g1];simp) (by rw[g2];simp) (st.pr.inj _ _ _ _ _ _ (qbp hb _ _ g1) (qbp hb _ _ g2) g3 g4 g5)
 have st':OnW P G f n rd Y base Yd J lr b g S' M a w Z (λ i=>ν (rho r i)) E H A B ds:=⟨st.hd,st.j,λ c hA ho=>st.dis c hA (hown c ho),st.bz,st.yz,st.yn,λ c ho=>st.yo c (hown c ho),st.fr,st.lp,st.er,st.mark,st.mb,st.rel,hp,st.gz⟩;obtain ⟨e,g',S2,M',a',w',Z',ν',E',H',A',B',ds',k0,x1,x2,x3,x4,x5,x6⟩:=h base Yd J lr b cs M a w Z (λ i=>ν (rho r i)) E H A B ds st';refine ⟨e,g',S2,M',a',w',Z',ν',E',H',A',B',ds',k0,x1,x2,x3,x4,⟨x5.z,λ b hb'=>(x5.zn b hb').imp_right (Or.imp_right (hown b)),x5.le,λ b y g1 g2 g3 g4 g5=>x5.old b y g1 g2 (λ g=>g3 (hown b g)) g4 g5,λ b hb'=>(x5.own b hb').imp_left (hown b),x5.bb,x5.aa,λ i g1 g2=>?_⟩,x6⟩;obtain ⟨k1,k2⟩:=x5.big i g1 g2;obtain ⟨lb,hl⟩:=Option.ne_none_iff_exists'.1 k1;have:=qbp hb _ _ hl;rw[hbig i g1] at this;exact ⟨by rw[this];simp,by rw[k2,hbig i g1]⟩
theorem Good.onlyR {P:Program} {tt:TT} {G:GV} {f:FuncId} {n:Nat} {res:List ResultVar} {Q:List SV->List (Nat × LB)->Prop} {it:List Item} {S S':PS}
  (h:Good P tt G f n res Q it S') (r:List (Nat × Nat)) (hr:qva r S'=true) (he:qo3 r S.env S'.env) (hb:qo4 r S.blk S'.blk):Good P tt G f n res Q it S:=GoodE.onlyR h r hr he hb
structure Fro (G:GV) (H:AHeap):Prop where
 ro:∀ i x,H.t.get i=some x->x.ro=true
 ce:∀ i x,H.t.get i=some x->isCells x
 dom:∀ i x,H.t.get i=some x->i<H.next
 gz:GZ (λ b=>H.t.get b) G
theorem Fro.add {G:GV} {H:AHeap} (h:Fro G H) (hid:idOK H.next) (vs:List Value) (e:TypeId):Fro G (H.add (.cells vs e 2)) where
 ro i x hx:=by
  by_cases e1:i=H.next
  ·subst e1;rw[AHeap.get_add hid] at hx;cases hx;rfl
  ·rw[AHeap.get_add_other e1] at hx;exact h.ro i x hx
 ce i x hx:=by
  by_cases e1:i=H.next
  ·subst e1;rw[AHeap.get_add hid] at hx;cases hx;trivial
  ·rw[AHeap.get_add_other e1] at hx;exact h.ce i x hx
 dom i x hx:=by
  simp only[AHeap.add];by_cases e1:i=H.next
  ·omega
  ·rw[AHeap.get_add_other e1] at hx;have:=h.dom i x hx;omega
 gz:=h.gz.mono λ b x hb=>by
  have:=h.dom b x hb;rw[AHeap.get_add_other (by omega)];exact hb
mutual
def qje:SV->Bool
 | .win _ _ id _ _=>decide (BIG<=id)
 | .ptr id _=>decide (BIG<=id)
 | .mp id=>decide (BIG<=id)
 | .elp _ _ _ _=>false
 | .aep _ _ _ _ _=>false
 | .agg l=>qgg l
 | .tup _=>false
 | .fn _ a c=>qgg a&&qgg c
 | .ifc _ _ l=>qgg l
 | .pta _ _ _ l=>qgg l
 | _=>true
def qgg:List SV->Bool
 | []=>true
 | s::l=>qje s&&qgg l
end
theorem qjo {th:List (Nat × Nat)} {i:Nat} (h:BIG<=i):piOf th i=some i:=by unfold piOf;rw[decide_eq_true h]
mutual
theorem q2f {th:List (Nat × Nat)}:∀ s:SV,qje s=true->Mt (piOf th) s s
 | .win r e id lo n,h=>by
  simp only[qje,decide_eq_true_eq] at h;exact .inl ⟨r,id,rfl,qjo h,λ q=>q⟩
 | .ptr id o,h=>by
  simp only[qje,decide_eq_true_eq] at h;exact ⟨id,rfl,qjo h⟩
 | .mp id,h=>by
  simp only[qje,decide_eq_true_eq] at h;exact ⟨id,rfl,qjo h⟩
 | .yl _,_=>rfl
 | .nilm,_=>rfl
 | .nilp,_=>rfl
 | .ifc _ _ l,h=>by simp only[qje] at h;exact ⟨l,rfl,qdt l h⟩
 | .pta _ _ _ l,h=>by simp only[qje] at h;exact ⟨l,rfl,qdt l h⟩
 | .agg l,h=>by simp only[qje] at h;exact ⟨l,rfl,qdt l h⟩
 | .fn f a c,h=>by
  simp only[qje,Bool.and_eq_true] at h;exact ⟨a,c,rfl,qdt a h.1,qdt c h.2⟩
 | .nils,_=>rfl
 | .dead,_=>rfl
 | .int _ _,_=>rfl
 | .bool _,_=>rfl
 | .str _,_=>rfl
 | .sl _ _,_=>.inl rfl
 | .arr _ _ _,_=>rfl
 | .elv _ _,_=>rfl
 | .elp _ _ _ _,h=>by simp[qje] at h
 | .aep _ _ _ _ _,h=>by simp[qje] at h
 | .tup _,h=>by simp[qje] at h
theorem qdt {th:List (Nat × Nat)}:∀ l:List SV,qgg l=true->MtL (piOf th) l l
 | [],_=>rfl
 | s::l,h=>by
  simp only[qgg,Bool.and_eq_true] at h;exact ⟨s,l,rfl,q2f s h.1,qdt l h.2⟩
end
def q4q:LB->Bool
 | .var l=>qgg l
 | .row _ _ _=>true
 | .mp _ _ _=>true
 | .iter _ _=>true
theorem qrb {th:List (Nat × Nat)} {blk:List (Nat × LB)}:∀ l:List (Nat × LB),(l.all λ p=>decide (BIG<=p.1)&&q4q p.2)=true->(∀ p∈l,lk blk p.1=some p.2)->MtK (piOf th) blk l
 | [],_,_=>trivial
 | (i,b)::l,h,hl=>by
  simp only[List.all_cons,Bool.and_eq_true,decide_eq_true_eq] at h;refine ⟨.inl ⟨i,b,qjo h.1.1,hl (i,b) (by simp),?_⟩,qrb l h.2 λ p hp=>hl p (by simp[hp])⟩
  cases b with
  | var m=>exact ⟨m,rfl,qdt m h.1.2⟩
  | row et e xs=>rfl
  | mp κ σ l=>rfl
  | iter l pos=>rfl
theorem QI.self {ct:CtrI} {x:DI ct.args} {rs:List SV} {blk:List (Nat × LB)} (h:ct.out x=rs) (hs:qgg rs=true) (hb:(ct.blk x).all (λ p=>decide (BIG<=p.1)&&q4q p.2)=true) (hl:∀ p∈ct.blk x,lk blk p.1=some p.2):QI ct x rs blk:=
 ⟨[],by rw[h];exact qdt rs hs,qrb _ hb hl,by simp,by simp⟩
section
variable {P:Program} {tt:TT} {G:GV} {C:CV}
end
section
variable {Z Z':Nat->Option ABlk} {ν ν':Nu} {S:PS} {E:T Value} {H:AHeap}
mutual
theorem que:∀ s:SV,renS (λ i=>i) s=s
 | .win _ _ _ _ _=>rfl
 | .ptr _ _=>rfl
 | .elp _ _ _ _=>rfl
 | .aep _ _ _ _ _=>rfl
 | .mp _=>rfl
 | .yl _=>rfl
 | .nilm=>rfl
 | .nilp=>rfl
 | .ifc _ _ l=>by simp only[renS,qdq l]
 | .pta _ _ _ l=>by simp only[renS,qdq l]
 | .agg l=>by simp only[renS,qdq l]
 | .tup l=>by simp only[renS,qdq l]
 | .fn f a c=>by simp only[renS,qdq a,qdq c]
 | .nils=>rfl
 | .dead=>rfl
 | .int _ _=>rfl
 | .bool _=>rfl
 | .str _=>rfl
 | .sl _ _=>rfl
 | .arr _ _ _=>rfl
 | .elv _ _=>rfl
theorem qdq:∀ l:List SV,renSL (λ i=>i) l=l
 | []=>rfl
 | s::l=>by simp only[renSL,que s,qdq l]
end
theorem V1.nu {s:SV} {v:Value} (h:∀ i,ment i s=true->ν' i=ν i) (k:V1 Z ν s v):V1 Z ν' s v:=by
 have:=V1.renS (ρ:=λ i=>i) (ν2:=ν') (ν':=ν) h k;rwa[que] at this
theorem V1L.nu:∀ {l:List SV} {vs:List Value},(∀ i,qaf i l=true->ν' i=ν i)->V1L Z ν l vs->V1L Z ν' l vs
 | [],_,_,k=>k
 | s::l,_,h,⟨v,w,e,h1,h2⟩=>⟨v,w,e,h1.nu λ i hi=>h i (by simp[qaf,hi]),V1L.nu (λ i hi=>h i (by simp[qaf,hi])) h2⟩
theorem VS.nu {s:SV} {v:Value} (h:∀ i,ment i s=true->ν' i=ν i) (k:VS Z ν s v):VS Z ν' s v:=by
 cases s with
 | tup l=>
  obtain ⟨vs,e,k⟩:=k;exact ⟨vs,e,k.nu λ i hi=>h i (by simpa [ment] using hi)⟩
 | _=>exact V1.vs (V1.nu h (VS.v1 k (by intros;simp)))
end
section
variable {P:Program} {G:GV} {f:FuncId} {n:Nat} {Y:Yp} {ts ps:List Nat} {Ko:List AK} {as:List Sh} {assign body:Code} {QL:AExit->Nat × Bool->DI Ko->Prop} {Jo:Jt} {Yd Ydo:Nat->Prop} {rec0:Loop} {E:T Value} {l:Nat} {x0:DI Ko} {ν0:Nu} {Z0:Nat->Option ABlk} {N N2:Nat} {Ao Bo:Nat->Prop} {ys:List (DL as)}
 {i:Nat} {s:Bool} {A B:Nat->Prop} {H H':AHeap} {g:Nat × Bool} {x:DI Ko} {Z:Nat->Option ABlk} {ν:Nu} {Ai Bi:Nat->Prop} {base:Prot}
end
section
variable {P:Program} {G:GV} {f:FuncId} {n:Nat} {rd:Rd} {Y:Yp} {K:AExit->Nat × Bool->PS->Prop} {g:Nat × Bool} {S:PS}
end
section
variable {P:Program} {tt:TT} {G:GV} {C:CV} {f:FuncId} {n:Nat} {rd:Rd} {Y:Yp} {K:AExit->Nat × Bool->PS->Prop}
end
open Ax Go.ChangeShapes Go.WideShapes Go.RowKit
def qlc (P:Program) (T:TypeId->Bool) (sz:Nat) (fs:List Field) (off:Nat):Bool:=match fs with
 | [f]=>decide (f.offset=off)&&T f.type&&decide (P.cellsOf f.type=sz)
 | _=>false
def qst (P:Program) (T:TypeId->Bool) (sz:Nat) (R:List Field->Nat->Bool) (fs:List Field) (off:Nat):Bool:=match fs with
 | f::fs=>decide (f.offset=off)&&T f.type&&decide (P.cellsOf f.type=sz)&&R fs (off+sz)
 | []=>false
def shB (P:Program):Sh->(TypeId->Bool) × (List Field->Nat->Bool)
 | .int k=>
  let T:TypeId->Bool:=λ t=>match P.underlying t with | some (.int k')=>decide (k'=k) | _=>false
  (T,qlc P T 1)
 | .bool=>
  let T:TypeId->Bool:=λ t=>match P.underlying t with | some .bool=>true | _=>false
  (T,qlc P T 1)
 | .str=>
  let T:TypeId->Bool:=λ t=>match P.underlying t with | some .string=>true | _=>false
  (T,qlc P T 1)
 | .unit=>(λ _=>false,λ _ _=>false)
 | .arr n e=>
  let T:TypeId->Bool:=λ t=>match P.underlying t with
   | some (.array m u)=>decide (m=n)&&(shB P e).1 u&&decide (P.cellsOf u=e.size)&&decide (P.cellsOf t=n*e.size)
   | _=>false
  (T,qlc P T (n*e.size))
 | .sl e=>
  let T:TypeId->Bool:=λ t=>match P.underlying t with
   | some (.slice u)=>(shB P e).1 u&&decide (P.cellsOf u=e.size)&&decide (0<e.size)
   | _=>false
  (T,qlc P T 1)
 | .pair a b=>
  let F:List Field->Nat->Bool:=qst P (shB P a).1 a.size (shB P b).2
  let T:TypeId->Bool:=λ t=>match P.underlying t with
   | some (.struct fs)=>F fs.toList 0&&decide (P.cellsOf t=a.size+b.size)
   | _=>false
  (T,λ fs off=>F fs off || qlc P T (a.size+b.size) fs off)
def wfD:(σ:Sh)->σ.D->Prop
 | .int k,(n:Int)=>(Lit.int k n).wf=true
 | .bool,_=>True
 | .str,(l:List UInt8)=>l.length<=maxLen
 | .unit,_=>True
 | .pair a b,x=>wfD a x.1/\wfD b x.2
 | .arr n e,(l:List e.D)=>l.length=n/\∀ x∈l,wfD e x
 | .sl e,(l:List e.D)=>l.length<2 ^ 63/\∀ x∈l,wfD e x
abbrev RelW (W:World) (M:Map) (H:AHeap):Prop:=Rel (λ k=>k<W.heap.size) M H W
def InOK (G:GV) (W:World) (σ:Sh) (cs:List Value):Prop:=
 ∀ M H,RelW W M H->Fro G H->∃ (M':Map) (H':AHeap) (us:List Value) (x:σ.D),Ext M M'/\RelW W M' H'/\Fro G H'/\ZLe (λ b=>H.t.get b) (λ b=>H'.t.get b)/\VRL M' us cs/\(∀ Z,ZLe (λ b=>H'.t.get b) Z->RV Z σ x us)/\wfD σ x
def InLs (G:GV) (W:World) (e:Sh) (m:Nat) (cs:List Value):Prop:=
 ∀ M H,RelW W M H->Fro G H->∃ (M':Map) (H':AHeap) (us:List Value) (l:List e.D),Ext M M'/\RelW W M' H'/\Fro G H'/\ZLe (λ b=>H.t.get b) (λ b=>H'.t.get b)/\VRL M' us cs/\(∀ Z,ZLe (λ b=>H'.t.get b) Z->RVL (λ x u=>RV Z e x u) l us)/\l.length=m/\∀ x∈l,wfD e x
section
variable {G:GV} {W:World}
theorem InOK.flat {σ:Sh} {cs:List Value} (x:σ.D) (hf:qbd cs=true) (hr:∀ Z,RV Z σ x cs) (hw:wfD σ x):InOK G W σ cs:=
 λ M H hR hF=>⟨M,H,cs,x,Ext.refl M,hR,hF,ZLe.refl _,VRL.self hf,λ Z _=>hr Z,hw⟩
theorem InOK.pair {a b:Sh} {c1 c2:List Value} (h1:InOK G W a c1) (h2:InOK G W b c2):InOK G W (.pair a b) (c1++c2):=by
 intro M H hR hF;obtain ⟨M1,H1,u1,x1,e1,r1,f1,z1,v1,w1,d1⟩:=h1 M H hR hF;obtain ⟨M2,H2,u2,x2,e2,r2,f2,z2,v2,w2,d2⟩:=h2 M1 H1 r1 f1
 exact ⟨M2,H2,u1++u2,(x1,x2),e1.trans e2,r2,f2,z1.trans z2,(VRL.mono e2 _ _ v1).append v2,λ Z hZ=>by
  simp only[RV]
  exact ⟨u1,u2,rfl,w1 Z (z2.trans hZ),w2 Z hZ⟩,d1,d2⟩
theorem qxa (cs:List Value) (m n:Nat):cs.take (m+n)=cs.take m++(cs.drop m).take n:=by
 rw[List.take_add]
theorem InLs.of {e:Sh}:∀ (m:Nat) (cs:List Value),cs.length=m*e.size->(∀ i,i<m->InOK G W e ((cs.drop (i*e.size)).take e.size))->InLs G W e m cs
 | 0,cs,hl,_=>by
  intro M H hR hF;rw[Nat.zero_mul] at hl;obtain rfl:=List.eq_nil_of_length_eq_zero hl;exact ⟨M,H,[],[],Ext.refl M,hR,hF,ZLe.refl _,VRL.nil,λ Z _=>rfl,rfl,λ x h=>by cases h⟩
 | m+1,cs,hl,hi=>by
  intro M H hR hF;rw[Nat.succ_mul] at hl;have h0:=hi 0 (by omega);rw[Nat.zero_mul,List.drop_zero] at h0;obtain ⟨M1,H1,u1,x1,e1,r1,f1,z1,v1,w1,d1⟩:=h0 M H hR hF
  obtain ⟨M2,H2,u2,l2,e2,r2,f2,z2,v2,w2,n2,d2⟩:=InLs.of (e:=e) m (cs.drop e.size) (by rw[List.length_drop];omega) (λ i h=>by
   have:=hi (i+1) (by omega);rw[Nat.succ_mul,Nat.add_comm,<- List.drop_drop] at this
   exact this) M1 H1 r1 f1
  refine ⟨M2,H2,u1++u2,x1::l2,e1.trans e2,r2,f2,z1.trans z2,?_,λ Z hZ=>⟨u1,u2,rfl,w1 Z (z2.trans hZ),w2 Z hZ⟩,by rw[List.length_cons,n2],λ x hx=>?_⟩
  ·have:=(VRL.mono e2 _ _ v1).append v2;rwa[List.take_append_drop] at this
  ·rcases List.mem_cons.1 hx with rfl | hx
   ·exact d1
   ·exact d2 x hx
end
section
variable {H:Type} {enc:TypeId × Value->H} {P:Program} {G:GV} {W:World} {held:Bool}
theorem qr9 (c:Array Value) (i:Nat):c.toList[i]?=c[i]?:=by simp
theorem qyg {n:Nat} {t u:TypeId} {e:Sh} {cs:List Value} {d:DataW H × List MemPlace} (ht:P.underlying t=some (.slice u)) (hC:P.cellsOf u=e.size) (h0:0<e.size)
  (ih:∀ cs d,DataW.trod enc P W 0 (λ _=>true) held n u cs=some d->InOK G W e cs)
  (h:DataW.trod enc P W 0 (λ _=>true) held (n+1) t cs=some d):InOK G W (.sl e) cs:=by
 rcases DataW.trod_slice ht h with ⟨rfl,_⟩ | ⟨a,len,cap,elems,rest,n',hn,rfl,rfl,hb,hl,hm,hlen,hel,hsp,_⟩
 ·exact InOK.flat [] rfl (λ Z=>by simp only[RV];exact ⟨_,rfl,.inl ⟨rfl,.inl rfl⟩⟩) ⟨by simp,λ x h=>by cases h⟩
 obtain rfl:n=n':=by omega
 obtain ⟨hrl,hr⟩:=hsp rfl;by_cases hc0:cap=0
 ·subst hc0;obtain rfl:len=0:=by omega
  intro M H hR hF;exact ⟨M,H,[emptySlice],[],Ext.refl M,hR,hF,ZLe.refl _,VRL.cons (VR.emptySlice _ _) VRL.nil,λ Z _=>by simp only[RV];exact ⟨_,rfl,.inl ⟨rfl,.inr rfl⟩⟩,by simp,λ x h=>by cases h⟩
 rw[hC] at hel hr;have each:∀ i,i<cap->∃ ci y,W.cells? 0 (a.add (i*e.size)) e.size=some ci/\DataW.trod enc P W 0 (λ _=>true) held n u ci=some y:=by
  intro i hi;by_cases hil:i<len
  ·have:=hel i hil;rw[List.getElem?_eq_getElem (by omega),Option.bind_eq_some_iff] at this;obtain ⟨ci,h1,h2⟩:=this;exact ⟨ci,_,h1,h2⟩
  ·have:=hr (i-len) (by omega);rw[List.getElem?_eq_getElem (by omega),Option.bind_eq_some_iff,show len+(i-len)=i by omega] at this;obtain ⟨ci,h1,h2⟩:=this;exact ⟨ci,_,h1,h2⟩
 obtain ⟨b,off,spot⟩:=a;obtain ⟨c0,y0,hc1,_⟩:=each 0 (by omega);obtain ⟨_,hl0,hcell0⟩:=World.cells?_some hc1;have hcell0:=hcell0 0 h0;rw[Nat.zero_mul,List.getElem?_eq_getElem (by omega)] at hcell0;have hspot:spot=none:=by simpa [Addr.add] using World.cell?_spot hcell0
 subst hspot;have hadd:∀ i,(⟨b,off,none⟩:Addr).add i=⟨b,off+i,none⟩:=λ i=>qaz ..
 have hadd2:∀ i j,((⟨b,off,none⟩:Addr).add i).add j=⟨b,off+i+j,none⟩:=λ i j=>by rw[hadd];exact qaz ..
 rw[hadd2] at hcell0;simp only[World.cell?] at hcell0
 cases hb:W.heap[b]? with
 | none=>rw[hb] at hcell0;simp at hcell0
 | some o=>
  cases o with
  | cells c et f=>
   have hcell:∀ i,i<cap->∃ y,(off+i*e.size+e.size<=c.toList.length)/\DataW.trod enc P W 0 (λ _=>true) held n u ((c.toList.drop (off+i*e.size)).take e.size)=some y:=by
    intro i hi;obtain ⟨ci,y,h1,h2⟩:=each i hi;obtain ⟨_,h3,h4⟩:=World.cells?_some h1;have h5:∀ j,j<e.size->c.toList[off+i*e.size+j]?=ci[j]?:=by
     intro j hj;have:=h4 j hj;rw[hadd2] at this;simp only[World.cell?,hb,Option.isSome_none,Bool.false_eq_true,if_false] at this;rw[qr9];exact this
    have h6:off+i*e.size+e.size<=c.toList.length:=by
     have:=h5 (e.size-1) (by omega);rw[List.getElem?_eq_getElem (show e.size-1<ci.length by omega)] at this;have:=(List.getElem?_eq_some_iff.1 this).1;omega
    refine ⟨y,h6,?_⟩;have e1:(c.toList.drop (off+i*e.size)).take e.size=ci:=by
     apply List.ext_getElem?;intro j;rw[List.getElem?_take];split
     ·rw[List.getElem?_drop];exact h5 j ‹_›
     ·rw[List.getElem?_eq_none (by omega)]
    rw[e1];exact h2
   have hend:off+cap*e.size<=c.toList.length:=by
    obtain ⟨_,h6,_⟩:=hcell (cap-1) (by omega);have:(cap-1)*e.size+e.size=cap*e.size:=by
     rw[<- Nat.succ_mul];congr 1;omega
    omega
   have hls:InLs G W e cap ((c.toList.drop off).take (cap*e.size)):=by
    refine InLs.of cap _ (by rw[List.length_take,List.length_drop];omega) λ i hi=>?_
    obtain ⟨y,h6,h7⟩:=hcell i hi;have hsz:i*e.size+e.size<=cap*e.size:=by
     rw[<- Nat.succ_mul];exact Nat.mul_le_mul_right _ hi
    have e2:(((c.toList.drop off).take (cap*e.size)).drop (i*e.size)).take e.size=(c.toList.drop (off+i*e.size)).take e.size:=by
     rw[List.drop_take,List.take_take,List.drop_drop,show min e.size (cap*e.size-i*e.size)=e.size by omega]
    rw[e2];exact ih _ _ h7
   intro M H hR hF;obtain ⟨M1,H1,us,l,e1,r1,f1,z1,v1,w1,n1,d1⟩:=hls M H hR hF;have hus:us.length=cap*e.size:=by
    have:=VRL.length v1;rw[List.length_take,List.length_drop] at this;omega
   have hmax:maxLen<2 ^ 63:=by decide
   have htl:(l.take len).length=len:=by rw[List.length_take];omega
   refine ⟨M1++[{ real:=b,sh:=off }],H1.add (.cells us et 2),[.slice (some ⟨H1.next,0,none⟩) (l.take len).length cap],l.take len,e1.trans (Ext.snoc M1 _),Rel.read r1 f1.ro (Nat.zero_le _) hb ?_,f1.add (Nat.zero_le _) _ _,z1.trans λ b' x hx=>?_,VRL.cons ?_ VRL.nil,λ Z hZ=>?_,by rw[htl];omega,λ x hx=>d1 x (List.mem_of_mem_take hx)⟩
   ·rw[hus];exact VRL.mono (Ext.snoc M1 _) _ _ v1
   ·have:=f1.dom b' x hx
    show (H1.add _).t.get b'=some x
    rw[AHeap.get_add_other (by omega)];exact hx
   ·simp only[VR];rw[if_neg (by simp)];refine ⟨_,by rw[<- r1.len];exact qeo M1 _,?_⟩;rw[htl];simp only[qb3];rw[if_neg (by unfold qae;omega)];simp
   ·have hZ1:ZLe (λ b=>H1.t.get b) Z:=λ b' x hx=>hZ b' x (by
     have:=f1.dom b' x hx
     show (H1.add _).t.get b'=some x
     rw[AHeap.get_add_other (by omega)];exact hx)
    simp only[RV];refine ⟨_,rfl,.inr ⟨H1.next,0,cap,us,et,2,rfl,hZ _ _ (AHeap.get_add (Nat.zero_le _)),?_,?_,.inr ⟨by rw[htl];omega,by omega⟩⟩⟩
    ·rw[htl,hus,Nat.zero_add];exact Nat.mul_le_mul_right _ hl
    ·rw[List.drop_zero,htl];exact RVL.take (λ x u k=>RV.len e x u k) len (w1 Z hZ1)
  | _=>rw[hb] at hcell0;simp at hcell0
theorem qih {σ:Sh} {T:TypeId->Bool} {sz:Nat} {n:Nat} {cs:List Value} (hz:sz=σ.size)
  (ih:∀ t cs d,T t=true->DataW.trod enc P W 0 (λ _=>true) held n t cs=some d->InOK G W σ cs) {fs:List Field} {off:Nat} (hb:qlc P T sz fs off=true)
  (h:∀ f∈fs,∃ d,DataW.trod enc P W 0 (λ _=>true) held n f.type ((cs.drop f.offset).take (P.cellsOf f.type))=some d):InOK G W σ ((cs.drop off).take σ.size):=by
 unfold qlc at hb;split at hb
 next f=>simp only[Bool.and_eq_true,decide_eq_true_eq] at hb;obtain ⟨⟨h1,h2⟩,h3⟩:=hb;obtain ⟨d,hd⟩:=h f (by simp);rw[h1,h3,hz] at hd;exact ih _ _ _ h2 hd
 ·cases hb
theorem qom {n:Nat} (ih:∀ (σ:Sh) t cs d,(shB P σ).1 t=true->DataW.trod enc P W 0 (λ _=>true) held n t cs=some d->InOK G W σ cs) {cs:List Value}:∀ (σ:Sh) (fs:List Field) (off:Nat),(shB P σ).2 fs off=true ->
  (∀ f∈fs,∃ d,DataW.trod enc P W 0 (λ _=>true) held n f.type ((cs.drop f.offset).take (P.cellsOf f.type))=some d)->InOK G W σ ((cs.drop off).take σ.size)
 | .int k,fs,off,hb,h=>qih rfl (ih (.int k)) hb h
 | .bool,fs,off,hb,h=>qih rfl (ih .bool) hb h
 | .str,fs,off,hb,h=>qih rfl (ih .str) hb h
 | .unit,fs,off,hb,h=>by cases hb
 | .arr m e,fs,off,hb,h=>qih rfl (ih (.arr m e)) hb h
 | .sl e,fs,off,hb,h=>qih rfl (ih (.sl e)) hb h
 | .pair a b,fs,off,hb,h=>by
  have hb':(qst P (shB P a).1 a.size (shB P b).2 fs off || qlc P (shB P (.pair a b)).1 (a.size+b.size) fs off)=true:=hb;rw[Bool.or_eq_true] at hb';rcases hb' with hb' | hb'
  ·unfold qst at hb';split at hb'
   next f fs'=>
    simp only[Bool.and_eq_true,decide_eq_true_eq] at hb';obtain ⟨⟨⟨h1,h2⟩,h3⟩,h4⟩:=hb';obtain ⟨d,hd⟩:=h f (by simp);rw[h1,h3] at hd;have p1:=ih a _ _ _ h2 hd;have p2:=qom ih b fs' (off+a.size) h4 λ g hg=>h g (List.mem_cons_of_mem _ hg)
    have:=p1.pair p2;rw[<- List.drop_drop,<- qxa] at this;exact this
   ·cases hb'
  ·exact qih rfl (ih (.pair a b)) hb' h
theorem qjt:∀ (n:Nat) (σ:Sh) (t:TypeId) (cs:List Value) (d:DataW H × List MemPlace),(shB P σ).1 t=true->DataW.trod enc P W 0 (λ _=>true) held n t cs=some d->InOK G W σ cs
 | 0,σ,t,cs,d,_,h=>by simp[DataW.trod] at h
 | n+1,.int k,t,cs,d,hb,h=>by
  simp only[shB] at hb;split at hb
  next k' hu=>obtain rfl:=of_decide_eq_true hb;obtain ⟨m,rfl,_,hw⟩:=DataW.trod_int hu h;exact InOK.flat (σ:=.int k') m rfl (λ Z=>by simp only[RV]) hw
  ·cases hb
 | n+1,.bool,t,cs,d,hb,h=>by
  simp only[shB] at hb;split at hb
  next hu=>obtain ⟨m,rfl,_⟩:=DataW.trod_bool hu h;exact InOK.flat (σ:=.bool) m rfl (λ Z=>by simp only[RV]) trivial
  ·cases hb
 | n+1,.str,t,cs,d,hb,h=>by
  simp only[shB] at hb;split at hb
  next hu=>obtain ⟨s,rfl,_,hw⟩:=DataW.trod_string hu h;exact InOK.flat (σ:=.str) s.data.toList rfl (λ Z=>by simp only[RV,bstr]) (by simpa [wfD] using hw)
  ·cases hb
 | n+1,.unit,t,cs,d,hb,h=>by cases hb
 | n+1,.arr m e,t,cs,d,hb,h=>by
  simp only[shB] at hb;split at hb
  next m' u hu=>
   simp only[Bool.and_eq_true,decide_eq_true_eq] at hb;obtain ⟨⟨⟨rfl,h2⟩,h3⟩,h4⟩:=hb;obtain ⟨xs,n',hn,_,hcl,hlen,hg⟩:=DataW.trod_array hu h;obtain rfl:n=n':=by omega
   have hls:InLs G W e m' cs:=InLs.of m' cs (hcl.trans h4) λ i hi=>by
    have:=hg i hi;rw[h3,List.getElem?_eq_getElem (by omega)] at this;exact qjt n e u _ _ h2 this
   intro M H hR hF;obtain ⟨M1,H1,us,l,e1,r1,f1,z1,v1,w1,n1,d1⟩:=hls M H hR hF;exact ⟨M1,H1,us,l,e1,r1,f1,z1,v1,λ Z hZ=>by simp only[RV];exact ⟨n1,w1 Z hZ⟩,n1,d1⟩
  ·cases hb
 | n+1,.sl e,t,cs,d,hb,h=>by
  simp only[shB] at hb;split at hb
  next u hu=>simp only[Bool.and_eq_true,decide_eq_true_eq] at hb;obtain ⟨⟨h2,h3⟩,h4⟩:=hb;exact qyg hu h3 h4 (λ cs d hd=>qjt n e u cs d h2 hd) h
  ·cases hb
 | n+1,.pair a b,t,cs,d,hb,h=>by
  have hb':(match P.underlying t with
   | some (.struct fs)=>qst P (shB P a).1 a.size (shB P b).2 fs.toList 0&&decide (P.cellsOf t=a.size+b.size)
   | _=>false)=true:=hb
  split at hb'
  next fs hu=>
   simp only[Bool.and_eq_true,decide_eq_true_eq] at hb';obtain ⟨h2,h3⟩:=hb';obtain ⟨xs,n',hn,_,hcl,hlen,hg⟩:=DataW.trod_struct hu h;obtain rfl:n=n':=by omega
   have hf:(shB P (.pair a b)).2 fs.toList 0=true:=by
    show (qst P (shB P a).1 a.size (shB P b).2 fs.toList 0 || qlc P (shB P (.pair a b)).1 (a.size+b.size) fs.toList 0)=true
    rw[h2,Bool.true_or]
   have:=qom (G:=G) (λ σ t cs d=>qjt n σ t cs d) (.pair a b) fs.toList 0 hf λ f hfm=>by
    obtain ⟨i,hi⟩:=List.getElem?_of_mem hfm;rw[Array.getElem?_toList] at hi;have h5:=hg i f hi;have:i<xs.length:=by
     have:=(Array.getElem?_eq_some_iff.1 hi).1;omega
    rw[List.getElem?_eq_getElem this] at h5;exact ⟨_,h5⟩
   rw[List.drop_zero,List.take_of_length_le (by rw[hcl,h3];exact Nat.le_refl _)] at this;exact this
  ·cases hb'
theorem arg_in {r:Reach} {b0:Nat} (σ:Sh) {t:TypeId} {v:Value} {d:DataW H} {p:List MemPlace} (hs:(shB P σ).1 t=true) (hv:Value.okWide P W r b0 t v) (h:DataW.Trod enc P W 0 (λ _=>true) held t v d p) {M:Map} {Hh:AHeap} (hR:RelW W M Hh) (hF:Fro G Hh) :
  ∃ (M':Map) (H':AHeap) (u:Value) (x:σ.D),Ext M M'/\RelW W M' H'/\Fro G H'/\ZLe (λ b=>Hh.t.get b) (λ b=>H'.t.get b)/\VR M' u v/\(∀ Z,ZLe (λ b=>H'.t.get b) Z->∀ ν,VS Z ν (ofD σ x) u)/\wfD σ x:=by
 obtain ⟨fuel,hf⟩:=h;have hin:=qjt (G:=G) fuel σ t _ _ hs hf M Hh hR hF;obtain ⟨M1,H1,us,x,e1,r1,f1,z1,v1,w1,d1⟩:=hin;have one:v.cells=#[v]->∃ u,us=[u]/\VR M1 u v:=by
  intro hc;rw[hc] at v1;have hl:=VRL.length v1
  match us,hl with
  | [u],_=>obtain ⟨v',l',q1,q2,q3⟩:=v1.cases;cases q3;exact ⟨u,rfl,q1⟩
 have fin1:∀ {u:Value},us=[u]->VR M1 u v->(∀ Z,RV Z σ x [u]->∀ ν,VS Z ν (ofD σ x) u)->∃ (M':Map) (H':AHeap) (u:Value) (x:σ.D),Ext M M'/\RelW W M' H'/\Fro G H'/\ZLe (λ b=>Hh.t.get b) (λ b=>H'.t.get b)/\VR M' u v/\(∀ Z,ZLe (λ b=>H'.t.get b) Z->∀ ν,VS Z ν (ofD σ x) u)/\wfD σ x:=
  λ hu hvr hk=>⟨M1,H1,_,x,e1,r1,f1,z1,hvr,λ Z hZ ν=>hk Z (hu ▸ w1 Z hZ) ν,d1⟩
 have finA:∀ (cs:Array Value),v=.agg cs->(∀ Z,RV Z σ x us->∀ ν,VS Z ν (ofD σ x) (.agg us.toArray))->∃ (M':Map) (H':AHeap) (u:Value) (x:σ.D),Ext M M'/\RelW W M' H'/\Fro G H'/\ZLe (λ b=>Hh.t.get b) (λ b=>H'.t.get b)/\VR M' u v/\(∀ Z,ZLe (λ b=>H'.t.get b) Z->∀ ν,VS Z ν (ofD σ x) u)/\wfD σ x:=by
  intro cs hcs hk;subst hcs;refine ⟨M1,H1,.agg us.toArray,x,e1,r1,f1,z1,?_,λ Z hZ ν=>hk Z (w1 Z hZ) ν,d1⟩;simp only[VR];exact ⟨cs,VRA.iff.2 (by simpa [Value.cells] using v1),rfl⟩
 cases σ with
 | int k=>
  simp only[shB] at hs;split at hs
  next k' hu=>
   obtain rfl:=of_decide_eq_true hs;obtain ⟨n,rfl⟩:=okWide_int hu hv;obtain ⟨u,hu1,hu2⟩:=one rfl;exact fin1 hu1 hu2 λ Z hr ν=>by
    simp only[RV] at hr;cases hr
    show CR Z ν (SV.int k' x) [_]
    simp only[CR]
  ·cases hs
 | bool=>
  simp only[shB] at hs;split at hs
  next hu=>
   obtain ⟨n,rfl⟩:=okWide_bool hu hv;obtain ⟨u,hu1,hu2⟩:=one rfl;exact fin1 hu1 hu2 λ Z hr ν=>by
    simp only[RV] at hr;cases hr
    show CR Z ν (SV.bool x) [_]
    simp only[CR]
  ·cases hs
 | str=>
  simp only[shB] at hs;split at hs
  next hu=>
   obtain ⟨n,rfl⟩:=okWide_string hu hv;obtain ⟨u,hu1,hu2⟩:=one rfl;exact fin1 hu1 hu2 λ Z hr ν=>by
    simp only[RV] at hr;cases hr
    show CR Z ν (SV.str x) [_]
    simp only[CR]
  ·cases hs
 | unit=>cases hs
 | arr m e=>
  simp only[shB] at hs;split at hs
  next m' u hu=>obtain ⟨cs,hcs⟩:=Ax.okWide_arr hu hv;exact finA cs hcs λ Z hr ν=>⟨us,rfl,hr⟩
  ·cases hs
 | sl e=>
  simp only[shB] at hs;split at hs
  next u hu=>
   obtain ⟨a,len,cap,rfl⟩:=okWide_slice hu hv;obtain ⟨u,hu1,hu2⟩:=one rfl;exact fin1 hu1 hu2 λ Z hr ν=>by
    simp only[RV] at hr;obtain ⟨w,hw,hr⟩:=hr;cases hw;exact VS.mkSl hr
  ·cases hs
 | pair a b=>
  have hs':(match P.underlying t with
   | some (.struct fs)=>qst P (shB P a).1 a.size (shB P b).2 fs.toList 0&&decide (P.cellsOf t=a.size+b.size)
   | _=>false)=true:=hs
  split at hs'
  next fs hu=>obtain ⟨cs,hcs,_⟩:=okWide_struct hu hv;exact finA cs hcs λ Z hr ν=>⟨us,rfl,qam (.pair a b) x hr⟩
  ·cases hs'
end
section
variable {P:Program} {tt:TT} {G:GV} {f:FuncId} {n:Nat} {rd:Rd} {Y:Yp} {K:AExit->Nat × Bool->PS->Prop} {res:List ResultVar} {Q:List SV->List (Nat × LB)->Prop}
theorem GoodE.frz {it:List Item} {g:Nat × Bool} {S:PS} {i:Nat} {e:Sh} {et:TypeId} {xs:List e.D} (hl:lk S.blk i=some (.row et e xs)) (hi:∀ c∈cdP i xs.length S,c) (h:GoodE P G f n rd Y K it g (S.frzR i e xs)):GoodE P G f n rd Y K it g S:=by
 intro base Yd J lr b cs M a w Z ν E H A B ds st;obtain ⟨Z1,h1,h2,_⟩:=qz7 st.pr hl (q0k hi);obtain ⟨e1,g',S',M',a',w',Z',ν',E',H',A',B',ds',k0,x1,x2,x3,x4,x5,x6⟩:=h base Yd J lr b cs M a w Z1 ν E H A B ds (st.next (Ext.refl M) st.er rfl st.rel h1 h2);exact ⟨e1,g',S',M',a',w',Z',ν',E',H',A',B',ds',k0,x1,x2,x3,x4,(FCY.of h2).trans x5,x6⟩
theorem Good.frz {it:List Item} {S:PS} {i:Nat} {e:Sh} {et:TypeId} {xs:List e.D} (hl:lk S.blk i=some (.row et e xs)) (hi:∀ c∈cdP i xs.length S,c) (h:Good P tt G f n res Q it (S.frzR i e xs)):Good P tt G f n res Q it S:=GoodE.frz hl hi h
def qvu:Nat->List LB->List SV->List SV
 | _,[],l=>l
 | k,.row _ e xs::rows,l=>qvu (k+1) rows (frzL k e xs l)
 | k,_::rows,l=>qvu (k+1) rows l
def inRs:Nat->List LB->List SV->Prop
 | _,[],_=>True
 | k,.row _ e xs::rows,l=>inL k xs.length l/\inRs (k+1) rows (frzL k e xs l)
 | k,_::rows,l=>inRs (k+1) rows l
theorem qrk {ν:Nu} {H:AHeap} {nx:Nat} {vs:List Value}:∀ (rows:List LB) (k:Nat) (l:List SV) (Z:Nat->Option ABlk),(∀ b y,Z b=some y->H.t.get b=some y/\isCells y) ->
  (∀ j lb,rows[j]?=some lb->BR Z ν H (k+j) lb/\∀ ni,ν (k+j)=some ni->nx<=ni.b)->inRs k rows l->V1L Z ν l vs ->
  ∃ Z1,ZLe Z Z1/\(∀ b y,Z1 b=some y->H.t.get b=some y/\isCells y)/\(∀ b,Z1 b≠none->Z b≠none\/nx<=b)/\V1L Z1 ν (qvu k rows l) vs
 | [],k,l,Z,hz,_,_,hv=>⟨Z,ZLe.refl _,hz,λ _ h=>.inl h,hv⟩
 | lb::rows,k,l,Z,hz,hb,hi,hv=>by
  have nxt:∀ (l':List SV) (Z1:Nat->Option ABlk),ZLe Z Z1->(∀ b y,Z1 b=some y->H.t.get b=some y/\isCells y)->(∀ b,Z1 b≠none->Z b≠none\/nx<=b)->inRs (k+1) rows l'->V1L Z1 ν l' vs ->
    ∃ Z2,ZLe Z Z2/\(∀ b y,Z2 b=some y->H.t.get b=some y/\isCells y)/\(∀ b,Z2 b≠none->Z b≠none\/nx<=b)/\V1L Z2 ν (qvu (k+1) rows l') vs:=by
   intro l' Z1 g1 g2 g3 g4 g5
   obtain ⟨Z2,q1,q2,q3,q4⟩:=qrk rows (k+1) l' Z1 g2 (λ j lb' hj=>by
    obtain ⟨s1,s2⟩:=hb (j+1) lb' (by simpa using hj);rw[show k+(j+1)=k+1+j by omega] at s1 s2
    exact ⟨s1.mono g1,s2⟩) g4 g5
   exact ⟨Z2,g1.trans q1,q2,λ b hq=>(q3 b hq).elim (λ h=>g3 b h) .inr,q4⟩
  obtain ⟨b0,b1⟩:=hb 0 lb rfl;rw[Nat.add_zero] at b0 b1
  cases lb with
  | row et e xs=>
   let Z1:Nat->Option ABlk:=λ c=>match ν k with
    | some ni=>if c=ni.b then H.t.get c else Z c
    | none=>Z c
   have z1:ZLe Z Z1:=by
    intro c y hc;simp only[Z1];split
    ·split
     ·exact (hz c y hc).1
     ·exact hc
    ·exact hc
   have z2:∀ ni y,ν k=some ni->H.t.get ni.b=some y->Z1 ni.b=some y:=by
    intro ni y hn hy;simp only[Z1,hn,if_true];exact hy
   refine nxt _ Z1 z1 ?_ ?_ hi.2 (V1L.frz b0 z1 z2 hi.1 hv)
   ·intro c y hc;simp only[Z1] at hc;split at hc
    next ni hn=>
     split at hc
     next hcn=>
      subst hcn;obtain ⟨_,⟨hn',_⟩ | ⟨ni',cs,tl,k',hn',hg,_,_⟩⟩:=b0
      ·rw[hn] at hn';cases hn'
      ·rw[hn] at hn';cases hn';rw[hg] at hc;cases hc;exact ⟨hg,trivial⟩
     ·exact hz c y hc
    ·exact hz c y hc
   ·intro c hc;simp only[Z1] at hc;split at hc
    next ni hn=>
     split at hc
     next hcn=>subst hcn;exact .inr (b1 ni hn)
     ·exact .inl hc
    ·exact .inl hc
  | var m=>exact nxt l Z (ZLe.refl _) hz (λ _ h=>.inl h) hi hv
  | mp κ σ m=>exact nxt l Z (ZLe.refl _) hz (λ _ h=>.inl h) hi hv
  | iter m p=>exact nxt l Z (ZLe.refl _) hz (λ _ h=>.inl h) hi hv
def Ctr.frz (ct:Ctr):Ctr:=⟨ct.args,ct.pre,λ x=>qvu 0 (ct.rows x) (ct.out x),λ _=>[]⟩
theorem Held.frz {ct:Ctr} (h:Held P G f ct) (hi:∀ x,ct.pre x->inRs 0 (ct.rows x) (ct.out x)):Held P G f ct.frz:=by
 intro x hpre base M args args' w cs Z H h1 h2 h3 h4 h5;obtain ⟨Z',ν',H',M',w',v',vs,fr',x1,x2,x3,x4,x5,x6,x7,x8,x9,x10,x11,x12,x13,x14,x15⟩:=h x hpre base M args args' w cs Z H h1 h2 h3 h4 h5
 obtain ⟨Z1,q1,q2,q3,q4⟩:=qrk (nx:=H.next) (ct.rows x) 0 (ct.out x) Z' x3 (λ j lb hj=>by
  rw[Nat.zero_add]
  exact ⟨(x7 j lb hj).1,λ ni hn=>((x7 j lb hj).2 ni hn).1⟩) (hi x hpre) x6
 exact ⟨Z1,ν',H',M',w',v',vs,fr',x1.trans q1,λ b hb=>(q3 b hb).elim (x2 b) .inr,q2,x4,x5,q4,λ i lb hl=>by simp[Ctr.frz] at hl,λ i j li lj ni nj hl=>by simp[Ctr.frz] at hl,x9,x10,x11,x12,x13,x14,x15⟩
theorem Held.iff {ct ct2:Ctr} (h:Held P G f ct) (ha:ct2.args=ct.args) (hp:∀ x,ct2.pre x->ct.pre (ha ▸ x)) (ho:∀ x,ct2.pre x->ct2.out x=ct.out (ha ▸ x)) (hr:∀ x,ct2.pre x->ct2.rows x=ct.rows (ha ▸ x)):Held P G f ct2:=by
 obtain ⟨a,p,o,r⟩:=ct;obtain ⟨a2,p2,o2,r2⟩:=ct2;simp only at ha;subst ha;intro x hpre;have:=h x (hp x hpre);simp only at ho hr |-;rw[ho x hpre,hr x hpre];exact this
end
section
variable {P:Program} {tt:TT} {G:GV} {C:CV} {f:FuncId} {n:Nat} {rd:Rd} {Y:Yp} {K:AExit->Nat × Bool->PS->Prop} {res:List ResultVar} {Q:List SV->List (Nat × LB)->Prop}
theorem CxOK.tab {tt2:TT} (hx:CxOK P tt G C) (h:∀ t,lk tt2 t=lk tt t):CxOK P tt2 G C:=⟨λ t ti ht=>hx.ty t ti (by rw[<- h];exact ht),hx.held,hx.heldI,hx.enter,hx.mix,hx.mth⟩
end
def GoodR (P:Program) (G:GV) (f:FuncId) (n:Nat) (Y:Yp) (R:List Item->Nat × Bool->PS->Prop) (it:List Item) (g:Nat × Bool) (S:PS):Prop:=
 ∀ (base:Prot) (Yd:Nat->Prop) (J:Jt) (lr:LR) (b:Frame) (cs:List Frame) (M:Map) (a:Act) (w:World) (Z:Nat->Option ABlk) (ν:Nu) (E:T Value) (H:AHeap) (A B:Nat->Prop) (ds:List Nat),
  OnW P G f n .fn Y base Yd J lr b g S M a w Z ν E H A B ds ->
  ∃ it' g' S' M' a' w' Z' ν' E' H' A' B' ds',R it' g' S'/\OnW P G f n .fn Y base Yd J lr b g' S' M' a' w' Z' ν' E' H' A' B' ds'/\Ext M M'/\Below base w w'/\FCY (XL .fn lr) Z ν S H A B Z' ν' S' H' A' B' /\
   (∀ d∈ds',d∈ds\/H.next<=d)/\Steps P (lone (Fr b a it) cs w) (lone (Fr b a' it') cs w')
section
variable {P:Program} {tt:TT} {G:GV} {C:CV} {f:FuncId} {n:Nat} {Y:Yp} {K:AExit->Nat × Bool->PS->Prop} {R:List Item->Nat × Bool->PS->Prop} {g:Nat × Bool} {S:PS}
theorem GoodR.on {it k:List Item} (h:∀ (base:Prot) (Yd:Nat→Prop) (J:Jt) (lr:LR) (b:Frame) (cs:List Frame) (M:Map) (a:Act) (w:World) (Z:Nat→Option ABlk) (ν:Nu) (E:T Value) (H:AHeap) (A B:Nat→Prop) (ds:List Nat),
   OnW P G f n .fn Y base Yd J lr b g S M a w Z ν E H A B ds->∃ g1 S1 M1 a1 w1 Z1 ν1 E1 H1 A1 B1 ds1,OnW P G f n .fn Y base Yd J lr b g1 S1 M1 a1 w1 Z1 ν1 E1 H1 A1 B1 ds1/\Ext M M1/\Below base w w1/\FCY (XL .fn lr) Z ν S H A B Z1 ν1 S1 H1 A1 B1 /\
    (∀ d∈ds1,d∈ds\/H.next<=d)/\(Rd.fn≠.fn->ds1=ds)/\Steps P (lone (Fr b a it) cs w) (lone (Fr b a1 k) cs w1)/\GoodR P G f n Y R k g1 S1):GoodR P G f n Y R it g S:=by
 intro base Yd J lr b cs M a w Z ν E H A B ds hs;obtain ⟨g1,S1,M1,a1,w1,Z1,ν1,E1,H1,A1,B1,ds1,h1,h2,h3,h4,h5,_,h6,h7⟩:=h base Yd J lr b cs M a w Z ν E H A B ds hs;obtain ⟨it',g',S',M',a',w',Z',ν',E',H',A',B',ds',x1,x2,x3,x4,x5,x6,x7⟩:=h7 base Yd J lr b cs M1 a1 w1 Z1 ν1 E1 H1 A1 B1 ds1 h1;refine ⟨it',g',S',M',a',w',Z',ν',E',H',A',B',ds',x1,x2,h2.trans x3,h3.trans x4,h4.trans x5,λ d hd=>?_,h6.trans x7⟩;rcases x6 d hd with k | k
 ·exact h5 d k
 ·exact .inr (Nat.le_trans h4.le k)
theorem GoodR.fin {it:List Item} (hk:R it g S):GoodR P G f n Y R it g S:=
 λ _ _ _ _ _ _ M a w Z ν E H A B ds st=>⟨it,g,S,M,a,w,Z,ν,E,H,A,B,ds,hk,st,Ext.refl M,Below.refl _ _,FCY.refl,λ _ h=>.inl h,.refl _ _⟩
theorem GoodR.step {it it':List Item} (hs:∀ b a cs w,step P (lone (Fr b a it) cs w)=.next (lone (Fr b a it') cs w)) (h:GoodR P G f n Y R it' g S):GoodR P G f n Y R it g S:=
 .on λ _ _ _ _ b cs M a w Z ν E H A B ds st=>⟨g,S,M,a,w,Z,ν,E,H,A,B,ds,st,Ext.refl M,Below.refl _ _,FCY.refl,λ _ h=>.inl h,λ _=>rfl,.one (hs b a cs w),h⟩
theorem GoodR.cond {k:List Item} {o:Operand} {c1 c2:Code} {t:Bool} (ho:pv G S.env o=some (.bool t)) (h1:t=true->GoodR P G f n Y R (.code c1::k) g S) (h2:t=false->GoodR P G f n Y R (.code c2::k) g S):GoodR P G f n Y R (.code (.cond o c1 c2)::k) g S:=by
 have key:∀ (c:Code),(if t then c1 else c2)=c->GoodR P G f n Y R (.code c::k) g S->GoodR P G f n Y R (.code (.cond o c1 c2)::k) g S:=by
  intro c hc h;refine .on (k:=.code c::k) λ _ _ _ _ b cs M a w Z ν E H A B ds st=>⟨g,S,M,a,w,Z,ν,E,H,A,B,ds,st,Ext.refl M,Below.refl _ _,FCY.refl,λ _ h=>.inl h,λ _=>rfl,.one ?_,h⟩
  obtain ⟨v,hv,hvs⟩:=qbr st.pr st.gz _ _ ho;rw[hvs.bool] at hv;have ha:=qb4 st.er st.rel.glob o _ hv;simp only[VR] at ha;have:=qt7 (P:=P) (b:=b) (a:=a) (k:=k) (cs:=cs) (w:=w) (x:=c1) (y:=c2) ha;rw[hc] at this;exact this
 cases t with
 | true=>exact key c1 rfl (h1 rfl)
 | false=>exact key c2 rfl (h2 rfl)
theorem GoodR.less {it:List Item} {S':PS} (he:∀ t s,lk S'.env t=some s->lk S.env t=some s) (hb:∀ t s,lk S'.blk t=some s->lk S.blk t=some s) (h:GoodR P G f n Y R it g S'):GoodR P G f n Y R it g S:=by
 intro base Yd J lr b cs M a w Z ν E H A B ds st;have hown:∀ b,Own ν S' b->Own ν S b:=λ b ⟨id,lb,ni,g1,g2,g3⟩=>⟨id,lb,ni,hb _ _ g1,g2,g3⟩
 have hp:PR Z ν S' E H:=⟨λ t s e=>st.pr.env t s (he t s e),λ t s e=>st.pr.blk t s (hb t s e),st.pr.zh,λ b ho=>st.pr.zo b (hown b ho),λ i j li lj ni nj g1 g2=>st.pr.inj i j li lj ni nj (hb _ _ g1) (hb _ _ g2)⟩;have st':OnW P G f n .fn Y base Yd J lr b g S' M a w Z ν E H A B ds:=⟨st.hd,st.j,λ c hA ho=>st.dis c hA (hown c ho),st.bz,st.yz,st.yn,λ c ho=>st.yo c (hown c ho),st.fr,st.lp,st.er,st.mark,st.mb,st.rel,hp,st.gz⟩;obtain ⟨it',g',S2,M',a',w',Z',ν',E',H',A',B',ds',x1,x2,x3,x4,x5,x6⟩:=h base Yd J lr b cs M a w Z ν E H A B ds st'
 exact ⟨it',g',S2,M',a',w',Z',ν',E',H',A',B',ds',x1,x2,x3,x4,⟨x5.z,λ b hb'=>(x5.zn b hb').imp_right (Or.imp_right (hown b)),x5.le,λ b y g1 g2 g3 g4 g5=>x5.old b y g1 g2 (λ g=>g3 (hown b g)) g4 g5,λ b hb'=>(x5.own b hb').imp_left (hown b),x5.bb,x5.aa,λ id h1 h2=>⟨λ e=>(x5.big id h1 h2).1 (by cases h:lk S'.blk id with
  | none=>rfl
  | some l=>rw[hb _ _ h] at e;cases e),(x5.big id h1 h2).2⟩⟩,x6⟩
theorem GoodR.eqv {it:List Item} {T:PS} (e:Eqv S T) (h:GoodR P G f n Y R it g S):GoodR P G f n Y R it g T:=GoodR.less (λ t s g=>by rw[<- e.1];exact g) (λ t s g=>by rw[<- e.2];exact g) h
theorem GoodR.drawD (hx:CxOK P tt G C) {id:Nat} {ops:Array Oper} {k:List Item} {S S1:PS} (hd:qgc (swE tt C ops) ops=true) (hr:Runs (StpE tt G C ops n) (List.range ops.size) S S1) (h:GoodR P G f n Y R k g S1):GoodR P G f n Y R (.code (.region id ops true)::k) g S:=by
 refine .on (k:=k) λ base Yd J lr b cs M a w Z ν E H A B ds st=>?_
 obtain ⟨S2,hr2,he⟩:=qa9 hx.mix (qqo hx.ty) (w.tape w.drawn (.order b.fn id)) hd hr;obtain ⟨M1,Z1,ν1,E1,H1,a1,w1,y1,y2,y3,y4,y5,y6,y7,y8⟩:=qhb hx _ hr2 st.er (st.rel.of_heap (w':={ w with drawn:=w.drawn+1 }) rfl) st.pr st.gz b k cs;have y7':=y7.eqv he.symm;exact ⟨g,S1,M1,a1,w1,Z1,ν1,E1,H1,A,B,ds,st.next y1 y2 y3 y4 (y6.eqv he.symm) y7',y1,(show Below base w { w with drawn:=w.drawn+1 } from ⟨rfl,rfl,rfl,Nat.le_refl _,λ _ _=>rfl⟩).trans y5,.of y7',λ _ h=>.inl h,λ _=>rfl,.head qcq y8,h⟩
theorem qys (hx:CxOK P tt G C) {id:Nat} {ops:Array Oper} {k:List Item} {S:PS} (hd:qgc (swE tt C ops) ops=true) {K':PS->Prop} (h:runO tt G C true n ops (List.range ops.size) (loses C S ops) K') (hk:∀ S',K' S'->GoodR P G f n Y R k g S'):GoodR P G f n Y R (.code (.region id ops true)::k) g S:=by
 obtain ⟨S',S'',h1,h2,h3⟩:=qbg hx.ty _ (Eqv.refl _) h;exact GoodR.less (qjr C S ops) (λ t s h=>h) (GoodR.drawD hx hd h1 ((hk S' h3).eqv h2.symm))
theorem GoodR.drawY (hx:CxOK P tt G C) {id u:Nat} {ops:Array Oper} {k:List Item} {S S1 S2:PS} {K':PS->Nat × Bool->Prop} (hd:qgc (swY tt C ops u) ops=true) (hu:u<ops.size) (hr:Runs (StpE tt G C ops n) (List.range u) S S1) (he:Eqv S1 S2)
  (h:runU tt G C Y n ops u S2 g λ S' g'=>∃ S3 S4,Runs (StpE tt G C ops n) (List.range' (u+1) (ops.size-(u+1))) S' S3/\Eqv S3 S4/\K' S4 g') (hk:∀ S' g',K' S' g'->GoodR P G f n Y R k g' S'):GoodR P G f n Y R (.code (.region id ops true)::k) g S:=by
 refine .on (k:=k) λ base Yd J lr b cs M a w Z ν E H A B ds st=>?_
 have e0:List.range ops.size=List.range u++(u::List.range' (u+1) (ops.size-(u+1))):=by
  have q:=List.range'_append_1 (s:=0) (m:=u) (n:=ops.size-u);rw[Nat.zero_add,show u+(ops.size-u)=ops.size by omega] at q;rw[List.range_eq_range',List.range_eq_range',<- q,show ops.size-u=(ops.size-(u+1))+1 by omega,List.range'_succ]
 have hm1:∀ i∈List.range u,i<u:=λ i hi=>by simpa using hi
 have hm2:∀ i∈List.range' (u+1) (ops.size-(u+1)),u<i:=λ i hi=>by have:=List.mem_range'_1.1 hi;omega
 have hrun:Runs (StpW tt G C ops n u) (List.range ops.size) (S,false) (S1,true):=by
  rw[e0,Runs.append];exact ⟨(S1,false),qml _ hm1 hr,(S1,true),.inr (.inl ⟨rfl,rfl,rfl,rfl⟩),qj9 _ hm2⟩
 obtain ⟨⟨S3,t3⟩,hr2,he2,ht⟩:=qa9 hx.mix (qzp (G:=G) (C:=C) (n:=n) hx.ty u) (w.tape w.drawn (.order b.fn id)) hd hrun;simp only at he2 ht;obtain ⟨l1,l2,e1,c1,c2,hr3⟩:=qgp _ ht.symm hr2;simp only at hr3;obtain ⟨M1,Z1,ν1,E1,H1,a1,w1,y1,y2,y3,y4,y5,y6,y7,y8⟩:=qmk hx (rest:=u::l2) l1 hr3 st.er (st.rel.of_heap (w':={ w with drawn:=w.drawn+1 }) rfl) st.pr st.gz b k cs;have he3:Eqv S2 S3:=he.symm.trans he2;have y7':=y7.eqv he3.symm;have hb1:Below base w w1:=(show Below base w { w with drawn:=w.drawn+1 } from ⟨rfl,rfl,rfl,Nat.le_refl _,λ _ _=>rfl⟩).trans y5;have hreg:Reg P G f n .fn Y ops (u::l2) g S2 K':=by
  have hl2:∀ (S':PS) (g':Nat × Bool),(∃ S3 S4,Runs (StpE tt G C ops n) (List.range' (u+1) (ops.size-(u+1))) S' S3/\Eqv S3 S4/\K' S4 g')->Reg P G f n .fn Y ops l2 g' S' K':=by
   rintro S' g' ⟨S5,S6,k1,k2,k3⟩;have hv:Runs (StpV tt G C ops n u) (List.range ops.size) S' S5:=by
    rw[e0,Runs.append];exact ⟨S',(qe5 _ λ i hi=>Nat.le_of_lt (hm1 i hi)).2 rfl,S',.inl ⟨Nat.le_refl _,rfl⟩,(qd0 _ hm2).2 k1⟩
   obtain ⟨S7,hv2,he5⟩:=qa9 hx.mix (qzq (G:=G) (C:=C) (n:=n) hx.ty u) (w.tape w.drawn (.order b.fn id)) hd hv;rw[e1,Runs.append] at hv2;obtain ⟨z,v1,z2,v2,v3⟩:=hv2;have v1:=(qe5 l1 c1).1 v1;subst v1;have v2:z2=z:=v2.elim (λ q=>q.2) (λ q=>by have:=q.1;omega);subst v2;have v3:=(qd0 l2 c2).1 v3;intro base' Yd' J' lr' b' cs' M' a' w' Z' ν' E' H' A' B' ds' k' st';obtain ⟨M2,Z2,ν2,E2,H2,a2,w2,x1,x2,x3,x4,x5,x6,x7,x8⟩:=qhb hx l2 v3 st'.er st'.rel st'.pr st'.gz b' k' cs';have he6:Eqv S6 S7:=k2.symm.trans he5;have x7':=x7.eqv he6.symm;exact ⟨g',S6,M2,a2,w2,Z2,ν2,E2,H2,A',B',st'.next x1 x2 x3 x4 (x6.eqv he6.symm) x7',x1,x5,.of x7',x8,k3⟩
  unfold runU at h;split at h
  next o ho=>
   split at h
   next hdg=>
    simp only[Bool.and_eq_true] at hdg;intro base' Yd' J' lr' b' cs' M' a' w' Z' ν' E' H' A' B' ds' k' st';have hgn:o.guard=none:=by
     cases hg:o.guard with
     | none=>rfl
     | some q=>rw[hg] at hdg;cases hdg.2
    exact qro hx ho (qeq (by simp[hdg.1])) (qhx (λ S' g' h'=>hl2 S' g' h') h) cs' k' st' (by simp[qak,hgn])
   ·exact h.elim
  ·exact h.elim
 obtain ⟨g1,S4,M4,a4,w4,Z4,ν4,E4,H4,A4,B4,z1,z2,z3,z4,z5,z6⟩:=hreg base Yd J lr b cs M1 a1 w1 Z1 ν1 E1 H1 A B ds k (st.next y1 y2 y3 y4 (y6.eqv he3.symm) y7');refine ⟨g1,S4,M4,a4,w4,Z4,ν4,E4,H4,A4,B4,ds,z1,y1.trans z2,hb1.trans z3,(FCY.of y7').trans z4,λ _ h=>.inl h,λ _=>rfl,.head qcq ?_,hk _ _ z6⟩;rw[e1];exact y8.trans z5
theorem qwb (hx:CxOK P tt G C) {id u:Nat} {ops:Array Oper} {k:List Item} {S:PS} (hlt:u<ops.size) (hd:qgc (swY tt C ops u) ops=true) {K':PS->Nat × Bool->Prop} (h:runO tt G C true n ops (List.range u) (loses C S ops) λ S'=>runU tt G C Y n ops u S' g λ S' g'=>runO tt G C true n ops (List.range' (u+1) (ops.size-(u+1))) S' λ S'=>K' S' g') (hk:∀ S' g',K' S' g'->GoodR P G f n Y R k g' S'):GoodR P G f n Y R (.code (.region id ops true)::k) g S:=by
 obtain ⟨S',S'',h1,h2,h3⟩:=qbg hx.ty _ (Eqv.refl _) h;refine GoodR.less (qjr C S ops) (λ t s h=>h) (GoodR.drawY hx hd hlt h1 h2 (qn2 (λ S g h=>?_) h3) hk);obtain ⟨T',T'',k1,k2,k3⟩:=qbg hx.ty _ (Eqv.refl _) h;exact ⟨T'',T',k1,k2,k3⟩
theorem GoodR.regionE (hx:CxOK P tt G C) {id:Nat} {ops:Array Oper} {k:List Item} {S:PS} {K':PS->Nat × Bool->Prop} (h:runE tt G C Y n ops (List.range ops.size) S g K') (hk:∀ S' g',K' S' g'->GoodR P G f n Y R k g' S'):GoodR P G f n Y R (.code (.region id ops false)::k) g S:=by
 refine .on (k:=k) λ base Yd J lr b cs M a w Z ν E H A B ds st=>?_
 obtain ⟨g1,S1,M1,a1,w1,Z1,ν1,E1,H1,A1,B1,y1,y2,y3,y4,y5,y6⟩:=qfw (rd:=.fn) hx _ h base Yd J lr b cs M a w Z ν E H A B ds k st;exact ⟨g1,S1,M1,a1,w1,Z1,ν1,E1,H1,A1,B1,ds,y1,y2,y3,y4,λ _ h=>.inl h,λ _=>rfl,.head qnv y5,hk _ _ y6⟩
theorem qnu (hx:CxOK P tt G C) {R0:List Item->Nat × Bool->PS->Prop} (hR:∀ it g S,R0 it g S->R it g S) (hK:∀ e it g S,K e g S->EndE e it->R it g S):∀ (m:Nat) (it:List Item) (g:Nat × Bool) (S:PS),syE tt G C n Y K R0 .fn m it g S->GoodR P G f n Y R it g S:=by
 intro m
 induction m with
 | zero=>
  intro it g S h;exact .fin (hR _ _ _ (by simpa only[syE,offR] using h))
 | succ m ih=>
  intro it g S h;have hRR:∀ {it:List Item} {g:Nat × Bool} {S:PS},offR .fn (R0 it g S)->GoodR P G f n Y R it g S:=λ h=>.fin (hR _ _ _ h)
  match it with
  | []=>exact .fin (hK .normal _ _ _ h rfl)
  | .inLoop c::k=>exact .step (λ _ _ _ _=>qnw) (hRR h)
  | .inBlock id::k=>exact .step (λ _ _ _ _=>qlm) (ih _ _ _ h)
  | .inScope c::k=>exact .step (λ _ _ _ _=>qll) (ih _ _ _ h)
  | .beginRound::k=>
   exact h.elim
  | .code c::k=>
   cases c with
   | skip=>exact .step (λ _ _ _ _=>qt3) (ih _ _ _ h)
   | label l=>exact .step (λ _ _ _ _=>qqt) (ih _ _ _ h)
   | seq a b=>exact .step (λ _ _ _ _=>qzs) (ih _ _ _ h)
   | cond o a b=>
    simp only[syE] at h;split at h
    next t ht=>rw[ql6] at h;exact .cond ht (λ e=>ih _ _ _ (h.1 e)) (λ e=>ih _ _ _ (h.2 e))
    ·exact h.elim
   | block id c=>exact .step (λ _ _ _ _=>qqu) (ih _ _ _ h)
   | scope c=>exact .step (λ _ _ _ _=>qqs) (ih _ _ _ h)
   | loop c=>exact .step (λ _ _ _ _=>qt4) (hRR h)
   | exit id=>
    simp only[syE] at h;split at h
    next k' hk=>exact .step (λ _ _ _ _=>qt6 hk) (ih _ _ _ h)
    next hk=>exact .fin (hK (.exit id) _ _ _ h ⟨k,rfl,hk⟩)
   | goto l=>
    simp only[syE] at h;split at h
    next k' hk=>exact .step (λ _ _ _ _=>qt5 hk) (ih _ _ _ h)
    next hk=>exact .fin (hK (.goto l) _ _ _ h ⟨k,rfl,hk⟩)
   | ret=>exact .fin (hK .ret _ _ _ h ⟨k,rfl⟩)
   | region id ops draw=>
    cases draw with
    | false=>
     simp only[syE] at h;exact .regionE hx h λ S' g' h'=>ih _ _ _ h'
    | true=>
     simp only[syE] at h;split at h
     next u hu=>obtain ⟨hu,hd⟩:=qs8 hu;exact qwb hx hu hd h λ S' g' hS=>ih _ _ _ hS
     ·split at h
      next hd=>exact qys hx hd h λ S' hS=>ih _ _ _ hS
      ·exact h.elim
   | rangeFunc f ps a b=>exact hRR h
   | refuse w=>exact h.elim
  | .inRegion _ _::k=>exact h.elim
  | .inRangeFunc _::k=>exact h.elim
  | .endRangeFunc _::k=>exact h.elim
  | .call _ _ _ _::k=>exact h.elim
  | .extern _ _::k=>exact h.elim
end
theorem BR.upd {Z:Nat->Option ABlk} {ν:Nu} {H:AHeap} {i id:Nat} {x:Option NI} {lb:LB} (hne:id≠i) (m:qey i lb=false) (h:BR Z ν H id lb):BR Z (Upd ν i x) H id lb:=by
 have e:Upd ν i x id=ν id:=by unfold Upd;rw[if_neg hne]
 cases lb with
 | var l=>
  obtain ⟨ni,cs,et,h1,h2,h3,h4⟩:=h;exact ⟨ni,cs,et,e.trans h1,h2,h3,CRL.upd l cs m h4⟩
 | row et s xs=>simp only[BR,e] at h |-;exact h
 | mp κ σ l=>simp only[BR,e] at h |-;exact h
 | iter l pos=>simp only[BR,e] at h |-;exact h
def FixL (l:List SV):Prop:=opK l=none/\∀ Z ν cs,CRL Z ν l cs->∀ Z' ν',CRL Z' ν' l cs
structure Fam (l:List Value) (T:Nat->Option (List SV)) (j:Nat) (F:Nat->Prop) (H:AHeap):Prop where
 no:∀ k,k<l.length->k≠j->T k=none->l[k]?=some (.pointer none)
 so:∀ k s,k<l.length->k≠j->T k=some s->opK s=none/\∃ b cs et,l[k]?=some (.pointer (some ⟨b,0,none⟩))/\F b/\H.t.get b=some (.cells cs et 0)/\∀ Z ν,CRL Z ν s cs
 inj:∀ k k' b,k<l.length->k'<l.length->k≠j->k'≠j->l[k]?=some (.pointer (some ⟨b,0,none⟩))->l[k']?=some (.pointer (some ⟨b,0,none⟩))->k=k'
 bk:∀ b,F b->∃ k,k<l.length/\k≠j/\l[k]?=some (.pointer (some ⟨b,0,none⟩))
theorem Fam.get {l:List Value} {T:Nat->Option (List SV)} {j:Nat} {F:Nat->Prop} {H:AHeap} (h:Fam l T j F H) {b:Nat} (hb:F b):∃ cs et,H.t.get b=some (.cells cs et 0):=by
 obtain ⟨k,h1,h2,h3⟩:=h.bk b hb
 cases ht:T k with
 | none=>have:=h.no k h1 h2 ht;rw[h3] at this;cases this
 | some s=>
  obtain ⟨_,b',cs,et,g1,g2,g3,g4⟩:=h.so k s h1 h2 ht;rw[h3] at g1;cases g1;exact ⟨cs,et,g3⟩
theorem Fam.stab {l:List Value} {T:Nat->Option (List SV)} {j:Nat} {F:Nat->Prop} {H H':AHeap} (h:Fam l T j F H) (hF:∀ b y,F b->H.t.get b=some y->H'.t.get b=some y):Fam l T j F H' where
 no:=h.no
 so k s h1 h2 h3:=by
  obtain ⟨h0,b,cs,et,g1,g2,g3,g4⟩:=h.so k s h1 h2 h3;exact ⟨h0,b,cs,et,g1,g2,hF _ _ g2 g3,g4⟩
 inj:=h.inj
 bk:=h.bk
def JH (J:Jt) (l:List Value) (T:Nat->Option (List SV)) (j:Nat) (F:Nat->Prop):Jt:=λ i s A' B H=>∃ A,J i s A B H/\Fam l T j F H/\A'=(λ c=>A c\/F c)/\∀ c,A c->¬ F c
theorem JH.hd {P:Program} {base:Prot} {G:GV} {Yd:Nat->Prop} {J:Jt} {l:List Value} {T:Nat->Option (List SV)} {j:Nat} {F:Nat->Prop} (h:HdOK P base G Y0 Yd J):HdOK P base G Y0 Yd (JH J l T j F) where
 stab i s A' B H H':=by
  rintro ⟨A,h1,h2,rfl,h4⟩ g1 g2;exact ⟨A,h.stab _ _ _ _ _ _ h1 (λ b y hb=>g1 b y (.inl hb)) g2,h2.stab (λ b y hb=>g1 b y (.inr hb)),rfl,h4⟩
 dom i s A' B H:=by
  rintro ⟨A,h1,h2,rfl,h4⟩;obtain ⟨d1,d2⟩:=h.dom _ _ _ _ _ h1;refine ⟨λ b hb=>?_,λ b hb=>.inl (d2 b hb)⟩;rcases hb with k | k
  ·exact d1 b k
  ·obtain ⟨cs,et,g⟩:=h2.get k;exact ⟨_,g⟩
 yld i y A B H M w Z args args' c cs h1:=by
  have h1:([]:List (DL Y0.as))[i]?=some y:=h1;simp at h1
structure FCT (X F:Nat->Prop) (Z:Nat->Option ABlk) (ν:Nu) (S:PS) (H:AHeap) (A B:Nat->Prop) (Z':Nat->Option ABlk) (ν':Nu) (S':PS) (H':AHeap) (A' B':Nat->Prop):Prop where
 z:ZLe Z Z'
 zn:∀ b,Z' b≠none->Z b≠none\/H.next<=b\/Own ν S b\/F b
 le:H.next<=H'.next
 old:∀ b x,H.t.get b=some x->b<H.next->¬ Own ν S b->¬ F b->¬ B b->¬ X b->H'.t.get b=some x
 own:∀ b,Own ν' S' b->Own ν S b\/F b\/H.next<=b
 bb:∀ b,B' b->B b\/H.next<=b
 aa:∀ b,A' b->A b\/H.next<=b\/Z' b≠none
 big:∀ id,BIG<=id->lk S'.blk id≠none->lk S.blk id≠none/\ν' id=ν id
def GoodT (P:Program) (G:GV) (f:FuncId) (n:Nat) (K:AExit->Nat × Bool->PS->Prop) (l:List Value) (T:Nat->Option (List SV)) (j:Nat) (it:List Item) (S:PS):Prop:=
 ∀ (g:Nat × Bool) (base:Prot) (Yd:Nat->Prop) (J:Jt) (lr:LR) (b:Frame) (cs:List Frame) (M:Map) (a:Act) (w:World) (Z:Nat->Option ABlk) (ν:Nu) (E:Ax.T Value) (H:AHeap) (A B:Nat->Prop) (ds:List Nat) (F:Nat->Prop),
  HdOK P base G Y0 Yd J->J g.1 g.2 A B H->Fam l T j F H->(∀ c,A c->¬ F c)->OnW P G f n .fn Y0 base Yd (JH J l T j F) lr b g S M a w Z ν E H (λ c=>A c\/F c) B ds->(∀ c,F c->Z c=none)->(∀ c,F c->Yd c) ->
  ∃ e g' S' M' a' w' Z' ν' E' H' A' B' ds' k0,K e g' S'/\OnW P G f n .fn Y0 base Yd J lr b g' S' M' a' w' Z' ν' E' H' A' B' ds'/\Ext M M'/\Below base w w'/\FCT (XL .fn lr) F Z ν S H A B Z' ν' S' H' A' B' /\
   (∀ d∈ds',d∈ds\/H.next<=d)/\Steps P (lone (Fr b a it) cs w) (lone (Fr b a' k0) cs w')/\EndE e k0
section
variable {P:Program} {tt:TT} {G:GV} {C:CV} {f:FuncId} {n:Nat} {K:AExit->Nat × Bool->PS->Prop} {l:List Value} {T:Nat->Option (List SV)} {j:Nat} {S:PS}
theorem GoodT.start {m:Nat} {it:List Item} (h:GoodT P G f n K (List.replicate m (.pointer none)) (λ _=>none) j it S) (g:Nat × Bool):GoodE P G f n .fn Y0 K it g S:=by
 intro base Yd J lr b cs M a w Z ν E H A B ds st;have hF:Fam (List.replicate m (.pointer none)) (λ _=>none) j (λ _=>False) H:=by
  refine ⟨λ k h1 _ _=>?_,λ k s _ _ h=>(by cases h),λ k k' b h1 _ _ _ h _=>?_,λ b h=>h.elim⟩
  ·rw[List.length_replicate] at h1;simp[h1]
  ·rw[List.length_replicate] at h1;simp[h1] at h
 have st':OnW P G f n .fn Y0 base Yd (JH J (List.replicate m (.pointer none)) (λ _=>none) j λ _=>False) lr b g S M a w Z ν E H (λ c=>A c\/False) B ds:=⟨JH.hd st.hd,⟨A,st.j,hF,rfl,λ c _ h=>h⟩,λ c hc=>hc.elim (st.dis c) False.elim,st.bz,st.yz,st.yn,st.yo,st.fr,λ h=>absurd rfl h,st.er,st.mark,λ d hd' hc=>hc.elim (st.mb d hd') id,st.rel,st.pr,st.gz⟩;obtain ⟨e,g',S',M',a',w',Z',ν',E',H',A',B',ds',k0,x1,x2,x3,x4,x5,x6,x7,x8⟩:=h g base Yd J lr b cs M a w Z ν E H A B ds (λ _=>False) st.hd st.j hF (λ c _ h=>h) st' (λ c h=>h.elim) (λ c h=>h.elim);refine ⟨e,g',S',M',a',w',Z',ν',E',H',A',B',ds',k0,x1,x2,x3,x4,⟨x5.z,λ b hb=>?_,x5.le,λ b x h1 h2 h3 h4 h5=>x5.old b x h1 h2 h3 (λ h=>h) h4 h5,λ b hb=>?_,x5.bb,x5.aa,x5.big⟩,x6,λ h=>absurd rfl h,x7,x8⟩
 ·rcases x5.zn b hb with k | k | k | k
  ·exact .inl k
  ·exact .inr (.inl k)
  ·exact .inr (.inr k)
  ·exact k.elim
 ·rcases x5.own b hb with k | k | k
  ·exact .inl k
  ·exact k.elim
  ·exact .inr k
theorem GoodT.run {R:List Item->Nat × Bool->PS->Prop} {it:List Item} (hK:∀ e g g' S,K e g S->K e g' S) (h:GoodR P G f n Y0 R it (0,false) S) (hR:∀ it' g' S',R it' g' S'->(∃ e,K e g' S'/\EndE e it')\/GoodT P G f n K l T j it' S'):GoodT P G f n K l T j it S:=by
 intro g base Yd J lr b cs M a w Z ν E H A B ds F hd j1 j2 j4 st hz hy
 have hd':HdOK P base G Y0 Yd (λ _ _ A B H=>J g.1 g.2 A B H):=⟨λ i s A B H H' h1=>hd.stab _ _ A B H H' h1,λ i s A B H h1=>hd.dom _ _ A B H h1,λ i y A B H M w Z args args' c cs h1=>by
  have h1:([]:List (DL Y0.as))[i]?=some y:=h1
  simp at h1⟩
 obtain ⟨it1,g1,S1,M1,a1,w1,Z1,ν1,E1,H1,A1,B1,ds1,x1,x2,x3,x4,x5,x6,x7⟩:=h base Yd (JH (λ _ _ A B H=>J g.1 g.2 A B H) l T j F) lr b cs M a w Z ν E H _ B ds ⟨JH.hd hd',⟨A,j1,j2,rfl,j4⟩,st.dis,st.bz,st.yz,st.yn,st.yo,st.fr,st.lp,st.er,st.mark,st.mb,st.rel,st.pr,st.gz⟩;have hlt:∀ c,F c->c<H.next:=λ c hc=>by obtain ⟨_,_,hg⟩:=j2.get hc;exact st.rel.dom _ _ hg
 have hdis:∀ c,F c->¬ Own ν S c:=λ c hc=>st.dis c (.inr hc)
 obtain ⟨A2,y1,y2,rfl,y4⟩:=x2.j;have haa:∀ b,A2 b->A b\/H.next<=b\/Z1 b≠none:=λ b hb=>by
  rcases x5.aa b (.inl hb) with (k | k) | k
  ·exact .inl k
  ·exact absurd k (y4 b hb)
  ·exact .inr k
 rcases hR _ _ _ x1 with ⟨e,k1,k2⟩ | k
 ·refine ⟨e,g,S1,M1,a1,w1,Z1,ν1,E1,H1,A2,B1,ds1,it1,hK _ _ _ _ k1,⟨hd,y1,λ c hc=>x2.dis c (.inl hc),x2.bz,x2.yz,x2.yn,x2.yo,x2.fr,λ h=>absurd rfl h,x2.er,x2.mark,λ d hd' hc=>x2.mb d hd' (.inl hc),x2.rel,x2.pr,x2.gz⟩,x3,x4,⟨x5.z,λ b hb=>?_,x5.le,λ b x h1 h2 h3 h4 h5 h6=>x5.old b x h1 h2 h3 h5 h6,λ b hb=>?_,x5.bb,haa,x5.big⟩,x6,x7,k2⟩
  ·rcases x5.zn b hb with k | k | k
   ·exact .inl k
   ·exact .inr (.inl k)
   ·exact .inr (.inr (.inl k))
  ·rcases x5.own b hb with k | k
   ·exact .inl k
   ·exact .inr (.inr k)
 ·have hz1:∀ c,F c->Z1 c=none:=λ c hc=>by
   cases hq:Z1 c with
   | none=>rfl
   | some y=>
    exfalso;rcases x5.zn c (by rw[hq];simp) with q | q | q
    ·exact q (hz c hc)
    ·have:=hlt c hc;omega
    ·exact hdis c hc q
  obtain ⟨e,g',S',M',a',w',Z',ν',E',H',A',B',ds',k0,z1,z2,y3,z4,y5,y6,y7,y8⟩:=k g base Yd J lr b cs M1 a1 w1 Z1 ν1 E1 H1 A2 B1 ds1 F hd y1 y2 y4 ⟨JH.hd hd,⟨A2,y1,y2,rfl,y4⟩,x2.dis,x2.bz,x2.yz,x2.yn,x2.yo,x2.fr,x2.lp,x2.er,x2.mark,x2.mb,x2.rel,x2.pr,x2.gz⟩ hz1 hy;refine ⟨e,g',S',M',a',w',Z',ν',E',H',A',B',ds',k0,z1,z2,x3.trans y3,x4.trans z4,⟨x5.z.trans y5.z,λ b hb=>?_,Nat.le_trans x5.le y5.le,λ b x h1 h2 h3 h4 h5 h6=>y5.old b x (x5.old b x h1 h2 h3 h5 h6) (Nat.lt_of_lt_of_le h2 x5.le) (λ k=>?_) h4 (λ k=>?_) h6,λ b hb=>?_,λ b hb=>?_,λ b hb=>?_,λ id hb h=>?_⟩,λ d hd'=>?_,x7.trans y7,y8⟩
  ·rcases y5.zn b hb with k | k | k | k
   ·rcases x5.zn b k with q | q | q
    ·exact .inl q
    ·exact .inr (.inl q)
    ·exact .inr (.inr (.inl q))
   ·exact .inr (.inl (Nat.le_trans x5.le k))
   ·rcases x5.own b k with q | q
    ·exact .inr (.inr (.inl q))
    ·exact .inr (.inl q)
   ·exact .inr (.inr (.inr k))
  ·rcases x5.own b k with q | q
   ·exact h3 q
   ·omega
  ·rcases x5.bb b k with q | q
   ·exact h5 q
   ·omega
  ·rcases y5.own b hb with k | k | k
   ·rcases x5.own b k with q | q
    ·exact .inl q
    ·exact .inr (.inr q)
   ·exact .inr (.inl k)
   ·exact .inr (.inr (Nat.le_trans x5.le k))
  ·rcases y5.bb b hb with k | k
   ·exact x5.bb b k
   ·exact .inr (Nat.le_trans x5.le k)
  ·rcases y5.aa b hb with k | k | k
   ·rcases haa b k with q | q | q
    ·exact .inl q
    ·exact .inr (.inl q)
    ·refine .inr (.inr ?_);obtain ⟨x,hx⟩:=Option.ne_none_iff_exists'.1 q;rw[y5.z b x hx];simp
   ·exact .inr (.inl (Nat.le_trans x5.le k))
   ·exact .inr (.inr k)
  ·obtain ⟨h1,e1⟩:=y5.big id hb h;obtain ⟨h2,e2⟩:=x5.big id hb h1;exact ⟨h2,e1.trans e2⟩
  ·rcases y6 d hd' with k | k
   ·exact x6 d k
   ·exact .inr (Nat.le_trans x5.le k)
theorem GoodT.conv {it:List Item} (h:∀ (Z:Nat→Option ABlk) (ν:Nu) (E:Ax.T Value) (H:AHeap) (F:Nat→Prop),PR Z ν S E H→Fam l T j F H→(∀ c,F c→Z c=none)→(∀ c,F c→¬ Own ν S c) →
   ∃ S' l' T' j' ν' F',GoodT P G f n K l' T' j' it S'/\PR Z ν' S' E H/\Fam l' T' j' F' H/\(∀ b,Own ν' S' b\/F' b->Own ν S b\/F b)/\(∀ b,F' b->¬ Own ν' S' b)/\∀ id,BIG<=id->lk S'.blk id≠none->lk S.blk id≠none/\ν' id=ν id):GoodT P G f n K l T j it S:=by
 intro g base Yd J lr b cs M a w Z ν E H A B ds F hd j1 j2 j4 st hz hy;have hdis:∀ c,F c->¬ Own ν S c:=λ c hc=>st.dis c (.inr hc)
 obtain ⟨S1,l',T',j',ν1,F',h1,h2,h3,h4,h5,h6⟩:=h Z ν E H F st.pr j2 hz hdis;have hA0:∀ c,A c->¬ (Own ν S c\/F c):=λ c hc q=>q.elim (st.dis c (.inl hc)) (j4 c hc)
 have hOF:∀ c,Own ν S c\/F c->Yd c:=λ c hc=>hc.elim (st.yo c) (hy c)
 have hAF:∀ c,A c->¬ F' c:=λ c hc q=>hA0 c hc (h4 c (.inr q))
 have st':OnW P G f n .fn Y0 base Yd (JH J l' T' j' F') lr b g S1 M a w Z ν1 E H (λ c=>A c\/F' c) B ds:=
  ⟨JH.hd hd,⟨A,j1,h3,rfl,hAF⟩,λ c hc ho=>hc.elim (λ q=>hA0 c q (h4 c (.inl ho))) (λ q=>h5 c q ho),st.bz,st.yz,st.yn,λ c hc=>hOF c (h4 c (.inl hc)),st.fr,λ h=>absurd rfl h,st.er,st.mark,λ d hd' hc=>hc.elim (λ q=>st.mb d hd' (.inl q)) (λ q=>by
   obtain ⟨_,_,hg⟩:=h3.get q;have:=st.mark.2.1 d hd'
   rw[hg] at this;cases this),st.rel,h2,st.gz⟩
 obtain ⟨e,g',S',M',a',w',Z',ν',E',H',A',B',ds',k0,y1,y2,y3,y4,y5,y6,y7,y8⟩:=h1 g base Yd J lr b cs M a w Z ν1 E H A B ds F' hd j1 h3 hAF st' (λ c hc=>(h4 c (.inr hc)).elim (st.pr.zo c) (hz c)) (λ c hc=>hOF c (h4 c (.inr hc)));refine ⟨e,g',S',M',a',w',Z',ν',E',H',A',B',ds',k0,y1,y2,y3,y4,⟨y5.z,λ b hb=>?_,y5.le,λ b x g1 g2 g3 g4 g5 g6=>y5.old b x g1 g2 (λ q=>(h4 b (.inl q)).elim g3 g4) (λ q=>(h4 b (.inr q)).elim g3 g4) g5 g6,λ b hb=>?_,y5.bb,y5.aa,λ id hb hi=>?_⟩,y6,y7,y8⟩
 ·rcases y5.zn b hb with k | k | k | k
  ·exact .inl k
  ·exact .inr (.inl k)
  ·exact .inr (.inr (h4 b (.inl k)))
  ·exact .inr (.inr (h4 b (.inr k)))
 ·rcases y5.own b hb with k | k | k
  ·exact (h4 b (.inl k)).elim .inl (λ q=>.inr (.inl q))
  ·exact (h4 b (.inr k)).elim .inl (λ q=>.inr (.inl q))
  ·exact .inr (.inr k)
 ·obtain ⟨q1,q2⟩:=y5.big id hb hi;obtain ⟨q3,q4⟩:=h6 id hb q1;exact ⟨q3,q2.trans q4⟩
theorem GoodT.go (hx:CxOK P tt G C) {res:List ResultVar} {Q:List SV->List (Nat × LB)->Prop} {it:List Item} {p:Prop} (e:sy tt G C n res Q (GoodT P G f n (endK tt G res Q) l T j) 1000 it S=p) (h:p):GoodT P G f n (endK tt G res Q) l T j it S:=
 .run (R:=λ it' g' S'=>(∃ e,endK tt G res Q e g' S'/\EndE e it')\/GoodT P G f n (endK tt G res Q) l T j it' S') qf6 (qnu hx (R0:=λ it _ S=>GoodT P G f n (endK tt G res Q) l T j it S) (λ _ _ _ h=>.inr h) (λ e _ _ _ h1 h2=>.inl ⟨e,h1,h2⟩) 1000 it (0,false) S (show sy tt G C n res Q (GoodT P G f n (endK tt G res Q) l T j) 1000 it S from e ▸ h)) λ _ _ _ h=>h
theorem GoodT.less {it:List Item} {S':PS} (he:∀ t s,lk S'.env t=some s->lk S.env t=some s) (hb:∀ t s,lk S'.blk t=some s->lk S.blk t=some s) (h:GoodT P G f n K l T j it S'):GoodT P G f n K l T j it S:=
 .conv λ Z ν E H F hp hf hz hd=>by
  have hown:∀ b,Own ν S' b->Own ν S b:=λ b ⟨id,lb,ni,g1,g2,g3⟩=>⟨id,lb,ni,hb _ _ g1,g2,g3⟩
  refine ⟨S',l,T,j,ν,F,h,⟨λ t s e=>hp.env t s (he t s e),λ t s e=>hp.blk t s (hb t s e),hp.zh,λ b ho=>hp.zo b (hown b ho),λ i j li lj ni nj g1 g2=>hp.inj i j li lj ni nj (hb _ _ g1) (hb _ _ g2)⟩,hf,λ b hb'=>hb'.imp_left (hown b),λ b h1 h2=>hd b h1 (hown b h2),λ id _ hi=>⟨?_,rfl⟩⟩;obtain ⟨x,hx⟩:=Option.ne_none_iff_exists'.1 hi;rw[hb _ _ hx];simp
theorem GoodT.only {it:List Item} {S':PS} (h:GoodT P G f n K l T j it S') (he:allIn S.env S'.env) (hb:allIn S.blk S'.blk):GoodT P G f n K l T j it S:=
 GoodT.less (qet _ he) (qet _ hb) h
theorem GoodT.onlyR {it:List Item} {S':PS} (h:GoodT P G f n K l T j it S') (r:List (Nat × Nat)) (hr:qva r S'=true) (he:qo3 r S.env S'.env) (hb:qo4 r S.blk S'.blk):GoodT P G f n K l T j it S:=
 .conv λ Z ν E H F hp hf hz hd=>by
  simp only[qva,Bool.and_eq_true,decide_eq_true_eq,List.all_eq_true] at hr;have hbig:∀ i,BIG<=i->rho r i=i:=by
   intro i hi;unfold rho
   cases hl:lk r i with
   | none=>rfl
   | some j=>
    exfalso;obtain ⟨p,hp,rfl⟩:=qoe hl;have:=hr.2 p hp;omega
  have hown:∀ b,Own (λ i=>ν (rho r i)) S' b->Own ν S b:=λ b ⟨id,lb,ni,g1,g2,g3⟩=>⟨rho r id,_,ni,qbp hb _ _ g1,g2,g3⟩
  have hp':PR Z (λ i=>ν (rho r i)) S' E H:=by
   refine ⟨λ t s e=>?_,λ t s e=>(hp.blk _ _ (qbp hb t s e)).back,hp.zh,λ b ho=>hp.zo b (hown b ho),λ i j li lj ni nj g1 g2 g3 g4 g5=>?_⟩
   ·obtain ⟨v,k1,k2⟩:=hp.env t _ (qk4 he t s e);exact ⟨v,k1,k2.back⟩
   ·exact qej hr.1 (by rw[g1];simp) (by rw[g2];simp) (hp.inj _ _ _ _ _ _ (qbp hb _ _ g1) (qbp hb _ _ g2) g3 g4 g5)
  refine ⟨S',l,T,j,λ i=>ν (rho r i),F,h,hp',hf,λ b hb'=>hb'.imp_left (hown b),λ b h1 h2=>hd b h1 (hown b h2),λ i g1 g2=>?_⟩;obtain ⟨lb,hl⟩:=Option.ne_none_iff_exists'.1 g2;have:=qbp hb _ _ hl;rw[hbig i g1] at this;exact ⟨by rw[this];simp,by show ν (rho r i)=_;rw[hbig i g1]⟩
theorem GoodT.keep {a b:List Nat} {it:List Item} (h:GoodT P G f n K l T j it (qar a b S)):GoodT P G f n K l T j it S:=
 GoodT.less (λ _ _ e=>qd5 (p:=λ i=>a.contains i) e) (λ _ _ e=>qd5 (p:=λ i=>b.contains i) e) h
theorem GoodT.goK (hx:CxOK P tt G C) {a b:List Nat} {res:List ResultVar} {Q:List SV->List (Nat × LB)->Prop} {it:List Item} {p:Prop} (e:sy tt G C n res Q (λ it S=>GoodT P G f n (endK tt G res Q) l T j it (qar a b S)) 1000 it S=p) (h:p):GoodT P G f n (endK tt G res Q) l T j it S:=
 .run (R:=λ it' g' S'=>(∃ e,endK tt G res Q e g' S'/\EndE e it')\/GoodT P G f n (endK tt G res Q) l T j it' S') qf6 (qnu hx (R0:=λ it _ S=>GoodT P G f n (endK tt G res Q) l T j it (qar a b S)) (λ _ _ _ h=>.inr h.keep) (λ e _ _ _ h1 h2=>.inl ⟨e,h1,h2⟩) 1000 it (0,false) S (show sy tt G C n res Q (λ it S=>GoodT P G f n (endK tt G res Q) l T j it (qar a b S)) 1000 it S from e ▸ h)) λ _ _ _ h=>h
theorem CRL.cut {Z:Nat->Option ABlk} {ν:Nu}:∀ {p:List SV} {r:List SV} {cs:List Value},CRL Z ν (p++r) cs->∃ u w,cs=u++w/\CRL Z ν p u/\CRL Z ν r w
 | [],r,cs,h=>⟨[],cs,rfl,rfl,h⟩
 | s::p,r,cs,h=>by
  simp only[List.cons_append,CRL] at h;obtain ⟨u,w,rfl,h1,h2⟩:=h;obtain ⟨u',w',rfl,h3,h4⟩:=CRL.cut h2;exact ⟨u++u',w',(List.append_assoc _ _ _).symm,by simp only[CRL];exact ⟨u,u',rfl,h1,h3⟩,h4⟩
theorem CR.ptn {Z:Nat->Option ABlk} {ν:Nu} {m b:Nat} {p r:List SV} {s:SV} {v:Value} {cs:List Value} (h:CRL Z ν (p++.pta m l m [.nilp]::r) cs) (hb:l[b]?=some v) (hs:CR Z ν s [v]) (hv:ptV v):l.length=m/\CRL Z ν (p++.pta m l b [s]::r) cs:=by
 obtain ⟨c1,c2,rfl,hp,h⟩:=h.cut;simp only[CRL,CR] at h;obtain ⟨u,w,rfl,⟨us,x,h1,h2,h3,h4,h5,rfl⟩,h6⟩:=h;refine ⟨h5,CRL.app hp ?_⟩;simp only[CRL,CR];refine ⟨_,w,rfl,⟨[v],v,⟨[v],[],rfl,hs,rfl⟩,rfl,hv,h4,h5,?_⟩,h6⟩;rw[List.set_eq_of_length_le (by omega)];refine List.ext_getElem? λ k=>?_
 by_cases hk:b=k
 ·subst hk;rw[hb,List.getElem?_set_self];exact (List.getElem?_eq_some_iff.1 hb).1
 ·rw[List.getElem?_set_ne hk]
theorem qmr {Z:Nat->Option ABlk} {ν:Nu} {m j:Nat} {p s r:List SV} {cs:List Value} (h:CRL Z ν (p++.pta m l j s::r) cs):l.length=m/\∀ w∈l,ptV w:=by
 obtain ⟨c1,c2,rfl,hp,h⟩:=h.cut;simp only[CRL,CR] at h;obtain ⟨u,w,rfl,⟨us,x,h1,h2,h3,h4,h5,rfl⟩,h6⟩:=h;exact ⟨h5,h4⟩
theorem qie {m j m' j':Nat} {l':List Value} {s s' p r:List SV}:opK (p++.pta m l j s::r)=opK (p++.pta m' l' j' s'::r):=by
 cases p with
 | nil=>cases r <;> rfl
 | cons a p=>
  cases p with
  | nil=>show opK (a::.pta m l j s::r)=opK (a::.pta m' l' j' s'::r);simp only[opK,opE]
  | cons b p=>rfl
theorem GoodT.open0P {it:List Item} {q b m:Nat} {p r:List SV} (hq:lk S.blk q=some (.var (p++.pta m l m [.nilp]::r))) (hb:b<m) (hT:T b=none) (h:GoodT P G f n K l T b it ⟨S.env,st S.blk q (.var (p++.pta m l b [.nilp]::r))⟩):GoodT P G f n K l T m it S:=
 .conv λ Z ν E H F hp hf hz hd=>by
  obtain ⟨ni,cs,et,h1,h2,h3,h4⟩:=hp.blk q _ hq;have hlen:=(qmr h4).1;have hv:=hf.no b (by omega) (by omega) hT;have hlk:∀ t lb,lk (st S.blk q (.var (p++.pta m l b [.nilp]::r))) t=some lb->(t=q/\lb=.var (p++.pta m l b [.nilp]::r))\/(t≠q/\lk S.blk t=some lb):=by
   intro t lb e;rw[qan] at e;split at e
   next q1=>cases e;exact .inl ⟨q1,rfl⟩
   next q1=>exact .inr ⟨q1,e⟩
  have hsm:∀ t lb,lk (st S.blk q (.var (p++.pta m l b [.nilp]::r))) t=some lb->∃ lb',lk S.blk t=some lb':=by
   intro t lb e;rcases hlk t lb e with ⟨rfl,_⟩ | ⟨_,e⟩
   ·exact ⟨_,hq⟩
   ·exact ⟨_,e⟩
  have hown:∀ c,Own ν ⟨S.env,st S.blk q (.var (p++.pta m l b [.nilp]::r))⟩ c->Own ν S c:=λ c ⟨id,lb,ni,g1,g2,g3⟩=>by
   obtain ⟨lb',e⟩:=hsm _ _ g1;exact ⟨id,lb',ni,e,g2,g3⟩
  refine ⟨_,l,T,b,ν,F,h,⟨hp.env,λ t lb e=>?_,hp.zh,λ c hc=>hp.zo c (hown c hc),λ i j li lj ni nj g1 g2 g3 g4 g5=>?_⟩,⟨λ k k1 k2=>hf.no k k1 (by omega),λ k s k1 k2=>hf.so k s k1 (by omega),λ k k' c k1 k2 k3 k4=>hf.inj k k' c k1 k2 (by omega) (by omega),λ c hc=>?_⟩,λ c hc=>hc.imp_left (hown c),λ c k1 k2=>hd c k1 (hown c k2),λ id _ hi=>⟨?_,rfl⟩⟩
  ·rcases hlk t lb e with ⟨rfl,rfl⟩ | ⟨_,e⟩
   ·exact ⟨ni,cs,et,h1,h2.of qie,by rw[qjg qie];exact h3,(CR.ptn (s:=.nilp) h4 hv rfl ⟨_,rfl⟩).2⟩
   ·exact hp.blk t lb e
  ·obtain ⟨_,e1⟩:=hsm _ _ g1;obtain ⟨_,e2⟩:=hsm _ _ g2;exact hp.inj i j _ _ ni nj e1 e2 g3 g4 g5
  ·obtain ⟨k,k1,k2,k3⟩:=hf.bk c hc;exact ⟨k,k1,(λ e=>by subst e;rw[hv] at k3;cases k3),k3⟩
  ·obtain ⟨x,hx⟩:=Option.ne_none_iff_exists'.1 hi;obtain ⟨_,e⟩:=hsm _ _ hx;rw[e];simp
theorem GoodT.open0 {it:List Item} {q b m:Nat} {r:List SV} (hq:lk S.blk q=some (.var (.pta m l m [.nilp]::r))) (hb:b<m) (hT:T b=none) (h:GoodT P G f n K l T b it ⟨S.env,st S.blk q (.var (.pta m l b [.nilp]::r))⟩):GoodT P G f n K l T m it S:=GoodT.open0P (p:=[]) hq hb hT h
def ownN (id:Nat) (S:PS):Bool:=(S.env.all λ p => !ment id p.2)&&S.blk.all λ p => !qey id p.2
theorem GoodT.open1P {it:List Item} {q b m id:Nat} {p r s:List SV} (hq:lk S.blk q=some (.var (p++.pta m l m [.nilp]::r))) (hb:b<m) (hT:T b=some s) (hid:lk S.blk id=none) (hB:id<BIG) (hn:ownN id S=true)
  (h:GoodT P G f n K l T b it ⟨S.env,st (st S.blk q (.var (p++.pta m l b [.ptr id 0]::r))) id (.var s)⟩):GoodT P G f n K l T m it S:=
 .conv λ Z ν E H F hp hf hz hd=>by
  obtain ⟨ni,cs,et,h1,h2,h3,h4⟩:=hp.blk q _ hq;have hlen:=(qmr h4).1;obtain ⟨ho,x,us,ut,x1,x2,x3,x4⟩:=hf.so b s (by omega) (by omega) hT;have hqi:q≠id:=λ e=>by subst e;rw[hq] at hid;cases hid
  simp only[ownN,Bool.and_eq_true,List.all_eq_true,Bool.not_eq_true'] at hn;have hme:∀ t s,lk S.env t=some s->ment id s=false:=λ t s e=>hn.1 (t,s) (qa4 e)
  have hmb:∀ t s,lk S.blk t=some s->qey id s=false:=λ t s e=>hn.2 (t,s) (qa4 e)
  let ν':=Upd ν id (some ⟨x,some us.length⟩)
  let S':PS:=⟨S.env,st (st S.blk q (.var (p++.pta m l b [.ptr id 0]::r))) id (.var s)⟩
  have eν:∀ t,t≠id->ν' t=ν t:=λ t ht=>if_neg ht
  have eν':ν' id=some ⟨x,some us.length⟩:=if_pos rfl;have hlk:∀ t lb,lk S'.blk t=some lb->(t=id/\lb=.var s)\/(t=q/\t≠id/\lb=.var (p++.pta m l b [.ptr id 0]::r))\/(t≠id/\t≠q/\lk S.blk t=some lb):=by
   intro t lb e;simp only[S',qan] at e;split at e
   next q1=>cases e;exact .inl ⟨q1,rfl⟩
   next q1=>
    split at e
    next q2=>cases e;exact .inr (.inl ⟨q2,q1,rfl⟩)
    next q2=>exact .inr (.inr ⟨q1,q2,e⟩)
  have hsm:∀ t lb,lk S'.blk t=some lb->t=id\/(t≠id/\∃ lb',lk S.blk t=some lb'):=by
   intro t lb e;rcases hlk t lb e with ⟨rfl,_⟩ | ⟨rfl,g,_⟩ | ⟨g,_,e⟩
   ·exact .inl rfl
   ·exact .inr ⟨g,_,hq⟩
   ·exact .inr ⟨g,_,e⟩
  have hown:∀ c,Own ν' S' c->c=x\/Own ν S c:=λ c ⟨i,lb,ni,g1,g2,g3⟩=>by
   rcases hsm _ _ g1 with rfl | ⟨g,lb',e⟩
   ·rw[eν'] at g2;cases g2;exact .inl g3.symm
   ·rw[eν _ g] at g2;exact .inr ⟨i,lb',ni,e,g2,g3⟩
  refine ⟨S',l,T,b,ν',λ c=>F c/\c≠x,h,⟨λ t s e=>?_,λ t lb e=>?_,hp.zh,λ c hc=>?_,λ i j li lj ni nj g1 g2 g3 g4 g5=>?_⟩,⟨λ k k1 k2=>hf.no k k1 (by omega),λ k s k1 k2 k3=>?_,λ k k' c k1 k2 k3 k4=>hf.inj k k' c k1 k2 (by omega) (by omega),λ c hc=>?_⟩,λ c hc=>?_,λ c k1 k2=>?_,λ i hi hi2=>?_⟩
  ·obtain ⟨v,k1,k2⟩:=hp.env t s e;exact ⟨v,k1,k2.upd (hme t s e)⟩
  ·rcases hlk t lb e with ⟨rfl,rfl⟩ | ⟨rfl,g,rfl⟩ | ⟨g1,g2,e⟩
   ·exact ⟨⟨x,some us.length⟩,us,ut,eν',.inl rfl,by simpa [kT] using x3,x4 _ _⟩
   ·have hm:=hmb _ _ hq;have h4':=CRL.upd (i:=id) (x:=some ⟨x,some us.length⟩) _ _ hm h4;exact ⟨ni,cs,et,(eν _ g).trans h1,h2.of qie,by rw[qjg qie];exact h3,(CR.ptn (s:=.ptr id 0) h4' x1 (by simp only[CR];exact ⟨_,eν',rfl⟩) ⟨_,rfl⟩).2⟩
   ·exact (hp.blk t lb e).upd g1 (hmb t lb e)
  ·rcases hown c hc with rfl | k
   ·exact hz _ x2
   ·exact hp.zo c k
  ·have key:∀ {i j:Nat} {lj:LB} {ni nj:NI},i=id->lk S'.blk j=some lj->ν' i=some ni->ν' j=some nj->ni.b=nj.b->i=j:=by
    intro i j lj ni nj hi g2 g3 g4 g5;subst hi;rcases hsm _ _ g2 with rfl | ⟨g,lb',e⟩
    ·rfl
    ·exfalso;rw[eν'] at g3;cases g3;rw[eν _ g] at g4;exact hd x x2 ⟨j,lb',nj,e,g4,g5.symm⟩
   rcases hsm _ _ g1 with e | ⟨a1,lb1,e1⟩
   ·exact key e g2 g3 g4 g5
   ·rcases hsm _ _ g2 with e | ⟨a2,lb2,e2⟩
    ·exact (key e g1 g4 g3 g5.symm).symm
    ·rw[eν _ a1] at g3;rw[eν _ a2] at g4;exact hp.inj i j _ _ ni nj e1 e2 g3 g4 g5
  ·obtain ⟨y0,y,ys,yt,y1,y2,y3,y4⟩:=hf.so k s k1 (by omega) k3;refine ⟨y0,y,ys,yt,y1,⟨y2,λ e=>?_⟩,y3,y4⟩;subst e;exact k2 (hf.inj k b y k1 (by omega) (by omega) (by omega) y1 x1)
  ·obtain ⟨k,k1,k2,k3⟩:=hf.bk c hc.1;exact ⟨k,k1,(λ e=>by subst e;rw[x1] at k3;cases k3;exact hc.2 rfl),k3⟩
  ·rcases hc with k | k
   ·rcases hown c k with rfl | k
    ·exact .inr x2
    ·exact .inl k
   ·exact .inr k.1
  ·rcases hown c k2 with rfl | k
   ·exact k1.2 rfl
   ·exact hd c k1.1 k
  ·obtain ⟨y,hy⟩:=Option.ne_none_iff_exists'.1 hi2;rcases hsm _ _ hy with rfl | ⟨g,lb',e⟩
   ·omega
   ·exact ⟨by rw[e];simp,eν _ g⟩
theorem GoodT.open1 {it:List Item} {q b m id:Nat} {r s:List SV} (hq:lk S.blk q=some (.var (.pta m l m [.nilp]::r))) (hb:b<m) (hT:T b=some s) (hid:lk S.blk id=none) (hB:id<BIG) (hn:ownN id S=true)
  (h:GoodT P G f n K l T b it ⟨S.env,st (st S.blk q (.var (.pta m l b [.ptr id 0]::r))) id (.var s)⟩):GoodT P G f n K l T m it S:=GoodT.open1P (p:=[]) hq hb hT hid hB hn h
theorem GoodT.closeP {it:List Item} {q m id:Nat} {p r s:List SV} (hq:lk S.blk q=some (.var (p++.pta m l j [.ptr id 0]::r))) (hj:j<m) (hid:lk S.blk id=some (.var s)) (hs:FixL s) (hne:q≠id)
  (h:∀ l',GoodT P G f n K l' (λ k=>if k=j then some s else T k) m it ⟨S.env,st (rm S.blk id) q (.var (p++.pta m l' m [.nilp]::r))⟩):GoodT P G f n K l T j it S:=
 .conv λ Z ν E H F hp hf hz hd=>by
  obtain ⟨ni,cs,et,h1,h2,h3,h4⟩:=hp.blk q _ hq;obtain ⟨nx,us,ut,x1,x2,x3,x4⟩:=hp.blk id _ hid;obtain ⟨hlen,hpt⟩:=qmr h4;have hkt:kT s nx=0:=by
   rcases x2 with e | ⟨e,k,e2⟩
   ·simp only[kT,e]
   ·rw[hs.1] at e2;cases e2
  rw[hkt] at x3;obtain ⟨c1,c2,rfl,hcp,h4⟩:=h4.cut;simp only[CRL,CR] at h4;obtain ⟨u,w,rfl,⟨vs,v,⟨a1,a2,rfl,⟨nx',a3,rfl⟩,rfl⟩,a5,a6,a7,a8,rfl⟩,a9⟩:=h4;rw[x1] at a3;cases a3;cases a5
  let l':=l.set j (.pointer (some ⟨nx.b,0,none⟩))
  have hl':l'.length=m:=by show (l.set j _).length=m;rw[List.length_set];exact hlen
  have gj:l'[j]?=some (.pointer (some ⟨nx.b,0,none⟩)):=by show (l.set j _)[j]?=_;rw[List.getElem?_set_self (by omega)]
  have gk:∀ k,k≠j->l'[k]?=l[k]?:=λ k hk=>by show (l.set j _)[k]?=_;rw[List.getElem?_set_ne (λ e=>hk e.symm)]
  let S':PS:=⟨S.env,st (rm S.blk id) q (.var (p++.pta m l' m [.nilp]::r))⟩
  have hlk:∀ t lb,lk S'.blk t=some lb->(t=q/\lb=.var (p++.pta m l' m [.nilp]::r))\/(t≠id/\t≠q/\lk S.blk t=some lb):=by
   intro t lb e;simp only[S',qan,qbu] at e;split at e
   next q1=>cases e;exact .inl ⟨q1,rfl⟩
   next q1=>
    split at e
    ·cases e
    next q2=>exact .inr ⟨q2,q1,e⟩
  have hsm:∀ t lb,lk S'.blk t=some lb->t≠id/\∃ lb',lk S.blk t=some lb':=by
   intro t lb e;rcases hlk t lb e with ⟨rfl,_⟩ | ⟨g,_,e⟩
   ·exact ⟨hne,_,hq⟩
   ·exact ⟨g,_,e⟩
  have hown:∀ c,Own ν S' c->Own ν S c/\c≠nx.b:=λ c ⟨i,lb,ni,g1,g2,g3⟩=>by
   obtain ⟨g,lb',e⟩:=hsm _ _ g1;refine ⟨⟨i,lb',ni,e,g2,g3⟩,λ hc=>g ?_⟩;exact hp.inj i id _ _ ni nx e hid g2 x1 (g3.trans hc)
  have hOx:Own ν S nx.b:=⟨id,_,nx,hid,x1,rfl⟩;refine ⟨S',l',_,m,ν,λ c=>F c\/c=nx.b,h l',⟨hp.env,λ t lb e=>?_,hp.zh,λ c hc=>hp.zo c (hown c hc).1,λ i j li lj ni nj g1 g2 g3 g4 g5=>?_⟩,⟨λ k k1 k2 k3=>?_,λ k s' k1 k2 k3=>?_,λ k k' c k1 k2 k3 k4 e1 e2=>?_,λ c hc=>?_⟩,λ c hc=>?_,λ c k1 k2=>?_,λ i hi hi2=>?_⟩
  ·rcases hlk t lb e with ⟨rfl,rfl⟩ | ⟨_,_,e⟩
   ·refine ⟨ni,_,et,h1,h2.of qie,by rw[qjg qie];exact h3,CRL.app hcp ?_⟩;simp only[CRL,CR];refine ⟨_,w,rfl,⟨[.pointer none],.pointer none,⟨[.pointer none],[],rfl,rfl,rfl⟩,rfl,⟨_,rfl⟩,λ y hy=>?_,hl',?_⟩,a9⟩
    ·rcases List.mem_or_eq_of_mem_set hy with hy | rfl
     ·exact hpt y hy
     ·exact ⟨_,rfl⟩
    ·exact (List.set_eq_of_length_le (Nat.le_of_eq hl')).symm
   ·exact hp.blk t lb e
  ·obtain ⟨_,_,e1⟩:=hsm _ _ g1;obtain ⟨_,_,e2⟩:=hsm _ _ g2;exact hp.inj i j _ _ ni nj e1 e2 g3 g4 g5
  ·by_cases hk:k=j
   ·simp only[if_pos hk] at k3;cases k3
   ·simp only[if_neg hk] at k3;rw[gk k hk];exact hf.no k (by omega) hk k3
  ·by_cases hk:k=j
   ·simp only[if_pos hk] at k3;cases k3;subst hk;exact ⟨hs.1,nx.b,us,ut,gj,.inr rfl,x3,λ Z' ν'=>hs.2 _ _ _ x4 _ _⟩
   ·simp only[if_neg hk] at k3;obtain ⟨y0,y,ys,yt,y1,y2,y3,y4⟩:=hf.so k s' (by omega) hk k3;exact ⟨y0,y,ys,yt,by rw[gk k hk];exact y1,.inl y2,y3,y4⟩
  ·have nF:∀ k,k<l.length->k≠j->l[k]?=some (.pointer (some ⟨nx.b,0,none⟩))->False:=by
    intro k hk hkj hg
    cases hT:T k with
    | none=>have:=hf.no k hk hkj hT;rw[hg] at this;cases this
    | some s'=>
     obtain ⟨_,y,ys,yt,y1,y2,y3,y4⟩:=hf.so k s' hk hkj hT;rw[hg] at y1;cases y1;exact hd _ y2 hOx
   by_cases hk:k=j
   ·by_cases hk':k'=j
    ·rw[hk,hk']
    ·exfalso;subst hk;rw[gj] at e1;cases e1;rw[gk k' hk'] at e2;exact nF k' (by omega) hk' e2
   ·by_cases hk':k'=j
    ·exfalso;subst hk';rw[gj] at e2;cases e2;rw[gk k hk] at e1;exact nF k (by omega) hk e1
    ·rw[gk k hk] at e1;rw[gk k' hk'] at e2;exact hf.inj k k' c (by omega) (by omega) hk hk' e1 e2
  ·rcases hc with hc | rfl
   ·obtain ⟨k,k1,k2,k3⟩:=hf.bk c hc;exact ⟨k,by omega,by omega,by rw[gk k k2];exact k3⟩
   ·exact ⟨j,by omega,by omega,gj⟩
  ·rcases hc with k | k | rfl
   ·exact .inl (hown c k).1
   ·exact .inr k
   ·exact .inl hOx
  ·rcases k1 with k1 | rfl
   ·exact hd c k1 (hown c k2).1
   ·exact (hown _ k2).2 rfl
  ·obtain ⟨y,hy⟩:=Option.ne_none_iff_exists'.1 hi2;obtain ⟨_,_,e⟩:=hsm _ _ hy;exact ⟨by rw[e];simp,rfl⟩
theorem GoodT.close {it:List Item} {q m id:Nat} {r s:List SV} (hq:lk S.blk q=some (.var (.pta m l j [.ptr id 0]::r))) (hj:j<m) (hid:lk S.blk id=some (.var s)) (hs:FixL s) (hne:q≠id)
  (h:∀ l',GoodT P G f n K l' (λ k=>if k=j then some s else T k) m it ⟨S.env,st (rm S.blk id) q (.var (.pta m l' m [.nilp]::r))⟩):GoodT P G f n K l T j it S:=GoodT.closeP (p:=[]) hq hj hid hs hne h
end
def ptrL (g m:Nat):List SV:=(List.range m).map λ k=>.ptr (g+k) 0
theorem CRL.ptrs {Z:Nat->Option ABlk} {ν:Nu}:∀ {L:List Nat} {V:List Value},CRL Z ν (L.map λ i=>.ptr i 0) V->V.length=L.length/\∀ k (h:k<L.length),∃ ni,ν L[k]=some ni/\V[k]?=some (.pointer (some ⟨ni.b,0,none⟩))
 | [],V,h=>by
  simp only[List.map_nil,CRL] at h;subst h;exact ⟨rfl,λ k h=>absurd h (Nat.not_lt_zero _)⟩
 | i::L,V,h=>by
  simp only[List.map_cons,CRL,CR] at h;obtain ⟨u,w,rfl,⟨ni,h1,rfl⟩,h2⟩:=h;obtain ⟨i1,i2⟩:=CRL.ptrs h2;refine ⟨by simp[i1],λ k hk=>?_⟩
  cases k with
  | zero=>exact ⟨ni,h1,rfl⟩
  | succ k=>exact i2 k (Nat.lt_of_succ_lt_succ hk)
theorem CRL.mkPtrs {Z:Nat->Option ABlk} {ν:Nu}:∀ {L:List Nat} {V:List Value},V.length=L.length->(∀ k (h:k<L.length),∃ ni,ν L[k]=some ni/\V[k]?=some (.pointer (some ⟨ni.b,0,none⟩)))->CRL Z ν (L.map λ i=>.ptr i 0) V
 | [],V,h,_=>by
  have:V=[]:=List.eq_nil_of_length_eq_zero h;subst this;rfl
 | i::L,[],h,_=>by simp at h
 | i::L,v::V,h,h2=>by
  obtain ⟨ni,g1,g2⟩:=h2 0 (Nat.succ_pos _);simp only[List.map_cons,CRL,CR];refine ⟨[v],V,rfl,⟨ni,g1,?_⟩,CRL.mkPtrs (by simpa using h) λ k hk=>h2 (k+1) (Nat.succ_lt_succ hk)⟩;simp only[List.getElem?_cons_zero,Option.some.injEq] at g2;rw[g2]
theorem qu0 (g m:Nat):ptrL g m=((List.range m).map λ k=>g+k).map λ i=>SV.ptr i 0:=by rw[List.map_map];rfl
section
variable {P:Program} {tt:TT} {G:GV} {C:CV} {f:FuncId} {n:Nat} {K:AExit->Nat × Bool->PS->Prop} {S:PS}
theorem GoodT.ofE {m j:Nat} {it:List Item} (h:∀ g,GoodE P G f n .fn Y0 K it g S):GoodT P G f n K (List.replicate m (.pointer none)) (λ _=>none) j it S:=by
 intro g base Yd J lr b cs M a w Z ν E H A B ds F hd j1 j2 j4 st hz hy;have hF:∀ c,¬ F c:=λ c hc=>by
  obtain ⟨k,h1,h2,h3⟩:=j2.bk c hc;rw[List.length_replicate] at h1;simp[h1] at h3
 obtain ⟨e,g',S',M',a',w',Z',ν',E',H',A',B',ds',k0,x1,x2,x3,x4,x5,x6,x7,x8,x9⟩:=h g base Yd J lr b cs M a w Z ν E H A B ds ⟨hd,j1,λ c hc=>st.dis c (.inl hc),st.bz,st.yz,st.yn,st.yo,st.fr,λ h=>absurd rfl h,st.er,st.mark,λ d hd' hc=>st.mb d hd' (.inl hc),st.rel,st.pr,st.gz⟩;refine ⟨e,g',S',M',a',w',Z',ν',E',H',A',B',ds',k0,x1,x2,x3,x4,⟨x5.z,λ b hb=>?_,x5.le,λ b x h1 h2 h3 _ h5 h6=>x5.old b x h1 h2 h3 h5 h6,λ b hb=>?_,x5.bb,x5.aa,x5.big⟩,x6,x8,x9⟩
 ·rcases x5.zn b hb with k | k | k
  ·exact .inl k
  ·exact .inr (.inl k)
  ·exact .inr (.inr (.inl k))
 ·rcases x5.own b hb with k | k
  ·exact .inl k
  ·exact .inr (.inr k)
theorem GoodT.implode {it:List Item} {q m g0:Nat} {p r:List SV} {s:Nat->List SV} {Sc:List Value->PS} (hq:lk S.blk q=some (.var (p++(ptrL g0 m++r)))) (hb:∀ k,k<m->lk S.blk (g0+k)=some (.var (s k))) (hs:∀ k,FixL (s k)) (ho1:opK (p++(ptrL g0 m++r))=none)
  (he:∀ V t x,lk (Sc V).env t=some x->lk S.env t=some x) (hc:∀ V t x,lk (Sc V).blk t=some x->(t=q/\x=.var (p++.pta m V m [.nilp]::r))\/(t≠q/\(∀ k,k<m->t≠g0+k)/\lk S.blk t=some x))
  (hqg:∀ k,k<m->q≠g0+k) (h:∀ V,GoodT P G f n K V (λ k=>if k<m then some (s k) else none) m it (Sc V)):GoodE P G f n .fn Y0 K it (0,false) S:=by
 refine GoodT.start (m:=m) (j:=m) (.conv λ Z ν E H F hp hf hz hd=>?_) (0,false);obtain ⟨ni,cs,et,h1,h2,h3,h4⟩:=hp.blk q _ hq;obtain ⟨c1,c2,rfl,h5,h6⟩:=h4.cut;obtain ⟨V,c3,rfl,h7,h8⟩:=h6.cut;rw[qu0] at h7;obtain ⟨l1,l2⟩:=CRL.ptrs h7;have hlen:V.length=m:=by rw[l1,List.length_map,List.length_range]
 have l3:∀ k,k<m->∃ nk,ν (g0+k)=some nk/\V[k]?=some (.pointer (some ⟨nk.b,0,none⟩)):=λ k hk=>by
  obtain ⟨nk,a1,a2⟩:=l2 k (by rw[List.length_map,List.length_range];exact hk);rw[List.getElem_map,List.getElem_range] at a1;exact ⟨nk,a1,a2⟩
 have htot:∀ {L:List SV} {nk:NI} {c e:Nat},opK L=none->KT L nk c e->nk.tot=some c:=λ h k=>by
  rcases k with k | ⟨_,_,k⟩
  ·exact k
  ·rw[h] at k;cases k
 have hkt:∀ {L:List SV} {nk:NI} {c:Nat},nk.tot=some c->kT L nk=0:=λ h=>by unfold kT;rw[h]
 have l4:∀ k nk,k<m->ν (g0+k)=some nk->∃ us e,H.t.get nk.b=some (.cells us e 0)/\∀ Z ν,CRL Z ν (s k) us:=λ k nk hk hn=>by
  obtain ⟨nk',us,e,b1,b2,b3,b4⟩:=hp.blk _ _ (hb k hk);rw[hn] at b1;cases b1;rw[hkt (htot (hs k).1 b2)] at b3;exact ⟨us,e,b3,λ Z' ν'=>(hs k).2 _ _ _ b4 _ _⟩
 have hown:∀ c,Own ν (Sc V) c->Own ν S c/\∀ k nk,k<m->ν (g0+k)=some nk->c≠nk.b:=λ c ⟨id,lb,ni',g1,g2,g3⟩=>by
  have hsm:∃ lb',lk S.blk id=some lb'/\∀ k,k<m->id≠g0+k:=by
   rcases hc V id lb g1 with ⟨rfl,_⟩ | ⟨_,a,e⟩
   ·exact ⟨_,hq,hqg⟩
   ·exact ⟨_,e,a⟩
  obtain ⟨lb',e1,e2⟩:=hsm;refine ⟨⟨id,lb',ni',e1,g2,g3⟩,λ k nk hk hn hcc=>e2 k hk ?_⟩;exact hp.inj id (g0+k) _ _ ni' nk e1 (hb k hk) g2 hn (g3.trans hcc)
 refine ⟨Sc V,V,_,m,ν,λ c=>∃ k nk,k<m/\ν (g0+k)=some nk/\c=nk.b,h V,⟨λ t x e=>hp.env t x (he V t x e),λ t x e=>?_,hp.zh,λ c hc'=>hp.zo c (hown c hc').1,λ i j li lj ni nj g1 g2 g3 g4 g5=>?_⟩,⟨λ k k1 k2 k3=>?_,λ k x k1 k2 k3=>?_,λ k k' b k1 k2 _ _ e1 e2=>?_,λ b hb'=>?_⟩,λ b hb'=>?_,λ b hb' ho=>?_,λ id hi hi2=>?_⟩
 ·rcases hc V t x e with ⟨rfl,rfl⟩ | ⟨_,_,e⟩
  ·have ht:=htot ho1 h2;refine ⟨ni,c1++(V++c3),et,h1,.inl ht,by rw[hkt ht];rw[hkt ht] at h3;exact h3,CRL.app h5 ?_⟩;simp only[CRL,CR];refine ⟨V,c3,rfl,⟨[.pointer none],.pointer none,⟨[.pointer none],[],rfl,rfl,rfl⟩,rfl,⟨_,rfl⟩,λ y hy=>?_,hlen,(List.set_eq_of_length_le (by omega)).symm⟩,h8⟩;obtain ⟨k,hk,rfl⟩:=List.mem_iff_getElem.1 hy;obtain ⟨nk,_,a2⟩:=l3 k (by omega);rw[List.getElem?_eq_getElem hk] at a2;exact ⟨_,Option.some.inj a2⟩
  ·exact hp.blk t x e
 ·have sm:∀ {i li},lk (Sc V).blk i=some li->∃ li',lk S.blk i=some li':=fun {i li} e=>by
   rcases hc V i li e with ⟨rfl,_⟩ | ⟨_,_,e⟩
   ·exact ⟨_,hq⟩
   ·exact ⟨_,e⟩
  obtain ⟨_,e1⟩:=sm g1;obtain ⟨_,e2⟩:=sm g2;exact hp.inj i j _ _ ni nj e1 e2 g3 g4 g5
 ·rw[if_pos (by omega)] at k3;cases k3
 ·have hk:k<m:=by omega
  rw[if_pos hk] at k3;cases k3;obtain ⟨nk,a1,a2⟩:=l3 k hk;obtain ⟨us,e,b1,b2⟩:=l4 k nk hk a1;exact ⟨(hs k).1,nk.b,us,e,a2,⟨k,nk,hk,a1,rfl⟩,b1,b2⟩
 ·obtain ⟨nk,a1,a2⟩:=l3 k (by omega);obtain ⟨nk',a1',a2'⟩:=l3 k' (by omega);rw[a2] at e1;rw[a2'] at e2;have q1:nk.b=b:=by simpa using e1
  have q2:nk'.b=b:=by simpa using e2
  have:=hp.inj (g0+k) (g0+k') _ _ nk nk' (hb k (by omega)) (hb k' (by omega)) a1 a1' (q1.trans q2.symm);omega
 ·obtain ⟨k,nk,hk,a1,rfl⟩:=hb';obtain ⟨nk',b1,b2⟩:=l3 k hk;rw[a1] at b1;cases b1;exact ⟨k,by omega,by omega,b2⟩
 ·rcases hb' with k | ⟨k,nk,hk,a1,rfl⟩
  ·exact .inl (hown b k).1
  ·exact .inl ⟨_,_,nk,hb k hk,a1,rfl⟩
 ·obtain ⟨k,nk,hk,a1,rfl⟩:=hb';exact (hown _ ho).2 k nk hk a1 rfl
 ·obtain ⟨y,hy⟩:=Option.ne_none_iff_exists'.1 hi2;rcases hc V id y hy with ⟨rfl,_⟩ | ⟨_,_,e⟩
  ·exact ⟨by rw[hq];simp,rfl⟩
  ·exact ⟨by rw[e];simp,rfl⟩
theorem CRL.nu {Z:Nat->Option ABlk} {ν ν':Nu} {l:List SV} {vs:List Value} (h:∀ i,qaf i l=true->ν' i=ν i) (k:CRL Z ν l vs):CRL Z ν' l vs:=by
 have:=CRL.renS (ρ:=λ i=>i) (ν2:=ν') (ν':=ν) l vs h k;rwa[qdq] at this
theorem BR.nu {Z:Nat->Option ABlk} {ν ν':Nu} {H:AHeap} {id:Nat} {lb:LB} (hi:ν' id=ν id) (m:∀ i,qey i lb=true->ν' i=ν i) (h:BR Z ν H id lb):BR Z ν' H id lb:=by
 cases lb with
 | var l=>
  obtain ⟨ni,cs,et,h1,h2,h3,h4⟩:=h;exact ⟨ni,cs,et,hi.trans h1,h2,h3,CRL.nu m h4⟩
 | row et s xs=>simp only[BR,hi] at h |-;exact h
 | mp κ σ l=>simp only[BR,hi] at h |-;exact h
 | iter l pos=>simp only[BR,hi] at h |-;exact h
theorem GoodT.explode {it:List Item} {V:List Value} {q m g0:Nat} {p r:List SV} {s:Nat->List SV} {Sx:PS} (hq:lk S.blk q=some (.var (p++.pta m V m [.nilp]::r))) (ho1:opK (p++.pta m V m [.nilp]::r)=none)
  (hqg:q<g0\/g0+m<=q) (hg:g0+m<=BIG) (hn1:∀ t x,lk S.env t=some x->∀ i,ment i x=true->i<g0\/g0+m<=i) (hn2:∀ t x,lk S.blk t=some x->(t<g0\/g0+m<=t)/\∀ i,qey i x=true->i<g0\/g0+m<=i)
  (he:∀ t x,lk Sx.env t=some x->lk S.env t=some x) (hc:∀ t x,lk Sx.blk t=some x->(t=q/\x=.var (p++(ptrL g0 m++r)))\/(∃ k,k<m/\t=g0+k/\x=.var (s k))\/(t≠q/\lk S.blk t=some x))
  (T:Nat->Option (List SV)) (hT:∀ k,k<m->T k=some (s k)) (h:∀ g,GoodE P G f n .fn Y0 K it g Sx):GoodT P G f n K V T m it S:=by
 refine .conv λ Z ν E H F hp hf hz hd=>?_
 obtain ⟨ni,cs,et,h1,h2,h3,h4⟩:=hp.blk q _ hq;obtain ⟨hlen,hpt⟩:=qmr h4;obtain ⟨c1,c2,rfl,h5,h6⟩:=h4.cut;have hso:=λ k (hk:k<m)=>hf.so k (s k) (by omega) (by omega) (hT k hk)
 have hex:∃ (adr:Nat->Nat) (us:Nat->List Value) (ets:Nat->TypeId),∀ k,k<m->V[k]?=some (.pointer (some ⟨adr k,0,none⟩))/\F (adr k)/\H.t.get (adr k)=some (.cells (us k) (ets k) 0)/\∀ Z ν,CRL Z ν (s k) (us k):=by
  refine ⟨λ k=>if hk:k<m then (hso k hk).2.choose else 0,λ k=>if hk:k<m then (hso k hk).2.choose_spec.choose else [],λ k=>if hk:k<m then (hso k hk).2.choose_spec.choose_spec.choose else 0,λ k hk=>?_⟩;simp only[dif_pos hk];exact (hso k hk).2.choose_spec.choose_spec.choose_spec
 obtain ⟨adr,us,ets,ha⟩:=hex;have ainj:∀ k k',k<m->k'<m->adr k=adr k'->k=k':=λ k k' hk hk' e=>hf.inj k k' (adr k) (by omega) (by omega) (by omega) (by omega) (ha k hk).1 (by rw[e];exact (ha k' hk').1)
 let ν':Nu:=λ i=>if g0<=i/\i<g0+m then some ⟨adr (i-g0),some (us (i-g0)).length⟩ else ν i
 have e1:∀ k,k<m->ν' (g0+k)=some ⟨adr k,some (us k).length⟩:=λ k hk=>by
  show (if g0<=g0+k/\g0+k<g0+m then some _ else _)=_
  rw[if_pos ⟨by omega,by omega⟩,Nat.add_sub_cancel_left]
 have e2:∀ i,i<g0\/g0+m<=i->ν' i=ν i:=λ i hi=>by
  show (if g0<=i/\i<g0+m then some _ else _)=_
  rw[if_neg (by omega)]
 have hown:∀ c,Own ν' Sx c->Own ν S c\/F c:=λ c ⟨id,lb,ni',g1,g2,g3⟩=>by
  rcases hc id lb g1 with ⟨rfl,_⟩ | ⟨k,hk,rfl,_⟩ | ⟨_,e⟩
  ·rw[e2 _ hqg] at g2;exact .inl ⟨_,_,ni',hq,g2,g3⟩
  ·rw[e1 k hk] at g2;cases g2;exact .inr (g3 ▸ (ha k hk).2.1)
  ·rw[e2 _ (hn2 _ _ e).1] at g2;exact .inl ⟨_,_,ni',e,g2,g3⟩
 refine ⟨Sx,List.replicate m (.pointer none),λ _=>none,m,ν',λ _=>False,.ofE h,⟨λ t x e=>?_,λ t x e=>?_,hp.zh,λ c hc'=>(hown c hc').elim (hp.zo c) (hz c),λ i j li lj ni' nj g1 g2 g3 g4 g5=>?_⟩,⟨λ k k1 _ _=>?_,λ k x _ _ k3=>(by cases k3),λ k k' b k1 _ _ _ k5 _=>?_,λ b hb=>hb.elim⟩,λ b hb=>hb.elim (hown b) False.elim,λ b hb=>hb.elim,λ id hi hi2=>?_⟩
 ·obtain ⟨v,a1,a2⟩:=hp.env t x (he t x e);exact ⟨v,a1,a2.nu λ i hm=>e2 i (hn1 t x (he t x e) i hm)⟩
 ·rcases hc t x e with ⟨rfl,rfl⟩ | ⟨k,hk,rfl,rfl⟩ | ⟨_,e⟩
  ·have ht:ni.tot=some (c1++c2).length:=by
    rcases h2 with k | ⟨_,_,k⟩
    ·exact k
    ·rw[ho1] at k;cases k
   have hkt:∀ L,kT L ni=0:=λ L=>by unfold kT;rw[ht]
   refine ⟨ni,c1++c2,et,(e2 _ hqg).trans h1,.inl ht,by rw[hkt];rw[hkt] at h3;exact h3,CRL.app (CRL.nu (λ i hm=>e2 i ((hn2 _ _ hq).2 i ?_)) h5) ?_⟩
   ·show qaf i (p++.pta m V m [.nilp]::r)=true
    exact qff.2 (.inl hm)
   ·simp only[CRL,CR] at h6;obtain ⟨u,w,rfl,⟨vs,v,b1,b2,b3,b4,b5,rfl⟩,b6⟩:=h6;rw[List.set_eq_of_length_le (by omega)];refine CRL.app ?_ (CRL.nu (λ i hm=>e2 i ((hn2 _ _ hq).2 i ?_)) b6)
    ·rw[qu0];refine CRL.mkPtrs (by rw[List.length_map,List.length_range];exact hlen) λ k hk=>?_
     rw[List.length_map,List.length_range] at hk;rw[List.getElem_map,List.getElem_range];exact ⟨_,e1 k hk,(ha k hk).1⟩
    ·show qaf i (p++.pta m V m [.nilp]::r)=true
     exact qff.2 (.inr (by simp only[qaf,hm,Bool.or_true]))
  ·exact ⟨⟨adr k,some (us k).length⟩,us k,ets k,e1 k hk,.inl rfl,by simpa [kT] using (ha k hk).2.2.1,(ha k hk).2.2.2 _ _⟩
  ·exact (hp.blk t x e).nu (e2 _ (hn2 _ _ e).1) λ i hm=>e2 i ((hn2 _ _ e).2 i hm)
 ·have sm:∀ {i li},lk Sx.blk i=some li->(∃ k,k<m/\i=g0+k)\/((i<g0\/g0+m<=i)/\∃ li',lk S.blk i=some li'):=fun {i li} e=>by
   rcases hc i li e with ⟨rfl,_⟩ | ⟨k,hk,rfl,_⟩ | ⟨_,e⟩
   ·exact .inr ⟨hqg,_,hq⟩
   ·exact .inl ⟨k,hk,rfl⟩
   ·exact .inr ⟨(hn2 _ _ e).1,_,e⟩
  rcases sm g1 with ⟨k,hk,rfl⟩ | ⟨a1,li',a2⟩
  ·rw[e1 k hk] at g3;cases g3;rcases sm g2 with ⟨k',hk',rfl⟩ | ⟨b1,lj',b2⟩
   ·rw[e1 k' hk'] at g4;cases g4;rw[ainj k k' hk hk' g5]
   ·exfalso;rw[e2 _ b1] at g4;exact hd _ (ha k hk).2.1 ⟨_,_,nj,b2,g4,g5.symm⟩
  ·rw[e2 _ a1] at g3;rcases sm g2 with ⟨k',hk',rfl⟩ | ⟨b1,lj',b2⟩
   ·exfalso;rw[e1 k' hk'] at g4;cases g4;exact hd _ (ha k' hk').2.1 ⟨_,_,ni',a2,g3,g5⟩
   ·rw[e2 _ b1] at g4;exact hp.inj i j _ _ ni' nj a2 b2 g3 g4 g5
 ·rw[List.length_replicate] at k1;simp[k1]
 ·rw[List.length_replicate] at k1;simp[k1] at k5
 ·obtain ⟨y,hy⟩:=Option.ne_none_iff_exists'.1 hi2;rcases hc id y hy with ⟨rfl,_⟩ | ⟨k,hk,rfl,_⟩ | ⟨_,e⟩
  ·exact ⟨by rw[hq];simp,e2 _ hqg⟩
  ·omega
  ·exact ⟨by rw[e];simp,e2 _ (hn2 _ _ e).1⟩
end
section
variable {P:Program} {G:GV} {f:FuncId} {n:Nat} {K:AExit->Nat × Bool->PS->Prop} {S:PS}
theorem GoodE.nilW {it:List Item} {q id:Nat} {p r:List SV} {et:TypeId} {e:Sh} (hq:lk S.blk q=some (.var (p++.nils::r))) (hid:lk S.blk id=none) (hB:id<BIG) (hn:ownN id S=true) (hes:0<e.size) (ho:opK (p++.nils::r)=opK (p++.win true e id 0 0::r))
  (h:∀ g,GoodE P G f n .fn Y0 K it g ⟨S.env,st (st S.blk q (.var (p++.win true e id 0 0::r))) id (.row et e [])⟩):GoodE P G f n .fn Y0 K it (0,false) S:=by
 refine GoodT.start (m:=0) (j:=0) (.conv λ Z ν E H F hp hf hz hd=>?_) (0,false);obtain ⟨ni,cs,ct,h1,h2,h3,h4⟩:=hp.blk q _ hq;have hqi:q≠id:=λ e=>by subst e;rw[hq] at hid;cases hid
 simp only[ownN,Bool.and_eq_true,List.all_eq_true,Bool.not_eq_true'] at hn;have hme:∀ t s,lk S.env t=some s->ment id s=false:=λ t s e=>hn.1 (t,s) (qa4 e)
 have hmb:∀ t s,lk S.blk t=some s->qey id s=false:=λ t s e=>hn.2 (t,s) (qa4 e)
 let ν':=Upd ν id none
 have eν:∀ t,t≠id->ν' t=ν t:=λ t ht=>if_neg ht
 have eν':ν' id=none:=if_pos rfl
 let S':PS:=⟨S.env,st (st S.blk q (.var (p++.win true e id 0 0::r))) id (.row et e [])⟩
 have hlk:∀ t lb,lk S'.blk t=some lb->(t=id/\lb=.row et e [])\/(t=q/\t≠id/\lb=.var (p++.win true e id 0 0::r))\/(t≠id/\t≠q/\lk S.blk t=some lb):=by
  intro t lb e;simp only[S',qan] at e;split at e
  next q1=>cases e;exact .inl ⟨q1,rfl⟩
  next q1=>
   split at e
   next q2=>cases e;exact .inr (.inl ⟨q2,q1,rfl⟩)
   next q2=>exact .inr (.inr ⟨q1,q2,e⟩)
 have hsm:∀ t lb ni,lk S'.blk t=some lb->ν' t=some ni->t≠id/\ν t=some ni/\∃ lb',lk S.blk t=some lb':=by
  intro t lb ni e hν;have hne:t≠id:=λ q=>by rw[q,eν'] at hν;cases hν
  rw[eν _ hne] at hν;rcases hlk t lb e with ⟨g,_⟩ | ⟨rfl,_,_⟩ | ⟨_,_,e⟩
  ·exact absurd g hne
  ·exact ⟨hne,hν,_,hq⟩
  ·exact ⟨hne,hν,_,e⟩
 have hown:∀ c,Own ν' S' c->Own ν S c:=λ c ⟨i,lb,ni,g1,g2,g3⟩=>by
  obtain ⟨_,a,lb',e⟩:=hsm _ _ _ g1 g2;exact ⟨i,lb',ni,e,a,g3⟩
 refine ⟨S',List.replicate 0 (.pointer none),λ _=>none,0,ν',F,.ofE h,⟨λ t s e=>?_,λ t lb e=>?_,hp.zh,λ c hc=>hp.zo c (hown c hc),λ i j li lj ni nj g1 g2 g3 g4 g5=>?_⟩,hf,λ b hb=>hb.imp_left (hown b),λ b h1 h2=>hd b h1 (hown b h2),λ i hi hi2=>?_⟩
 ·obtain ⟨v,k1,k2⟩:=hp.env t s e;exact ⟨v,k1,k2.upd (hme t s e)⟩
 ·rcases hlk t lb e with ⟨rfl,rfl⟩ | ⟨rfl,g,rfl⟩ | ⟨g1,g2,e⟩
  ·exact ⟨hes,.inl ⟨eν',rfl⟩⟩
  ·have h4':=CRL.upd (i:=id) (x:=none) _ _ (hmb _ _ hq) h4;obtain ⟨u,w,rfl,a1,a2⟩:=h4'.cut;refine ⟨ni,u++w,ct,(eν _ g).trans h1,h2.of ho.symm,by rw[<- qjg ho];exact h3,CRL.app a1 ?_⟩;simp only[CRL,CR] at a2 |-;obtain ⟨u',w',rfl,rfl,b2⟩:=a2;refine ⟨[.slice none 0 0],w',rfl,⟨.slice none 0 0,rfl,?_⟩,b2⟩;unfold WinR;rw[eν'];exact ⟨rfl,rfl,.inl rfl⟩
  ·exact (hp.blk t lb e).upd g1 (hmb t lb e)
 ·obtain ⟨_,a1,_,e1⟩:=hsm _ _ _ g1 g3;obtain ⟨_,a2,_,e2⟩:=hsm _ _ _ g2 g4;exact hp.inj i j _ _ ni nj e1 e2 a1 a2 g5
 ·obtain ⟨y,hy⟩:=Option.ne_none_iff_exists'.1 hi2;have hne:i≠id:=by omega
  rcases hlk i y hy with ⟨g,_⟩ | ⟨rfl,_,_⟩ | ⟨_,_,e⟩
  ·exact absurd g hne
  ·exact ⟨by rw[hq];simp,eν _ hne⟩
  ·exact ⟨by rw[e];simp,eν _ hne⟩
theorem GoodT.any {tt:TT} {res:List ResultVar} {Q:List SV->List (Nat × LB)->Prop} {V:List Value} {T:Nat->Option (List SV)} {j:Nat} {it:List Item} (h:Good P tt G f n res Q it S):GoodT P G f n (endK tt G res Q) V T j it S:=by
 refine .conv λ Z ν E H F hp hf hz hd=>⟨S,List.replicate 0 (.pointer none),λ _=>none,0,ν,λ _=>False,.ofE λ g=>GoodE.any rfl qf6 h g,hp,⟨λ k h1=>absurd h1 (Nat.not_lt_zero k),λ k s h1=>absurd h1 (Nat.not_lt_zero k),λ k k' b h1=>absurd h1 (Nat.not_lt_zero k),λ b hb=>hb.elim⟩,λ b hb=>hb.imp_right False.elim,λ b hb=>hb.elim,λ id _ hi=>⟨hi,rfl⟩⟩
end
end Go.Px
