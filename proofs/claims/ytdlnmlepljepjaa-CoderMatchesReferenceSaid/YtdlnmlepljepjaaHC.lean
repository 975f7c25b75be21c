/-
  A part of the proof: a run over an abstract memory, its soundness and its rules; each theorem says its conditions.
-/
import Derived.Test.YtdlnmlepljepjaaHB
set_option linter.unusedVariables false
set_option linter.unusedSimpArgs false
namespace Go.Px
open Ax
structure CxOK (P:Program) (tt:TT) (G:GV) (C:CV):Prop where
 ty:TTOK P tt
 held:∀ f ct,lk C f=some (.inl ct)->Held P G f ct
 heldI:∀ f ct,(f,Sum.inr ct)∈C->HeldI P G f ct
 enter:∀ f,(lk C f).isSome=true->∀ args w,(callFunc f args).run P w=.ok (.enter f args) w
 mix:P.follows .mixedOrders=true
 mth:∀ t nm f,(t,(nm,f))∈G.mt->qsq P t nm=some f
def qe1 (tt:TT) (G:GV) (C:CV) (S:PS) (o:Oper):PC PS:=
 match exO tt G S o with
 | some r=>some r
 | none=>match o.dst with
  | some d=>match exC C (pv G S.env) S.blk d o with
   | some (cs,(s,news))=>some (cs,(addRows S news).with d s)
   | none=>none
  | none=>none
def qcz (f:Nat) (blk:List (Nat × LB)) (l:List SV):CV->Option ((ct:CtrI) × (List Prop × (List (Option Nat) × DI ct.args)))
 | []=>none
 | (g,.inr ct)::C=>match decide (g=f) with
  | true=>match rdKL blk ct.args l with
   | some r=>some ⟨ct,r⟩
   | none=>qcz f blk l C
  | false=>qcz f blk l C
 | (_,.inl _)::C=>qcz f blk l C
theorem qhh {f:Nat} {blk:List (Nat × LB)} {l:List SV}:∀ {C:CV} {r:(ct:CtrI) × (List Prop × (List (Option Nat) × DI ct.args))},qcz f blk l C=some r->(f,Sum.inr r.1)∈C/\rdKL blk r.1.args l=some r.2/\(lk C f).isSome=true
 | [],r,h=>by simp[qcz] at h
 | (g,.inl c)::C,r,h=>by
  simp only[qcz] at h;obtain ⟨h1,h2,h3⟩:=qhh h;refine ⟨List.mem_cons_of_mem _ h1,h2,?_⟩;simp only[lk];split
  ·rfl
  ·exact h3
 | (g,.inr c)::C,r,h=>by
  have go:qcz f blk l C=some r->(f,Sum.inr r.1)∈((g,Sum.inr c)::C:CV)/\rdKL blk r.1.args l=some r.2/\(lk ((g,Sum.inr c)::C:CV) f).isSome=true:=by
   intro h;obtain ⟨h1,h2,h3⟩:=qhh h;refine ⟨List.mem_cons_of_mem _ h1,h2,?_⟩;simp only[lk];split
   ·rfl
   ·exact h3
  simp only[qcz] at h;split at h
  next hg=>
   have hg:=of_decide_eq_true hg;subst hg;split at h
   next r' hr=>cases h;exact ⟨by simp,hr,by simp[lk]⟩
   ·exact go h
  ·exact go h
def qsu (t:Nat) (name:String):List (Nat × (String × Nat))->Option Nat
 | []=>none
 | (t',(nm,f))::l=>match decide (t'=t) with
  | true=>match decide (nm=name) with
   | true=>some f
   | false=>qsu t name l
  | false=>qsu t name l
theorem qkr {t:Nat} {name:String} {f:Nat}:∀ {l:List (Nat × (String × Nat))},qsu t name l=some f->(t,(name,f))∈l
 | [],h=>by simp[qsu] at h
 | (t',(nm,f'))::l,h=>by
  simp only[qsu] at h;split at h
  next h1=>
   have h1:=of_decide_eq_true h1;split at h
   next h2=>have h2:=of_decide_eq_true h2;subst h1;subst h2;cases h;simp
   ·exact List.mem_cons_of_mem _ (qkr h)
  ·exact List.mem_cons_of_mem _ (qkr h)
def exI (mt:List (Nat × (String × Nat))) (C:CV) (ρ:Operand->Option SV) (S:PS) (d:Nat) (o:Oper):PC PS:=
 match o.op with
 | .call c=>match c.callee with
  | .invoke x name=>match ρ x,qbb ρ c.args with
   | some (.ifc t g l0),some l=>match qsu t name mt,mkV g l0 with
    | some f,some r=>match qcz f S.blk (r::l) C with
     | some ⟨ct,(cs,(ns,x))⟩=>
       if okI d (cntL ct.args) ns (ct.out x) (ct.blk x)&&decide (d<500000) then
        some (cs++[ct.pre x],(qbx S d ns (ct.blk x)).with d (one (renSL (rnI d ns) (ct.out x)))) else none
     | none=>none
    | _,_=>none
   | _,_=>none
  | .value fo=>match ρ fo,qbb ρ c.args with
   | some (.fn f a k),some l=>match qcz f S.blk (a++l++k) C with
    | some ⟨ct,(cs,(ns,x))⟩=>
      if a.all qbi&&k.all qbi&&okI d (cntL ct.args) ns (ct.out x) (ct.blk x)&&decide (d<500000) then
       some (cs++[ct.pre x],(qbx S d ns (ct.blk x)).with d (one (renSL (rnI d ns) (ct.out x)))) else none
    | none=>none
   | _,_=>none
  | _=>none
 | _=>none
def qbe (tt:TT) (G:GV) (C:CV) (S:PS) (o:Oper):PC PS:=
 match qe1 tt G C S o with
 | some r=>some r
 | none=>match o.dst with
  | some d=>exI G.mt C (pv G S.env) S d o
  | none=>none
def ExI (tt:TT) (G:GV) (C:CV) (S:PS) (o:Oper) (S':PS):Prop:=∃ cs,qbe tt G C S o=some (cs,S')/\∀ c∈cs,c
def StpI (tt:TT) (G:GV) (C:CV) (ops:Array Oper) (n i:Nat) (S S':PS):Prop:=
 ∃ o,ops[i]?=some o/\(∀ d,o.dst=some d->d<n/\d<500000) /\
  ((o.guard=none/\ExI tt G C S o S') \/
   (∃ j want d b,o.guard=some (j,want)/\(ops[j]?).bind (·.dst)=some d/\lk S.env d=some (.bool b)/\((b=want/\ExI tt G C (S.with d (.bool want)) o S')\/(b=(!want)/\∃ s,(s=none\/s=some (.tup []))/\S'=(S.with d (.bool (!want))).put o.dst s))) \/
   ∃ j want d,o.guard=some (j,want)/\(ops[j]?).bind (·.dst)=some d/\lk S.env d=some (.tup [])/\S'=S.put o.dst (some (.tup [])))
def Ex (tt:TT) (G:GV) (C:CV) (S:PS) (o:Oper) (S':PS):Prop:=∃ cs,qe1 tt G C S o=some (cs,S')/\∀ c∈cs,c
def Stp (tt:TT) (G:GV) (C:CV) (ops:Array Oper) (n i:Nat) (S S':PS):Prop:=
 ∃ o,ops[i]?=some o/\(∀ d,o.dst=some d->d<n/\d<500000) /\
  ((o.guard=none/\Ex tt G C S o S') \/
   ∃ j want d b,o.guard=some (j,want)/\(ops[j]?).bind (·.dst)=some d/\lk S.env d=some (.bool b)/\((b=want/\Ex tt G C (S.with d (.bool want)) o S')\/(b=(!want)/\S'=(S.with d (.bool (!want))).put o.dst none)))
section
variable {P:Program} {tt:TT} {G:GV} {C:CV} {Z:Nat->Option ABlk} {ν:Nu} {S S':PS} {E:T Value} {H:AHeap} {base:Prot} {M:Map} {a:Act} {w:World} {n:Nat}
theorem VSL.vra:∀ {l:List SV} {vs:List Value},VSL Z ν l vs->vs.length=l.length
 | [],_,h=>by simp only[VSL] at h;subst h;rfl
 | _::_,_,h=>by simp only[VSL] at h;obtain ⟨v,w,rfl,_,h2⟩:=h;simp[VSL.vra h2]
theorem VSL.app:∀ {l m:List SV} {vs ws:List Value},VSL Z ν l vs->VSL Z ν m ws->VSL Z ν (l++m) (vs++ws)
 | [],_,_,_,h,k=>by simp only[VSL] at h;subst h;exact k
 | s::l,m,_,ws,h,k=>by
  simp only[VSL,List.cons_append] at h |-;obtain ⟨v,w,rfl,h1,h2⟩:=h;exact ⟨v,w++ws,rfl,h1,VSL.app h2 k⟩
theorem CRO.vsl:∀ {l:List SV} {vs:List Value},CRO Z ν l vs->l.all qbi=true->VSL Z ν l vs
 | [],_,h,_=>by simp only[CRO] at h;subst h;rfl
 | s::l,_,h,k=>by
  simp only[CRO] at h;obtain ⟨v,w,rfl,h1,h2⟩:=h;simp only[List.all_cons,Bool.and_eq_true] at k;exact ⟨v,w,rfl,VS.of_one h1 k.1,CRO.vsl h2 k.2⟩
theorem q2t (hx:CxOK P tt G C) {ops:Array Oper} {i:Nat} {rest:List Nat} {o:Oper} (ho:ops[i]?=some o) (hd:∀ d,o.dst=some d->d<n/\d<500000) (hw:qak ops o E=some true) (h:Ex tt G C S o S') (her:ER M n E a.tmps) (hrel:Rel base M H w) (hp:PR Z ν S E H) (hg:GZ Z G) (b:Frame) (k:List Item) (cs:List Frame) :
  ∃ M' Z' ν' E' H' a' w',Ext M M'/\ER M' n E' a'.tmps/\a'.defers=a.defers/\Rel base M' H' w'/\Below base w w'/\PR Z' ν' S' E' H'/\FC Z ν S H Z' ν' S' H' /\
   Steps P (lone (Fr b a (.inRegion ops (i::rest)::k)) cs w) (lone (Fr b a' (.inRegion ops rest::k)) cs w'):=by
 obtain ⟨conds,h,hc⟩:=h;have hF:∀ f,(λ f=>(lk C f).isSome) f=true->∀ args w,(callFunc f args).run P w=.ok (.enter f args) w:=by
  intro f hf;exact hx.enter f hf
 have hdom:=hrel.dom;unfold qe1 at h;split at h
 next r he=>
  cases h;obtain ⟨v,H',E',ν',hop,hput,q1,q2⟩:=qvy (F:=λ f=>(lk C f).isSome) hx.ty hp hg hdom he hc hd;have hst:qbm P (λ f=>(lk C f).isSome) noEv n ops i (E,H)=some (E',H'):=by
   rcases hop with hop | ⟨hop,rfl⟩
   ·simp[qbm,ho,qhm,hw,hop,hput]
   ·simp[qbm,ho,qhm,hw,hop,hput]
  obtain ⟨M',a',w',x1,x2,x3,x4,x5,x6⟩:=qa0 (base:=base) hF (λ r res h=>by cases h) (rest:=rest) hst her hrel b k cs;exact ⟨M',Z,ν',E',H',a',w',x1,x2,x3,x4,x5,q1,q2,x6⟩
 ·split at h
  next d hdd=>
   split at h
   next conds' s news hc0=>
    cases h;unfold exC at hc0;split at hc0
    next c hop=>
     split at hc0
     next fo hcal=>
      split at hc0
      next f fa fk l hf hl=>
       split at hc0
       next ct hct=>
        split at hc0
        next cs0 x hrd=>
         split at hc0
         next hcond=>
          simp only[Bool.and_eq_true,Bool.or_eq_true,decide_eq_true_eq] at hcond;obtain ⟨⟨⟨⟨⟨hoa,hok0⟩,hok⟩,hrow⟩,hrl⟩,hcase⟩:=hcond;cases hc0;have hρ:=qbr hp hg;obtain ⟨vf,hvf,hfs⟩:=hρ _ _ hf;obtain ⟨va,vk,rfl,hva,hvk⟩:=hfs.fn;obtain ⟨vl,hvl,hls⟩:=qaw hρ hl;have hall:VSL Z ν (fa++l++fk) (va++vl++vk):=((hva.vsl hoa).app hls).app (hvk.vsl hok0);have hop2:aOp P (λ f=>(lk C f).isSome) (qcx E) H o=some (.enter f (va.toArray++vl.toArray++vk.toArray),H):=by
           obtain ⟨dst,op,type,pos,after,guard⟩:=o;simp only at hop;subst hop;simp[aOp,qh7,hcal,hvl,hvf,qjb,hct]
          have hnd:=qck hop2;obtain ⟨args',hrun,hva',hrel'⟩:=qfs (P:=P) hrel hF (qb4 her hrel.glob) hop2;have hwr:=qci her hw;have hcc:∀ c∈cs0,c:=λ c hcc=>hc c (List.mem_append_left _ hcc)
          have hpre:ct.pre x:=hc _ (List.mem_append_right _ (by simp));obtain ⟨Zq,hq,hqa,hqz,hqg⟩:∃ Zq,(Zq=Z\/(Zq=Zc Z ν S H/\qa5 (ct.out x)=true/\(ct.rows x).all qfc=true))/\VArgs Zq ct.args x (va++vl++vk)/\(∀ b y,Zq b=some y->H.t.get b=some y/\isCells y)/\GZ Zq G:=by
           rcases hcase with hnw | ⟨hp1,hp2⟩
           ·exact ⟨Z,.inl rfl,qeg hrd hnw hall,hp.zh,hg⟩
           ·exact ⟨Zc Z ν S H,.inr ⟨rfl,hp1,hp2⟩,qiq hp hrd hcc hall,Zc.zh hp,hg.mono (Zc.le hp)⟩
          obtain ⟨Z',ν',H',M',w',v',vs,fr',x1,x2,x3,x4,x5,x6,x7,x8,x9,x10,x11,x12,x13,x14,x15⟩:=
           hx.held f ct hct x hpre base M (va.toArray++vl.toArray++vk.toArray) args' w (Fr b a (.inRegion ops (i::rest)::k)::cs) Zq H (by simpa using hqa) hqz hqg hva' hrel'
          obtain ⟨Z2,ν2,y1,y2,y3⟩:=q28 hp hdom (d:=d) hq x1 x2 x3 x4 x5 x6 x7 x8 hok hrow (by have h5:@LT.lt Nat _ d 500000:=(hd d hdd).2;unfold nm BIG;omega);have hE:∃ E',putE n (some d) (qgq vs) E=some E':=⟨_,by simp only[putE];rw[if_pos (hd d hdd)]⟩;obtain ⟨E',hE⟩:=hE;obtain ⟨z1,z2⟩:=qbs (her.mono x9) hE x10;refine ⟨M',Z2,ν2,E',H',_,w',x9,z1,z2,x11,x12,y1.put hE y3,FC.env y2,.head (qef ho hwr hnd hrun) (x13.trans (.one ?_))⟩;have:=step_leave_returned (c:=Fr b a (.inRegion ops (i::rest)::k)) (cs:=cs) x15;rw[this,Fr.finish,ho];simp[hdd]
         ·cases hc0
        ·cases hc0
       ·cases hc0
      ·cases hc0
     ·cases hc0
    ·cases hc0
   ·cases h
  ·cases h
theorem qgn (hx:CxOK P tt G C) {ops:Array Oper} {i:Nat} {rest:List Nat} (h:Stp tt G C ops n i S S') (her:ER M n E a.tmps) (hrel:Rel base M H w) (hp:PR Z ν S E H) (hg:GZ Z G) (b:Frame) (k:List Item) (cs:List Frame) :
  ∃ M' Z' ν' E' H' a' w',Ext M M'/\ER M' n E' a'.tmps/\a'.defers=a.defers/\Rel base M' H' w'/\Below base w w'/\PR Z' ν' S' E' H'/\FC Z ν S H Z' ν' S' H' /\
   Steps P (lone (Fr b a (.inRegion ops (i::rest)::k)) cs w) (lone (Fr b a' (.inRegion ops rest::k)) cs w'):=by
 obtain ⟨o,ho,hd,h⟩:=h;rcases h with ⟨hgd,h⟩ | ⟨j,want,d,bb,hgd,hj,hb,h⟩
 ·exact q2t hx ho hd (by simp[qak,hgd]) h her hrel hp hg b k cs
 ·have hget:E.get d=some (.bool bb):=by
   obtain ⟨v,h1,h2⟩:=hp.env d _ hb;rw[h2.bool] at h1;exact h1
  have hw:qak ops o E=some (some bb == some want):=by simp[qak,hgd,qi6,hj,hget]
  have hsame:∀ t,lk (S.with d (.bool bb)).env t=lk S.env t:=by
   intro t;simp only[PS.with,qan];split
   next e=>subst e;exact hb.symm
   ·rfl
  have hp':PR Z ν (S.with d (.bool bb)) E H:=hp.ext hsame λ _=>rfl
  have fcs:FC Z ν S H Z ν (S.with d (.bool bb)) H:=FC.same λ _=>rfl
  rcases h with ⟨rfl,h⟩ | ⟨rfl,rfl⟩
  ·obtain ⟨M',Z',ν',E',H',a',w',x1,x2,x3,x4,x5,x6,x7,x8⟩:=q2t hx ho hd (by rw[hw];simp) h her hrel hp' hg b k cs;exact ⟨M',Z',ν',E',H',a',w',x1,x2,x3,x4,x5,x6,fcs.trans x7,x8⟩
  ·have hput:∃ E',putE n o.dst undef E=some E':=by
    cases hdd:o.dst with
    | none=>exact ⟨E,rfl⟩
    | some d=>exact ⟨_,by simp only[putE];rw[if_pos (hd d hdd)]⟩
   obtain ⟨E',hE⟩:=hput;have hf:(some (!want) == some want)=false:=by cases want <;> rfl
   rw[hf] at hw;have hst:qbm P (λ f=>(lk C f).isSome) noEv n ops i (E,H)=some (E',H):=by simp[qbm,ho,qhm,hw,hE]
   have hF:∀ f,(λ f=>(lk C f).isSome) f=true->∀ args w,(callFunc f args).run P w=.ok (.enter f args) w:=by
    intro f hf;exact hx.enter f hf
   obtain ⟨M',a',w',x1,x2,x3,x4,x5,x6⟩:=qa0 (base:=base) hF (λ r res h=>by cases h) (rest:=rest) hst her hrel b k cs;exact ⟨M',Z,ν,E',H,a',w',x1,x2,x3,x4,x5,hp'.put' hE (by intro s' h;cases h),fcs.put' _ _,x6⟩
theorem q5c (hx:CxOK P tt G C) {ops:Array Oper} {i:Nat} {rest:List Nat} {o:Oper} {d:Nat} {conds:List Prop} (ho:ops[i]?=some o) (hdd:o.dst=some d) (hd:∀ d,o.dst=some d->d<n/\d<500000) (hw:qak ops o E=some true) (hc0:exI G.mt C (pv G S.env) S d o=some (conds,S')) (hc:∀ c∈conds,c) (her:ER M n E a.tmps) (hrel:Rel base M H w) (hp:PR Z ν S E H) (hg:GZ Z G) (b:Frame) (k:List Item) (cs:List Frame) :
  ∃ M' Z' ν' E' H' a' w',Ext M M'/\ER M' n E' a'.tmps/\a'.defers=a.defers/\Rel base M' H' w'/\Below base w w'/\PR Z' ν' S' E' H'/\FC Z ν S H Z' ν' S' H' /\
   Steps P (lone (Fr b a (.inRegion ops (i::rest)::k)) cs w) (lone (Fr b a' (.inRegion ops rest::k)) cs w'):=by
 have hF:∀ f,(λ f=>(lk C f).isSome) f=true->∀ args w,(callFunc f args).run P w=.ok (.enter f args) w:=by
  intro f hf;exact hx.enter f hf
 have hdom:=hrel.dom;unfold exI at hc0;split at hc0
 next c hop=>
  split at hc0
  next xo name hcal=>
   split at hc0
   next tid g l0 l hf hl=>
    split at hc0
    next f r hfm hmk=>
     split at hc0
     next ct cs0 ns x hpk=>
      obtain ⟨hmem,hrd,hsome⟩:=qhh hpk;split at hc0
      next hcond=>
       simp only[Bool.and_eq_true,decide_eq_true_eq] at hcond;obtain ⟨hok,hlt⟩:=hcond;cases hc0;have hρ:=qbr hp hg;obtain ⟨vf,hvf,hfs⟩:=hρ _ _ hf;have hfs:CR Z ν (.ifc tid g l0) [vf]:=hfs;simp only[CR] at hfs;obtain ⟨us,vr,hus,hvfe,hg2⟩:=hfs;cases hvfe;have hrv:VS Z ν r vr:=qcd hmk hus (by cases g <;> simpa using hg2)
       obtain ⟨vl,hvl,hls⟩:=qaw hρ hl;have hall:VSL Z ν (r::l) (vr::vl):=⟨vr,vl,rfl,hrv,hls⟩;have hmth:=hx.mth _ _ _ (qkr hfm);have hop2:aOp P (λ f=>(lk C f).isSome) (qcx E) H o=some (.enter f (#[vr]++vl.toArray++#[]),H):=by
        obtain ⟨dst,op,type,pos,after,guard⟩:=o;simp only at hop;subst hop;simp[aOp,qh7,hcal,hvl,hvf,hmth,qjb,hsome]
       have hndf:=qck hop2;obtain ⟨args',hrun,hva',hrel'⟩:=qfs (P:=P) hrel hF (qb4 her hrel.glob) hop2;have hwr:=qci her hw;have hcc:∀ c∈cs0,c:=λ c hcc=>hc c (List.mem_append_left _ hcc)
       have hpre:ct.pre x:=hc _ (List.mem_append_right _ (by simp));have hnd:(ns.filterMap id).Nodup:=by
        simp only[okI,Bool.and_eq_true,decide_eq_true_eq] at hok;exact hok.1.1.1.1.1.1
       obtain ⟨e1,e2,e3,e4⟩:=qoz hp hrd hcc hall hnd;obtain ⟨Z',ν',H',M',w',v',vs,fr',x6,x7,x8,x9,x10,x11,x12,x13,x14,x15⟩:=
        hx.heldI f ct hmem x hpre base M (#[vr]++vl.toArray++#[]) args' w (Fr b a (.inRegion ops (i::rest)::k)::cs) _ _ H (by simpa using e1) e2 hg hva' hrel'
       obtain ⟨ν2,y1,y2,y3⟩:=qrw hp hdom hlt e4 e3 x7 x8 x6 hok;have hE:∃ E',putE n (some d) (qgq vs) E=some E':=⟨_,by simp only[putE];rw[if_pos (hd d hdd)]⟩;obtain ⟨E',hE⟩:=hE;obtain ⟨z1,z2⟩:=qbs (her.mono x9) hE x10;refine ⟨M',Z',ν2,E',H',_,w',x9,z1,z2,x11,x12,y1.put hE y3,FC.env y2,.head (qef ho hwr hndf hrun) (x13.trans (.one ?_))⟩;have:=step_leave_returned (c:=Fr b a (.inRegion ops (i::rest)::k)) (cs:=cs) x15;rw[this,Fr.finish,ho];simp[hdd]
      ·cases hc0
     ·cases hc0
    ·cases hc0
   ·cases hc0
  next fo hcal=>
   split at hc0
   next f fa fk l hf hl=>
    split at hc0
    next ct cs0 ns x hpk=>
     obtain ⟨hmem,hrd,hsome⟩:=qhh hpk;split at hc0
     ·skip
      next hcond=>
       simp only[Bool.and_eq_true,decide_eq_true_eq] at hcond;obtain ⟨⟨⟨hoa,hok0⟩,hok⟩,hlt⟩:=hcond;cases hc0;have hρ:=qbr hp hg;obtain ⟨vf,hvf,hfs⟩:=hρ _ _ hf;obtain ⟨va,vk,rfl,hva,hvk⟩:=hfs.fn;obtain ⟨vl,hvl,hls⟩:=qaw hρ hl;have hall:VSL Z ν (fa++l++fk) (va++vl++vk):=((hva.vsl hoa).app hls).app (hvk.vsl hok0);have hop2:aOp P (λ f=>(lk C f).isSome) (qcx E) H o=some (.enter f (va.toArray++vl.toArray++vk.toArray),H):=by
        obtain ⟨dst,op,type,pos,after,guard⟩:=o;simp only at hop;subst hop;simp[aOp,qh7,hcal,hvl,hvf,qjb,hsome]
       have hndf:=qck hop2;obtain ⟨args',hrun,hva',hrel'⟩:=qfs (P:=P) hrel hF (qb4 her hrel.glob) hop2;have hwr:=qci her hw;have hcc:∀ c∈cs0,c:=λ c hcc=>hc c (List.mem_append_left _ hcc)
       have hpre:ct.pre x:=hc _ (List.mem_append_right _ (by simp));have hnd:(ns.filterMap id).Nodup:=by
        simp only[okI,Bool.and_eq_true,decide_eq_true_eq] at hok;exact hok.1.1.1.1.1.1
       obtain ⟨e1,e2,e3,e4⟩:=qoz hp hrd hcc hall hnd;obtain ⟨Z',ν',H',M',w',v',vs,fr',x6,x7,x8,x9,x10,x11,x12,x13,x14,x15⟩:=
        hx.heldI f ct hmem x hpre base M (va.toArray++vl.toArray++vk.toArray) args' w (Fr b a (.inRegion ops (i::rest)::k)::cs) _ _ H (by simpa using e1) e2 hg hva' hrel'
       obtain ⟨ν2,y1,y2,y3⟩:=qrw hp hdom hlt e4 e3 x7 x8 x6 hok;have hE:∃ E',putE n (some d) (qgq vs) E=some E':=⟨_,by simp only[putE];rw[if_pos (hd d hdd)]⟩;obtain ⟨E',hE⟩:=hE;obtain ⟨z1,z2⟩:=qbs (her.mono x9) hE x10;refine ⟨M',Z',ν2,E',H',_,w',x9,z1,z2,x11,x12,y1.put hE y3,FC.env y2,.head (qef ho hwr hndf hrun) (x13.trans (.one ?_))⟩;have:=step_leave_returned (c:=Fr b a (.inRegion ops (i::rest)::k)) (cs:=cs) x15;rw[this,Fr.finish,ho];simp[hdd]
     ·cases hc0
    ·cases hc0
   ·cases hc0
  ·cases hc0
 ·cases hc0
theorem qd7 (hx:CxOK P tt G C) {ops:Array Oper} {i:Nat} {rest:List Nat} {o:Oper} (ho:ops[i]?=some o) (hd:∀ d,o.dst=some d->d<n/\d<500000) (hw:qak ops o E=some true) (h:ExI tt G C S o S') (her:ER M n E a.tmps) (hrel:Rel base M H w) (hp:PR Z ν S E H) (hg:GZ Z G) (b:Frame) (k:List Item) (cs:List Frame) :
  ∃ M' Z' ν' E' H' a' w',Ext M M'/\ER M' n E' a'.tmps/\a'.defers=a.defers/\Rel base M' H' w'/\Below base w w'/\PR Z' ν' S' E' H'/\FC Z ν S H Z' ν' S' H' /\
   Steps P (lone (Fr b a (.inRegion ops (i::rest)::k)) cs w) (lone (Fr b a' (.inRegion ops rest::k)) cs w'):=by
 obtain ⟨conds,h,hc⟩:=h;unfold qbe at h;split at h
 next r he=>cases h;exact q2t hx ho hd hw ⟨conds,he,hc⟩ her hrel hp hg b k cs
 ·split at h
  next d hdd=>exact q5c hx ho hdd hd hw h hc her hrel hp hg b k cs
  ·cases h
theorem VS.und:VS Z ν (.tup []) undef:=⟨[],rfl,(show V1L Z ν [] [] from rfl)⟩
theorem VS.isUnd {v:Value} (h:VS Z ν (.tup []) v):v=.tuple #[]:=by
 obtain ⟨vs,e,k⟩:=h;have:vs=[]:=k;subst this;exact e
theorem qqr (hx:CxOK P tt G C) {ops:Array Oper} {i:Nat} {rest:List Nat} (h:StpI tt G C ops n i S S') (her:ER M n E a.tmps) (hrel:Rel base M H w) (hp:PR Z ν S E H) (hg:GZ Z G) (b:Frame) (k:List Item) (cs:List Frame) :
  ∃ M' Z' ν' E' H' a' w',Ext M M'/\ER M' n E' a'.tmps/\a'.defers=a.defers/\Rel base M' H' w'/\Below base w w'/\PR Z' ν' S' E' H'/\FC Z ν S H Z' ν' S' H' /\
   Steps P (lone (Fr b a (.inRegion ops (i::rest)::k)) cs w) (lone (Fr b a' (.inRegion ops rest::k)) cs w'):=by
 obtain ⟨o,ho,hd,h⟩:=h;rcases h with ⟨hgd,h⟩ | ⟨j,want,d,bb,hgd,hj,hb,h⟩ | ⟨j,want,d,hgd,hj,hb,rfl⟩
 ·exact qd7 hx ho hd (by simp[qak,hgd]) h her hrel hp hg b k cs
 ·have hget:E.get d=some (.bool bb):=by
   obtain ⟨v,h1,h2⟩:=hp.env d _ hb;rw[h2.bool] at h1;exact h1
  have hw:qak ops o E=some (some bb == some want):=by simp[qak,hgd,qi6,hj,hget]
  have hsame:∀ t,lk (S.with d (.bool bb)).env t=lk S.env t:=by
   intro t;simp only[PS.with,qan];split
   next e=>subst e;exact hb.symm
   ·rfl
  have hp':PR Z ν (S.with d (.bool bb)) E H:=hp.ext hsame λ _=>rfl
  have fcs:FC Z ν S H Z ν (S.with d (.bool bb)) H:=FC.same λ _=>rfl
  rcases h with ⟨rfl,h⟩ | ⟨rfl,s0,hs0,rfl⟩
  ·obtain ⟨M',Z',ν',E',H',a',w',x1,x2,x3,x4,x5,x6,x7,x8⟩:=qd7 hx ho hd (by rw[hw];simp) h her hrel hp' hg b k cs;exact ⟨M',Z',ν',E',H',a',w',x1,x2,x3,x4,x5,x6,fcs.trans x7,x8⟩
  ·have hput:∃ E',putE n o.dst undef E=some E':=by
    cases hdd:o.dst with
    | none=>exact ⟨E,rfl⟩
    | some d=>exact ⟨_,by simp only[putE];rw[if_pos (hd d hdd)]⟩
   obtain ⟨E',hE⟩:=hput;have hf:(some (!want) == some want)=false:=by cases want <;> rfl
   rw[hf] at hw;have hst:qbm P (λ f=>(lk C f).isSome) noEv n ops i (E,H)=some (E',H):=by simp[qbm,ho,qhm,hw,hE]
   have hF:∀ f,(λ f=>(lk C f).isSome) f=true->∀ args w,(callFunc f args).run P w=.ok (.enter f args) w:=by
    intro f hf;exact hx.enter f hf
   obtain ⟨M',a',w',x1,x2,x3,x4,x5,x6⟩:=qa0 (base:=base) hF (λ r res h=>by cases h) (rest:=rest) hst her hrel b k cs;exact ⟨M',Z,ν,E',H,a',w',x1,x2,x3,x4,x5,hp'.put' hE (by rcases hs0 with rfl | rfl <;> (intro s' h;cases h);exact VS.und),fcs.put' _ _,x6⟩
 ·have hget:E.get d=some (.tuple #[]):=by
   obtain ⟨v,h1,h2⟩:=hp.env d _ hb;rw[h2.isUnd] at h1;exact h1
  have hw:qak ops o E=some false:=by simp[qak,hgd,qi6,hj,hget]
  have hput:∃ E',putE n o.dst undef E=some E':=by
   cases hdd:o.dst with
   | none=>exact ⟨E,rfl⟩
   | some d=>exact ⟨_,by simp only[putE];rw[if_pos (hd d hdd)]⟩
  obtain ⟨E',hE⟩:=hput;have hst:qbm P (λ f=>(lk C f).isSome) noEv n ops i (E,H)=some (E',H):=by simp[qbm,ho,qhm,hw,hE]
  have hF:∀ f,(λ f=>(lk C f).isSome) f=true->∀ args w,(callFunc f args).run P w=.ok (.enter f args) w:=by
   intro f hf;exact hx.enter f hf
  obtain ⟨M',a',w',x1,x2,x3,x4,x5,x6⟩:=qa0 (base:=base) hF (λ r res h=>by cases h) (rest:=rest) hst her hrel b k cs;exact ⟨M',Z,ν,E',H,a',w',x1,x2,x3,x4,x5,hp.put' hE (by intro s' h;cases h;exact VS.und),(FC.refl _ _ _ _).put' _ _,x6⟩
end
def rsOf (tt:TT) (G:GV) (S:PS):List ResultVar->Option (List SV)
 | []=>some []
 | .tmp t::l=>match lk S.env t,rsOf tt G S l with
  | some s,some r=>some (s::r)
  | _,_=>none
 | .cell x t :: l => match pR tt (pv G S.env) S.blk ⟨none, .load t (.tmp x), 0, "", #[], none⟩, rsOf tt G S l with
  | some ([],s),some r=>some (s::r)
  | _,_=>none
def Eqv (S S':PS):Prop:=(∀ t,lk S.env t=lk S'.env t)/\∀ t,lk S.blk t=lk S'.blk t
mutual
def frzS (i:Nat) (e:Sh) (xs:List e.D):SV->SV
 | .win r e' id lo n=>match decide (id=i) with
  | true=>if h:e'=e then .sl e' (winL e' lo n (h ▸ xs)) else .dead
  | false=>.win r e' id lo n
 | .agg l=>.agg (frzL i e xs l)
 | .tup l=>.tup (frzL i e xs l)
 | .ifc t g l=>.ifc t g (frzL i e xs l)
 | .pta n l j m=>.pta n l j (frzL i e xs m)
 | .fn f a c=>match qaf i a || qaf i c with
  | true=>.dead
  | false=>.fn f a c
 | .ptr id o=>match decide (id=i) with
  | true=>.dead
  | false=>.ptr id o
 | .elp e' id k o=>match decide (id=i) with
  | true=>.dead
  | false=>.elp e' id k o
 | .aep e' id b k o=>match decide (id=i) with
  | true=>.dead
  | false=>.aep e' id b k o
 | .mp id=>match decide (id=i) with
  | true=>.dead
  | false=>.mp id
 | s=>s
def frzL (i:Nat) (e:Sh) (xs:List e.D):List SV->List SV
 | []=>[]
 | s::l=>frzS i e xs s::frzL i e xs l
end
mutual
def inS (i m:Nat):SV->Prop
 | .win _ _ id lo n=>id=i->lo+n<=m
 | .agg l=>inL i m l
 | .tup l=>inL i m l
 | .ifc _ _ l=>inL i m l
 | .pta _ _ _ l=>inL i m l
 | _=>True
def inL (i m:Nat):List SV->Prop
 | []=>True
 | s::l=>inS i m s/\inL i m l
end
def frzB (i:Nat) (e:Sh) (xs:List e.D):LB->LB
 | .var l=>.var (frzL i e xs l)
 | b=>b
def inB (i m:Nat):LB->Prop
 | .var l=>inL i m l
 | _=>True
def PS.frzR (i:Nat) (e:Sh) (xs:List e.D) (S:PS):PS:=⟨mapS (frzS i e xs) S.env,mapS (frzB i e xs) (rm S.blk i)⟩
def inP (i m:Nat) (S:PS):Prop:=(∀ p∈S.env,inS i m p.2)/\∀ p∈S.blk,inB i m p.2
mutual
def cdS (i m:Nat):SV->List Prop
 | .win _ _ id lo n=>match decide (id=i) with
  | true=>[lo+n<=m]
  | false=>[]
 | .agg l=>cdL i m l
 | .tup l=>cdL i m l
 | .ifc _ _ l=>cdL i m l
 | .pta _ _ _ l=>cdL i m l
 | _=>[]
def cdL (i m:Nat):List SV->List Prop
 | []=>[]
 | s::l=>cdS i m s++cdL i m l
end
mutual
theorem qwj {i m:Nat}:∀ s:SV,(∀ c∈cdS i m s,c)->inS i m s
 | .win _ _ id lo n,h=>by
  simp only[cdS] at h;intro hid;rw[decide_eq_true hid] at h;exact h _ (by simp)
 | .agg l,h=>by simp only[cdS] at h;exact ql4 l h
 | .tup l,h=>by simp only[cdS] at h;exact ql4 l h
 | .ifc _ _ l,h=>by simp only[cdS] at h;exact ql4 l h
 | .pta _ _ _ l,h=>by simp only[cdS] at h;exact ql4 l h
 | .nils,_=>trivial
 | .dead,_=>trivial
 | .int _ _,_=>trivial
 | .bool _,_=>trivial
 | .str _,_=>trivial
 | .sl _ _,_=>trivial
 | .arr _ _ _,_=>trivial
 | .elv _ _,_=>trivial
 | .ptr _ _,_=>trivial
 | .elp _ _ _ _,_=>trivial
 | .aep _ _ _ _ _,_=>trivial
 | .mp _,_=>trivial
 | .fn _ _ _,_=>trivial
 | .yl _,_=>trivial
 | .nilm,_=>trivial
 | .nilp,_=>trivial
theorem ql4 {i m:Nat}:∀ l:List SV,(∀ c∈cdL i m l,c)->inL i m l
 | [],_=>trivial
 | s::l,h=>by
  simp only[cdL] at h;exact ⟨qwj s λ c hc=>h c (List.mem_append_left _ hc),ql4 l λ c hc=>h c (List.mem_append_right _ hc)⟩
end
def cdB (i m:Nat):LB->List Prop
 | .var l=>cdL i m l
 | _=>[]
def cdP (i m:Nat) (S:PS):List Prop:=(S.env.flatMap λ p=>cdS i m p.2)++S.blk.flatMap λ p=>cdB i m p.2
theorem q0k {i m:Nat} {S:PS} (h:∀ c∈cdP i m S,c):inP i m S:=by
 refine ⟨λ p hp=>qwj _ λ c hc=>h c (List.mem_append_left _ (List.mem_flatMap.2 ⟨p,hp,hc⟩)),λ p hp=>?_⟩;have:∀ c∈cdB i m p.2,c:=λ c hc=>h c (List.mem_append_right _ (List.mem_flatMap.2 ⟨p,hp,hc⟩))
 cases hq:p.2 with
 | var l=>rw[hq] at this;exact ql4 l this
 | row _ _ _=>trivial
 | mp _ _ _=>trivial
 | iter _ _=>trivial
def frzN:List Nat->PS->List Prop × PS
 | [],S=>([],S)
 | i::l,S=>match lk S.blk i with
  | some (.row _ e xs)=>(cdP i xs.length S++(frzN l (S.frzR i e xs)).1,(frzN l (S.frzR i e xs)).2)
  | _=>frzN l S
def q49 (C:CV) (ρ:Operand->Option SV) (blk:List (Nat × LB)) (o:Oper):List Nat:=
 match o.op with
 | .call c=>match c.callee with
  | .value (.func f)=>match qbb ρ c.args with
   | some l=>match qcs l with
    | true=>[]
    | false=>match lk C f with
     | some (.inl ct)=>match qdb blk ct.args l with
      | some (_,x)=>match qa5 (ct.out x)&&(ct.rows x).all qfc with
       | true=>[]
       | false=>idsL l
      | none=>[]
     | _=>[]
   | none=>[]
  | _=>[]
 | .buildSlice _ _ parts=>match qdr ρ parts with
  | some ps=>ps.flatMap λ p=>ids p.2
  | none=>[]
 | .build _ parts=>match qdr ρ parts with
  | some ps=>if decide (2<=ps.length)&&ps.all (λ p=>qg0 p.2) then ps.flatMap λ p=>ids p.2 else []
  | none=>[]
 | .store _ p x=>match ρ p with
  | some (.elp _ _ _ _)=>match ρ x with
   | some s=>ids s
   | none=>[]
  | some (.aep _ _ _ _ _)=>match ρ x with
   | some s=>ids s
   | none=>[]
  | _=>[]
 | .mapUpdate _ _ _ x=>match ρ x with
  | some s=>ids s
  | none=>[]
 | .insert _ _ _ x=>match ρ x with
  | some s=>ids s
  | none=>[]
 | _=>[]
section
variable {Z Z':Nat->Option ABlk} {ν:Nu} {S:PS} {E:T Value} {H:AHeap} {i:Nat} {e:Sh} {et:TypeId} {xs:List e.D}
theorem q3i (hb:BR Z ν H i (.row et e xs)) (hz:ZLe Z Z') (hz2:∀ ni y,ν i=some ni->H.t.get ni.b=some y->Z' ni.b=some y) {r:Bool} {lo n:Nat} {v:Value} (hw:WinR r ν e i lo n v) (hin:lo+n<=xs.length):RV Z' (.sl e) (winL e lo n xs) [v]:=by
 simp only[RV];refine ⟨v,rfl,?_⟩;unfold WinR at hw;split at hw
 ·obtain ⟨rfl,rfl,h⟩:=hw;exact .inl ⟨by simp[winL],h.imp id And.right⟩
 next ni hn=>
  obtain ⟨hpos,⟨hn',_⟩ | ⟨ni',cs,tl,k,hn',hg,hrv,hk⟩⟩:=hb
  ·rw[hn] at hn';cases hn'
  ·rw[hn] at hn';cases hn';obtain ⟨q1,q2,q3⟩:=qe3 (tl:=tl) (RVL.mono (λ x u k=>RV.mono hz e x u k) hrv) hin;have hz3:=hz2 ni _ hn hg;rcases hw with ⟨_,rfl,rfl | ⟨o,t,rfl,ht,ho⟩⟩ | ⟨cap,rfl,hcap⟩
   ·exact .inl ⟨by simp[winL],.inr rfl⟩
   ·have e0:winL e lo 0 xs=[]:=by simp[winL]
    rw[e0];refine .inr ⟨_,_,0,_,_,_,rfl,hz3,?_,by simp[RVL],.inr ⟨Nat.le_refl _,by decide⟩⟩;rcases hk with ⟨h,_⟩ | ⟨h,_⟩
    ·rw[h] at ht;cases ht
    ·rw[h] at ht;cases ht;simpa using ho
   ·refine .inr ⟨_,_,cap,_,_,_,by rw[q3],hz3,by rw[q3];exact q2,by rw[q3];exact q1,?_⟩;rcases hk with ⟨h,h2⟩ | ⟨h,h2⟩
    ·rw[h] at hcap;exact .inl ⟨hcap,h2,Nat.mul_mod_left _ _⟩
    ·rw[h] at hcap;exact .inr ⟨by rw[q3];exact hcap.1,hcap.2.1⟩
mutual
theorem CR.frz (hb:BR Z ν H i (.row et e xs)) (hz:ZLe Z Z') (hz2:∀ ni y,ν i=some ni->H.t.get ni.b=some y->Z' ni.b=some y):∀ (s:SV) (vs:List Value),inS i xs.length s->CR Z ν s vs->CR Z' ν (frzS i e xs s) vs
 | .nils,_,_,h=>h
 | .dead,_,_,h=>h
 | .int _ _,_,_,h=>h
 | .bool _,_,_,h=>h
 | .str _,_,_,h=>h
 | .sl e l,vs,_,h=>CR.mono hz (.sl e l) vs h
 | .arr n e l,vs,_,h=>CR.mono hz (.arr n e l) vs h
 | .elv σ x,vs,_,h=>CR.mono hz (.elv σ x) vs h
 | .win r e' id lo n,vs,hi,h=>by
  simp only[frzS];split
  next hd=>
   have hd:=of_decide_eq_true hd;subst hd;split
   next he=>subst he;simp only[CR] at h |-;obtain ⟨v,rfl,hw⟩:=h;exact q3i hb hz hz2 hw (hi rfl)
   ·exact CR.mono hz .dead vs (h.dead (by intros;simp) (by intros;simp))
  ·exact CR.mono hz (.win r e' id lo n) vs h
 | .ptr id o,vs,_,h=>by
  simp only[frzS];split
  ·exact CR.mono hz .dead vs (h.dead (by intros;simp) (by intros;simp))
  ·exact CR.mono hz (.ptr id o) vs h
 | .elp e' id k o,vs,_,h=>by
  simp only[frzS];split
  ·exact CR.mono hz .dead vs (h.dead (by intros;simp) (by intros;simp))
  ·exact CR.mono hz (.elp e' id k o) vs h
 | .aep e' id b k o,vs,_,h=>by
  simp only[frzS];split
  ·exact CR.mono hz .dead vs (h.dead (by intros;simp) (by intros;simp))
  ·exact CR.mono hz (.aep e' id b k o) vs h
 | .mp id,vs,_,h=>by
  simp only[frzS];split
  ·exact CR.mono hz .dead vs (h.dead (by intros;simp) (by intros;simp))
  ·exact CR.mono hz (.mp id) vs h
 | .fn f a c,vs,_,h=>by
  simp only[frzS];split
  ·exact CR.mono hz .dead vs (h.dead (by intros;simp) (by intros;simp))
  ·exact CR.mono hz (.fn f a c) vs h
 | .yl _,_,_,h=>h
 | .nilm,_,_,h=>h
 | .nilp,_,_,h=>h
 | .ifc t g l,vs,hi,h=>by
  simp only[frzS,CR] at h |-;obtain ⟨us,v,h1,h2,h3⟩:=h;exact ⟨us,v,CRL.frz hb hz hz2 l us hi h1,h2,h3⟩
 | .pta _ _ _ l,vs,hi,h=>by
  simp only[frzS,CR] at h |-;obtain ⟨us,v,h1,h2⟩:=h;exact ⟨us,v,CRL.frz hb hz hz2 l us hi h1,h2⟩
 | .agg l,vs,hi,h=>by
  simp only[frzS,CR] at h |-;exact CRL.frz hb hz hz2 l vs hi h
 | .tup l,vs,_,h=>by simp only[CR] at h
theorem CRL.frz (hb:BR Z ν H i (.row et e xs)) (hz:ZLe Z Z') (hz2:∀ ni y,ν i=some ni->H.t.get ni.b=some y->Z' ni.b=some y):∀ (l:List SV) (vs:List Value),inL i xs.length l->CRL Z ν l vs->CRL Z' ν (frzL i e xs l) vs
 | [],_,_,h=>h
 | s::l,vs,hi,h=>by
  simp only[CRL,frzL] at h |-;obtain ⟨u,w,e1,h1,h2⟩:=h;exact ⟨u,w,e1,CR.frz hb hz hz2 s u hi.1 h1,CRL.frz hb hz hz2 l w hi.2 h2⟩
end
theorem V1.frz (hb:BR Z ν H i (.row et e xs)) (hz:ZLe Z Z') (hz2:∀ ni y,ν i=some ni->H.t.get ni.b=some y->Z' ni.b=some y) {s:SV} {v:Value} (hi:inS i xs.length s) (h:V1 Z ν s v):V1 Z' ν (frzS i e xs s) v:=by
 cases s with
 | agg l=>obtain ⟨vs,e1,h⟩:=h;exact ⟨vs,e1,CRL.frz hb hz hz2 l vs hi h⟩
 | arr n e' l=>obtain ⟨vs,e1,h⟩:=h;exact ⟨vs,e1,RV.mono hz _ _ _ h⟩
 | tup l=>exact absurd h (by intro h;simp only[V1,CR] at h)
 | win r e' id lo n=>
  have:=CR.frz hb hz hz2 (.win r e' id lo n) [v] hi h;simp only[frzS] at this |-;split
  next hd=>
   simp only[hd] at this;split
   next he=>rw[dif_pos he] at this;exact this
   next he=>rw[dif_neg he] at this;exact this
  next hd=>simp only[hd] at this;exact this
 | ptr id o=>
  have:=CR.frz hb hz hz2 (.ptr id o) [v] hi h;simp only[frzS] at this |-;split at this <;> exact this
 | elp e' id k o=>
  have:=CR.frz hb hz hz2 (.elp e' id k o) [v] hi h;simp only[frzS] at this |-;split at this <;> exact this
 | aep e' id b k o=>
  have:=CR.frz hb hz hz2 (.aep e' id b k o) [v] hi h;simp only[frzS] at this |-;split at this <;> exact this
 | mp id=>
  have:=CR.frz hb hz hz2 (.mp id) [v] hi h;simp only[frzS] at this |-;split at this <;> exact this
 | fn f a c=>
  have:=CR.frz hb hz hz2 (.fn f a c) [v] hi h;simp only[frzS] at this |-;split at this <;> exact this
 | ifc t g l=>
  have:=CR.frz hb hz hz2 (.ifc t g l) [v] hi h;simp only[frzS] at this |-;exact this
 | pta n l j m=>
  have:=CR.frz hb hz hz2 (.pta n l j m) [v] hi h;simp only[frzS] at this |-;exact this
 | _=>exact V1.mono hz h
theorem V1L.frz (hb:BR Z ν H i (.row et e xs)) (hz:ZLe Z Z') (hz2:∀ ni y,ν i=some ni->H.t.get ni.b=some y->Z' ni.b=some y):∀ {l:List SV} {vs:List Value},inL i xs.length l->V1L Z ν l vs->V1L Z' ν (frzL i e xs l) vs
 | [],_,_,h=>h
 | s::l,_,hi,⟨v,w,e1,h1,h2⟩=>⟨v,w,e1,V1.frz hb hz hz2 hi.1 h1,V1L.frz hb hz hz2 hi.2 h2⟩
theorem VS.frz (hb:BR Z ν H i (.row et e xs)) (hz:ZLe Z Z') (hz2:∀ ni y,ν i=some ni->H.t.get ni.b=some y->Z' ni.b=some y) {s:SV} {v:Value} (hi:inS i xs.length s) (h:VS Z ν s v):VS Z' ν (frzS i e xs s) v:=by
 cases s with
 | tup l=>obtain ⟨vs,e1,h⟩:=h;exact ⟨vs,e1,V1L.frz hb hz hz2 hi h⟩
 | _=>exact (V1.frz hb hz hz2 hi (VS.v1 h (by intros;simp))).vs
theorem q1u (i:Nat) (e:Sh) (xs:List e.D):∀ s:SV,opU (frzS i e xs s)=opU s:=by
 intro s
 cases s <;> simp only[frzS] <;> (try split) <;> (try split) <;> rfl
theorem q1y (i:Nat) (e:Sh) (xs:List e.D):∀ s:SV,opE (frzS i e xs s)=opE s:=by
 intro s
 cases s <;> simp only[frzS] <;> (try split) <;> (try split) <;> rfl
theorem qu7 (i:Nat) (e:Sh) (xs:List e.D):∀ l:List SV,opK (frzL i e xs l)=opK l
 | []=>rfl
 | [_]=>rfl
 | a::b::l=>qpr (q1u i e xs) (q1y i e xs) a b l _
theorem qz7 (hp:PR Z ν S E H) (hl:lk S.blk i=some (.row et e xs)) (hi:inP i xs.length S):∃ Z',PR Z' ν (S.frzR i e xs) E H/\FC Z ν S H Z' ν (S.frzR i e xs) H/\ZLe Z Z':=by
 have hb:=hp.blk _ _ hl;have mem:∀ {α:Type} {l:List (Nat × α)} {k:Nat} {x:α},lk l k=some x->(k,x)∈l:=by
  intro α l
  induction l with
  | nil=>intro k x h;simp[lk] at h
  | cons p l ih=>
   intro k x h;obtain ⟨a,b⟩:=p;simp only[lk] at h;split at h
   next hk=>subst hk;cases h;simp
   ·exact List.mem_cons_of_mem _ (ih h)
 let Z':Nat->Option ABlk:=λ c=>match ν i with
  | some ni=>if c=ni.b then H.t.get c else Z c
  | none=>Z c
 have zni:∀ ni,ν i=some ni->Z ni.b=none:=λ ni hn=>hp.zo _ ⟨i,_,ni,hl,hn,rfl⟩
 have hz:ZLe Z Z':=by
  intro c y hc;simp only[Z'];split
  next ni hn=>
   split
   next hcn=>subst hcn;rw[zni ni hn] at hc;cases hc
   ·exact hc
  ·exact hc
 have hz2:∀ ni y,ν i=some ni->H.t.get ni.b=some y->Z' ni.b=some y:=by
  intro ni y hn hy;simp only[Z',hn,if_true];exact hy
 have hown:∀ c,Own ν (S.frzR i e xs) c->Own ν S c/\∀ ni,ν i=some ni->c≠ni.b:=by
  rintro c ⟨id,lb,ni,h1,h2,h3⟩;simp only[PS.frzR,qaq,qbu] at h1;split at h1
  ·cases h1
  next hne=>rw[Option.map_eq_some_iff] at h1;obtain ⟨l0,h0,rfl⟩:=h1;refine ⟨⟨id,l0,ni,h0,h2,h3⟩,λ nj hj hc=>hne ?_⟩;exact hp.inj id i l0 _ ni nj h0 hl h2 hj (by rw[h3,hc])
 refine ⟨Z',⟨λ t s h=>?_,λ id lb h=>?_,λ c y hc=>?_,λ c ho=>?_,λ i1 j li lj ni nj h1 h2 h3 h4 h5=>?_⟩,⟨hz,λ c hc=>?_,Nat.le_refl _,λ c y hy _ _=>hy,λ c ho=>.inl (hown c ho).1,λ id hb2 h=>⟨?_,rfl⟩⟩,hz⟩
 ·simp only[PS.frzR,qaq] at h;rw[Option.map_eq_some_iff] at h;obtain ⟨s0,h0,rfl⟩:=h;obtain ⟨v,hv,hs⟩:=hp.env t s0 h0;exact ⟨v,hv,VS.frz hb hz hz2 (hi.1 _ (mem h0)) hs⟩
 ·simp only[PS.frzR,qaq,qbu] at h;split at h
  ·cases h
  ·rw[Option.map_eq_some_iff] at h;obtain ⟨l0,h0,rfl⟩:=h;have hi2:=hi.2 _ (mem h0);have hb0:=hp.blk id l0 h0
   cases l0 with
   | var l=>
    obtain ⟨ni,cs,et',h1,h2,h3,h4⟩:=hb0;exact ⟨ni,cs,et',h1,h2.of (qu7 i e xs l),by rw[qjg (qu7 i e xs l)];exact h3,CRL.frz hb hz hz2 l cs hi2 h4⟩
   | row et' e' ys=>exact hb0.mono hz
   | mp κ σ l=>exact hb0.mono hz
   | iter l pos=>exact hb0
 ·simp only[Z'] at hc;split at hc
  next ni hn=>
   split at hc
   next hcn=>
    subst hcn;obtain ⟨_,⟨hn',_⟩ | ⟨ni',cs,tl,k,hn',hg,_,_⟩⟩:=hb
    ·rw[hn] at hn';cases hn'
    ·rw[hn] at hn';cases hn';rw[hg] at hc;cases hc;exact ⟨hg,trivial⟩
   ·exact hp.zh c y hc
  ·exact hp.zh c y hc
 ·obtain ⟨h1,h2⟩:=hown c ho;simp only[Z'];split
  next ni hn=>rw[if_neg (h2 ni hn)];exact hp.zo c h1
  ·exact hp.zo c h1
 ·simp only[PS.frzR,qaq,qbu] at h1 h2;split at h1
  ·cases h1
  ·split at h2
   ·cases h2
   ·rw[Option.map_eq_some_iff] at h1 h2;obtain ⟨a,ha,_⟩:=h1;obtain ⟨c,hc,_⟩:=h2;exact hp.inj _ _ _ _ _ _ ha hc h3 h4 h5
 ·simp only[Z'] at hc;split at hc
  next ni hn=>
   split at hc
   next hcn=>exact .inr (.inr ⟨i,_,ni,hl,hn,hcn.symm⟩)
   ·exact .inl hc
  ·exact .inl hc
 ·simp only[PS.frzR,qaq,qbu] at h;split at h
  ·exact absurd rfl h
  ·intro q;rw[q] at h;exact h rfl
theorem qgx:∀ (l:List Nat) {Z:Nat->Option ABlk} {S:PS},PR Z ν S E H->(∀ c∈(frzN l S).1,c)->∃ Z',PR Z' ν (frzN l S).2 E H/\FC Z ν S H Z' ν (frzN l S).2 H/\ZLe Z Z'
 | [],Z,S,hp,_=>⟨Z,hp,FC.refl _ _ _ _,ZLe.refl _⟩
 | i::l,Z,S,hp,hc=>by
  cases hl:lk S.blk i with
  | none=>
   simp only[frzN,hl] at hc |-;exact qgx l hp hc
  | some lb=>
   cases lb with
   | row et e xs=>
    simp only[frzN,hl] at hc |-;obtain ⟨Z1,h1,h2,h3⟩:=qz7 hp hl (q0k λ c h=>hc c (List.mem_append_left _ h));obtain ⟨Z2,h4,h5,h6⟩:=qgx l h1 (λ c h=>hc c (List.mem_append_right _ h));exact ⟨Z2,h4,h2.trans h5,h3.trans h6⟩
   | var m=>simp only[frzN,hl] at hc |-;exact qgx l hp hc
   | mp _ _ _=>simp only[frzN,hl] at hc |-;exact qgx l hp hc
   | iter _ _=>simp only[frzN,hl] at hc |-;exact qgx l hp hc
end
def flt:SV->Bool
 | .nils | .int _ _ | .bool _ | .str _ | .sl _ _ | .arr _ _ _=>true
 | _=>false
def opnX (tt:TT) (G:GV) (S:PS) (o:Oper):Option (List Prop × PS):=
 match o.op with
 | .store t p x=>match o.dst with
  | none=>match lk tt t,pv G S.env p,pv G S.env x with
   | some ti,some (.elp e id i off),some v=>match lk S.blk id with
    | some (.var l)=>match opnL e l with
     | some (m,s)=>match !qen v&&Nat.beq (SV.size.sizeL (items v)) ti.size with
      | true=>match qg8 s off ti.size (items v) with
       | some s'=>some ([i=m],⟨S.env,st S.blk id (.var (l.take 2++s'))⟩)
       | none=>none
      | false=>none
     | none=>none
    | _=>none
   | _,_,_=>none
  | some _=>none
 | .call c=>match c.callee with
  | .builtin .append=>match o.dst with
   | some d=>match qbb (pv G S.env) c.args,(c.argTypes[0]?).bind (lk tt),c.argTypes[1]?.bind (lk tt) with
    | some [s,.win _ e2 id2 0 1],some t0,some t1=>match t0.kind with
     | .slice et=>match t1.kind.seq with
      | true=>match lk tt et,lk S.blk id2 with
       | some ti,some (.var s2)=>match decide (e2=ti.sh)&&(decide (ti.sh.size=ti.size)&&(decide (0<ti.size)&&(Nat.beq (SV.size.sizeL s2) ti.size&&s2.all flt))) with
        | true=>match s with
         | .nils=>some ([ti.bytes<=2 ^ 10],(S.fresh none d (.var (.arr et .unit (List.replicate et ())::.arr 0 ti.sh []::s2))).with d (.win true ti.sh d 0 1))
         | .win true e id 0 n=>match lk S.blk id with
          | some (.var (.arr et' .unit _::.arr m e' xs::s'))=>match decide (e=ti.sh)&&(decide (e'=ti.sh)&&Nat.beq et' et),toDL e' s' with
           | true,some (y,[])=>some ([n=m+1,m+2<2 ^ 30,ti.bytes<=2 ^ 10],(S.fresh (some id) d (.var (.arr et .unit (List.replicate et ())::.arr (m+1) e' (xs++[y])::s2))).with d (.win true ti.sh d 0 (n+1)))
           | _,_=>none
          | _=>none
         | _=>none
        | false=>none
       | _,_=>none
      | false=>none
     | _=>none
    | _,_,_=>none
   | none=>none
  | _=>none
 | _=>none
section
variable {P:Program} {tt:TT} {G:GV} {Z:Nat->Option ABlk} {ν ν':Nu} {S:PS} {E:T Value} {H H':AHeap} {F:FuncId->Bool}
theorem CRL.flt:∀ {l:List SV} {vs:List Value},l.all Px.flt=true->CRL Z ν l vs->CRL Z ν' l vs
 | [],_,_,h=>h
 | s::l,vs,hf,h=>by
  simp only[List.all_cons,Bool.and_eq_true] at hf;simp only[CRL] at h |-;obtain ⟨u,w,e,h1,h2⟩:=h;refine ⟨u,w,e,?_,CRL.flt hf.2 h2⟩
  cases s <;> first | exact h1 | (exfalso;simp[Px.flt] at hf)
theorem qx2 {t m:Nat} {u:List Unit} {e:Sh} {xs:List e.D} {s:List SV} {cs:List Value} (h:CRL Z ν (.arr t .unit u::.arr m e xs::s) cs):∃ a w,cs=a++w/\a.length=m*e.size/\CRL Z ν s w/\∀ s' w',CRL Z ν s' w'->CRL Z ν (.arr t .unit u::.arr m e xs::s') (a++w'):=by
 simp only[CRL] at h;obtain ⟨u0,w0,rfl,h1,u1,w1,rfl,h2,h3⟩:=h;have h1':=h1;have h2':=h2;simp only[CR,RV] at h1' h2';have h4:=RVL.units h1'.2;subst h4;have hl:=h2'.2.len (λ x u k=>RV.len e x u k);refine ⟨u1,w1,rfl,by rw[hl,h2'.1],h3,λ s' w' h=>?_⟩;simp only[CRL];exact ⟨[],u1++w',rfl,h1,u1,w',rfl,h2,h⟩
theorem qn1:∀ n:Nat,RVL (λ (_:Unit) (u:List Value)=>u=[]) (List.replicate n ()) []
 | 0=>rfl
 | n+1=>⟨[],[],rfl,rfl,qn1 n⟩
theorem qzy {t m:Nat} {e:Sh} {xs:List e.D} {s:List SV} {a w:List Value} (hm:xs.length=m) (h1:RVL (λ x u=>RV Z e x u) xs a) (h2:CRL Z ν s w):CRL Z ν (.arr t .unit (List.replicate t ())::.arr m e xs::s) (a++w):=by
 simp only[CRL];refine ⟨[],a++w,rfl,?_,a,w,rfl,?_,h2⟩
 ·simp only[CR,RV];exact ⟨List.length_replicate,qn1 t⟩
 ·simp only[CR,RV];exact ⟨hm,h1⟩
theorem qt2 (ht:TTOK P tt) (hp:PR Z ν S E H) {t:TypeId} {ti:TI} {e:Sh} {id i off m:Nat} {l s s':List SV} {v:SV} {pvv w:Value} (hti:lk tt t=some ti) (h:VS Z ν (.elp e id i off) pvv) (hw:VS Z ν v w) (hl:lk S.blk id=some (.var l)) (ho:opnL e l=some (m,s)) (hnt:qen v=false) (hsz:SV.size.sizeL (items v)=ti.size) (hsp:qg8 s off ti.size (items v)=some s') (hi:i=m) :
  ∃ ni x,ν id=some ni/\qcj P H t pvv w=some (H.put ni.b x)/\BR Z ν (H.put ni.b x) id (.var (l.take 2++s')):=by
 subst hi;obtain ⟨ni,hn,rfl⟩:=h.elp;obtain ⟨ni',cells,et,hn',hkt,hb,hcr⟩:=hp.blk _ _ hl;rw[hn] at hn';cases hn';obtain ⟨t0,u,xs,rfl⟩:=qkg ho;obtain ⟨a,w0,rfl,hal,hcs,hbk⟩:=qx2 hcr;have hit:=(hw.v1 (VS.notup hnt)).items;obtain ⟨q1,q2⟩:=qcr hcs hit hsp;have hlen:=hit.len;rw[hsz] at hlen;have hst:=qcw (ht _ _ hti) (off:=i*e.size+off) hb qyd hit hsz (by rw[List.length_append];omega);refine ⟨ni,_,hn,hst,?_⟩;have e9:=qny (vs:=a++w0) (A:=a) (u:=w0) (C:=[]) (nv:=w.cells.toList) (off:=off) (n:=ti.size) (by simp) hal (by omega);rw[e9,List.append_nil];refine ⟨ni,_,et,hn,?_,AHeap.get_put (Nat.zero_le _),hbk _ _ q1⟩;have e8:(a++(w0.take off++w.cells.toList++w0.drop (off+ti.size))).length=(a++w0).length:=by
  simp only[List.length_append,List.length_take,List.length_drop,hlen];omega
 rw[e8];exact KT.of hkt rfl
theorem qs5 {d:Nat} (hp:PR Z ν S E H) (hdom:∀ i x,H.t.get i=some x->i<H.next) (hdB:d<BIG) {ts:Array TypeId} {vsrc vx:Value} {id m:Nat} {et:TypeId} {ti:TI} {e:Sh} {xs:List e.D} {u:List Unit} {s s2:List SV} {y:e.D}
  (hlk:lk S.blk id=some (.var (.arr et .unit u::.arr m e xs::s))) (hy:toDL e s=some (y,[])) (he:e=ti.sh) (hw:WinR true ν ti.sh id 0 (m+1) vsrc) {T:AppT} (hT:qlh P ts=some T) (hTe:T.elem=et) (hTs:T.size=ti.size) (hTb:T.bytes=ti.bytes) (hsz:ti.sh.size=ti.size) (hpos:0<ti.size) {new:List Value}
  (n1:qez vx=some 1) (hn2:qbq H T.size 1 vx=some new) (hcr:CRL Z ν s2 new) (hf:s2.all Px.flt=true) (hnl:new.length=ti.size) (c1:m+2<2 ^ 30) (c2:ti.bytes<=2 ^ 10) :
  ∃ v H' ν',qap P H ts vsrc vx=some (v,H')/\PR Z ν' (S.fresh (some id) d (.var (.arr et .unit (List.replicate et ())::.arr (m+1) e (xs++[y])::s2))) E H'/\VS Z ν' (.win true ti.sh d 0 (m+1+1)) v/\FC Z ν S H Z ν' (S.fresh (some id) d (.var (.arr et .unit (List.replicate et ())::.arr (m+1) e (xs++[y])::s2))) H':=by
 obtain ⟨ni,cells,et',hn,hkt,hb,hc0⟩:=hp.blk _ _ hlk;obtain ⟨a,w,rfl,hxl,hal,hra,hw0⟩:=qn8 hc0;obtain ⟨w1,w2,rfl,hr1,hr2⟩:=qbl e hy hw0;simp only[CRL] at hr2;subst hr2;rw[List.append_nil] at hb hkt;subst he;have hrow:RVL (λ x u=>RV Z ti.sh x u) (xs++[y]) (a++w1):=hra.app (RVL.single hr1);have hcl:(a++w1).length=(m+1)*ti.size:=by
  have:=hrow.len (λ x u k=>RV.len ti.sh x u k);rw[this,hsz,List.length_append,hxl];rfl
 have hone:new.all (·.oneCell')=true:=by rw[List.all_eq_true];exact CRL.allOne _ _ hcr
 have hTpos:0<T.size:=by omega
 have hnl':new.length=1*T.size:=by rw[hnl,hTs,Nat.one_mul]
 have hgone:∀ i,some id=some i->∃ l,lk S.blk i=some l:=by rintro i hi;cases hi;exact ⟨_,hlk⟩
 have hbr:∀ (H':AHeap),H'.t.get H.next=some (.cells (a++w1++new) et (10+ti.size))->BR Z (Upd (qiu ν (some id)) d (some ⟨H.next,none⟩)) H' d (.var (.arr et .unit (List.replicate et ())::.arr (m+1) ti.sh (xs++[y])::s2)):=by
  intro H' hg;refine ⟨⟨H.next,none⟩,a++w1++new,et,qal,.inr ⟨rfl,10+ti.sh.size,rfl⟩,?_,qzy (by rw[List.length_append,hxl];rfl) hrow (CRL.flt hf hcr)⟩;rw[hg]
  show _=some (ABlk.cells _ _ (10+ti.sh.size))
  rw[hsz]
 unfold WinR at hw;rw[hn] at hw;simp only at hw;rcases hw with ⟨hr,_⟩ | ⟨cap,rfl,hcap⟩
 ·cases hr
 simp only[Nat.zero_mul] at *;have hwin:VS Z (Upd (qiu ν (some id)) d (some ⟨H.next,none⟩)) (.win true ti.sh d 0 (m+1+1)) (.slice (some ⟨H.next,0,none⟩) (m+1+1) qae):=by
  refine VS.mkWin ?_;unfold WinR;rw[qal];exact .inr ⟨qae,by simp,rfl⟩
 rcases hkt with htot | ⟨htot,k,hk⟩
 ·rw[htot] at hcap;simp only at hcap;obtain ⟨d1,d2,d3⟩:=hcap;rw[hsz,Nat.zero_add,hcl] at d3;have hcap2:cap=m+1:=by
   have:=Nat.le_of_mul_le_mul_right d3 hpos;omega
  have hno:cap≠qae:=by unfold qae;omega
  have hk0:kT (.arr et .unit u::.arr m ti.sh xs::s) ni=0:=by unfold kT;rw[htot]
  rw[hk0] at hb;have hold:qby H ⟨ni.b,0,none⟩ ((m+1)*T.size)=some (a++w1):=by
   simp only[qby,hb];rw[hTs,if_pos (by omega)];simp only[List.drop_zero];rw[List.take_of_length_le (by omega)]
  have hap:qap P H ts (.slice (some ⟨ni.b,0,none⟩) (m+1) cap) vx=some (.slice (some ⟨H.next,0,none⟩) (m+1+1) qae,H.add (.cells (a++w1++new) T.elem (10+T.size))):=by
   simp only[qap,hT,n1,hn2];rw[if_neg (by rw[hnl'];simp),if_neg (by simp),if_neg (by simp),if_neg hno,if_neg (by omega)];simp only[hold];rw[if_pos ⟨by omega,by rw[hTb];exact qki (by omega) (by omega) c2,Nat.zero_le _⟩]
  obtain ⟨q1,q2⟩:=qcg (H':=H.add (.cells (a++w1++new) T.elem (10+T.size))) (gone:=some id) (d:=d) (x:=some ⟨H.next,none⟩) hp hdom hdB hgone
   (λ b y h _=>by rw[AHeap.get_add_other (by have:=hdom _ _ h;omega)];exact h) (by simp[AHeap.add]) (by rintro nj hnj;cases hnj;exact .inl rfl)
   (hbr _ (by rw[AHeap.get_add (Nat.zero_le _),hTe,hTs]))
  exact ⟨_,_,_,hap,q1,hwin,q2⟩
 ·rw[htot] at hcap;simp only at hcap;subst hcap;simp only[opK,opU,opE,Option.some.injEq,Prod.mk.injEq] at hk;obtain ⟨rfl,rfl⟩:=hk;have hk0:kT (.arr et .unit u::.arr m ti.sh xs::s) ni=10+ti.size:=by unfold kT;rw[htot,<- hsz];rfl
  rw[hk0] at hb;have hap:qap P H ts (.slice (some ⟨ni.b,0,none⟩) (m+1) qae) vx=some (.slice (some ⟨H.next,0,none⟩) (m+1+1) qae,(H.put ni.b .dead).add (.cells ((a++w1).take ((m+1)*T.size)++new) T.elem (10+T.size))):=by
   simp only[qap,hT,n1,hn2];rw[if_neg (by rw[hnl'];simp),if_neg (by simp),if_neg (by simp),if_pos trivial];simp only[hb];have hbd:2*(m+1+1)*T.bytes<=2 ^ 48:=by
    rw[hTb];have:2*(m+1+1)*ti.bytes<=2 ^ 31*2 ^ 10:=Nat.mul_le_mul (by omega) c2;omega
   rw[if_pos ⟨by rw[hTs],trivial,by rw[hTs,hcl];exact Nat.le_refl _,hTe.symm,by omega,hbd,Nat.zero_le _,hone⟩]
  have e7:(a++w1).take ((m+1)*T.size)=a++w1:=List.take_of_length_le (by rw[hTs,hcl];exact Nat.le_refl _);rw[e7] at hap;have hnx:(H.put ni.b .dead).next=H.next:=rfl;have hnb:ni.b<H.next:=hdom _ _ hb;obtain ⟨q1,q2⟩:=qcg (H':=(H.put ni.b .dead).add (.cells (a++w1++new) T.elem (10+T.size))) (gone:=some id) (d:=d) (x:=some ⟨H.next,none⟩) hp hdom hdB hgone
   (λ b y h hng=>by
    rw[AHeap.get_add_other (by have:=hdom _ _ h;rw[hnx];omega),AHeap.get_put_other]
    ·exact h
    ·rintro rfl;exact hng ⟨id,ni,rfl,hn,rfl⟩) (by simp[AHeap.add,AHeap.put]) (by rintro nj hnj;cases hnj;exact .inl rfl)
   (hbr _ (by
    have:=AHeap.get_add (H:=H.put ni.b .dead) (x:=.cells (a++w1++new) T.elem (10+T.size)) (Nat.zero_le _);rw[hnx] at this
    rw[this,hTe,hTs]))
  exact ⟨_,_,_,hap,q1,hwin,q2⟩
theorem qqa {d:Nat} (hp:PR Z ν S E H) (hdom:∀ i x,H.t.get i=some x->i<H.next) (hdB:d<BIG) {ts:Array TypeId} {vx:Value} {et:TypeId} {ti:TI} {s2:List SV}
  {T:AppT} (hT:qlh P ts=some T) (hTe:T.elem=et) (hTs:T.size=ti.size) (hTb:T.bytes=ti.bytes) (hsz:ti.sh.size=ti.size) (hpos:0<ti.size) {new:List Value}
  (n1:qez vx=some 1) (hn2:qbq H T.size 1 vx=some new) (hcr:CRL Z ν s2 new) (hf:s2.all Px.flt=true) (hnl:new.length=ti.size) (c2:ti.bytes<=2 ^ 10) :
  ∃ v H' ν',qap P H ts (.slice none 0 0) vx=some (v,H')/\PR Z ν' (S.fresh none d (.var (.arr et .unit (List.replicate et ())::.arr 0 ti.sh []::s2))) E H'/\VS Z ν' (.win true ti.sh d 0 1) v/\FC Z ν S H Z ν' (S.fresh none d (.var (.arr et .unit (List.replicate et ())::.arr 0 ti.sh []::s2))) H':=by
 have hone:new.all (·.oneCell')=true:=by rw[List.all_eq_true];exact CRL.allOne _ _ hcr
 have hTpos:0<T.size:=by omega
 have hnl':new.length=1*T.size:=by rw[hnl,hTs,Nat.one_mul]
 have hap:qap P H ts (.slice none 0 0) vx=some (.slice (some ⟨H.next,0,none⟩) (0+1) qae,H.add (.cells new T.elem (10+T.size))):=by
  simp only[qap,hT,n1,hn2];rw[if_neg (by rw[hnl'];simp),if_neg (by unfold qae;omega),if_pos ⟨trivial,by omega,by rw[hTb];exact qki (by omega) (by omega) c2,Nat.zero_le _⟩]
 obtain ⟨q1,q2⟩:=qcg (H':=H.add (.cells new T.elem (10+T.size))) (gone:=none) (d:=d) (x:=some ⟨H.next,none⟩) (lb:=.var (.arr et .unit (List.replicate et ())::.arr 0 ti.sh []::s2)) hp hdom hdB (by simp) (λ b y h _=>by rw[AHeap.get_add_other (by have:=hdom _ _ h;omega)];exact h) (by simp[AHeap.add]) (by rintro ni hni;cases hni;exact .inl rfl)
  (by
   refine ⟨⟨H.next,none⟩,new,et,qal,.inr ⟨rfl,10+ti.sh.size,rfl⟩,?_,?_⟩
   ·rw[AHeap.get_add (Nat.zero_le _),hTe,hTs]
    show _=some (ABlk.cells _ _ (10+ti.sh.size))
    rw[hsz]
   ·have:=qzy (Z:=Z) (ν:=Upd (qiu ν none) d (some ⟨H.next,none⟩)) (t:=et) (m:=0) (e:=ti.sh) (xs:=[]) (a:=[]) (s:=s2) (w:=new) rfl rfl (CRL.flt hf hcr)
    exact this)
 refine ⟨_,_,_,hap,q1,VS.mkWin ?_,q2⟩;unfold WinR;rw[qal];exact .inr ⟨qae,by simp,rfl⟩
theorem qu8 (hp:PR Z ν S E H) {r:Bool} {e:Sh} {id:Nat} {s2:List SV} {v:Value} {m:Nat} (hv:VS Z ν (.win r e id 0 1) v) (hl:lk S.blk id=some (.var s2)) (hs:SV.size.sizeL s2=m) (he:e.size=m) (hm:0<m) :
  ∃ new,qez v=some 1/\qbq H m 1 v=some new/\CRL Z ν s2 new/\new.length=m:=by
 obtain ⟨ni,cells,et,hn,hkt,hb,hcr⟩:=hp.blk _ _ hl;have hcl:=hcr.len;rw[hs] at hcl;have hw:=hv.win;unfold WinR at hw;rw[hn] at hw;simp only at hw;rcases hw with ⟨_,h0,_⟩ | ⟨cap,rfl,_⟩
 ·cases h0
 refine ⟨cells,rfl,?_,hcr,hcl⟩;simp only[qbq,Nat.zero_mul,Nat.one_mul];rw[if_neg (by omega)];simp only[qby,hb];rw[if_neg (by simp),if_pos (by omega)];simp only[List.drop_zero];rw[List.take_of_length_le (by omega)]
theorem qsm (ht:TTOK P tt) (hp:PR Z ν S E H) (hg:GZ Z G) (hdom:∀ i x,H.t.get i=some x->i<H.next) {o:Oper} {cs:List Prop} {S':PS} (h:opnX tt G S o=some (cs,S')) (hc:∀ c∈cs,c) {n:Nat} (hd:∀ d,o.dst=some d->d<n/\d<500000) :
  ∃ v H' E' ν',(aOp P F (qcx E) H o=some (.val v,H')\/(aOp P F (qcx E) H o=some (.skip,H')/\v=undef))/\putE n o.dst v E=some E'/\PR Z ν' S' E' H'/\FC Z ν S H Z ν' S' H':=by
 have hρ:=qbr hp hg;have hput:∀ v,∃ E',putE n o.dst v E=some E':=by
  intro v
  cases hdd:o.dst with
  | none=>exact ⟨E,rfl⟩
  | some d=>exact ⟨_,by simp only[putE];rw[if_pos (hd d hdd)]⟩
 unfold opnX at h;split at h
 next t p x hop=>
  split at h
  next hdd=>
   split at h
   next ti e id i off v hti hpp hxx=>
    split at h
    next l hl=>
     split at h
     next m s hol=>
      split at h
      next hcnd=>
       simp only[Bool.and_eq_true,Bool.not_eq_true'] at hcnd;split at h
       next s' hsp=>
        cases h;obtain ⟨va,ha,has⟩:=hρ _ _ hpp;obtain ⟨vb,hb,hbs⟩:=hρ _ _ hxx;obtain ⟨ni,xx,e4,e5,e6⟩:=qt2 ht hp hti has hbs hl hol hcnd.1 (Nat.eq_of_beq_eq_true hcnd.2) hsp (hc _ (by simp));obtain ⟨E',hE⟩:=hput undef;have hao:aOp P F (qcx E) H o=some (.skip,H.put ni.b xx):=by
         obtain ⟨dst,op,type,pos,after,guard⟩:=o;simp only at hop;subst hop;simp[aOp,ha,hb,e5]
        refine ⟨undef,_,E',ν,.inr ⟨hao,rfl⟩,hE,?_,FC.turn hl e4⟩;have:=hp.turn hl e4 e6;rw[hdd] at hE;simp only[putE,Option.some.injEq] at hE;subst hE;exact this
       ·cases h
      ·cases h
     ·cases h
    ·cases h
   ·cases h
  ·cases h
 next c hop=>
  split at h
  next hcal=>
   split at h
   next d hdd=>
    split at h
    next s r2 e2 id2 t0 t1 hargs h0 h1=>
     split at h
     next et k0=>
      split at h
      next hseq=>
       split at h
       next ti s2 hti hl2=>
        split at h
        next hcnd=>
         simp only[Bool.and_eq_true,decide_eq_true_eq] at hcnd;obtain ⟨he2,hsz,hpos,hs2,hf⟩:=hcnd;have hs2:=Nat.eq_of_beq_eq_true hs2;subst he2;obtain ⟨vs,hvs,hl⟩:=qaw hρ hargs;obtain ⟨vsrc,vx,rfl,hs,hx⟩:=hl.one2;obtain ⟨T,hT,hTe,hTs,hTb⟩:=qr6 ht h0 h1 k0 hseq hti hpos;obtain ⟨new,n1,n2,n3,n4⟩:=qu8 hp hx hl2 hs2 hsz hpos;have hop2:∀ {r},qap P H c.argTypes vsrc vx=some r->aOp P F (qcx E) H o=some (.val r.1,r.2):=by
          intro r hr;obtain ⟨dst,op,type,pos,after,guard⟩:=o;simp only at hop;subst hop;simp[aOp,qh7,hcal,hvs,qc5,hr]
         have hdB:d<BIG:=Nat.lt_trans (hd d hdd).2 (by decide);split at h
         ·cases h;rw[hs.nils] at hop2;obtain ⟨v,H1,ν1,q1,q2,q3,q4⟩:=qqa (d:=d) hp hdom hdB hT hTe hTs hTb hsz hpos n1 (by rw[hTs];exact n2) n3 hf n4 (hc _ (by simp));obtain ⟨E',hE⟩:=hput v;refine ⟨v,H1,E',ν1,.inl (hop2 q1),hE,?_,FC.env q4⟩;rw[hdd] at hE;exact q2.put hE q3
         next e id n0=>
          split at h
          next et' u0 m e' xs s' hl1=>
           split at h
           next y hcnd2 hy=>simp only[Bool.and_eq_true,decide_eq_true_eq] at hcnd2;obtain ⟨g1,g2,g3⟩:=hcnd2;have g3:=Nat.eq_of_beq_eq_true g3;subst g1;subst g3;cases h;have c0:n0=m+1:=hc _ (by simp);subst c0;obtain ⟨v,H1,ν1,q1,q2,q3,q4⟩:=qs5 (d:=d) hp hdom hdB hl1 hy g2 hs.win hT hTe hTs hTb hsz hpos n1 (by rw[hTs];exact n2) n3 hf n4 (hc _ (by simp)) (hc _ (by simp));obtain ⟨E',hE⟩:=hput v;refine ⟨v,H1,E',ν1,.inl (hop2 q1),hE,?_,FC.env q4⟩;rw[hdd] at hE;exact q2.put hE q3
           ·cases h
          ·cases h
         ·cases h
        ·cases h
       ·cases h
      ·cases h
     ·cases h
    ·cases h
   ·cases h
  ·cases h
 ·cases h
end
def bc (b:Bool) (A B:Prop):Prop:=match b with
 | true=>A
 | false=>B
def conj:List Prop->Prop->Prop
 | [],p=>p
 | c::l,p=>c/\conj l p
theorem ql6 {b:Bool} {A B:Prop}:bc b A B↔(b=true->A)/\(b=false->B):=by cases b <;> simp[bc]
theorem qbn {p:Prop}:∀ {l:List Prop},conj l p↔(∀ c∈l,c)/\p
 | []=>by simp[conj]
 | c::l=>by
  simp only[conj,qbn (l:=l),List.mem_cons];constructor
  ·rintro ⟨h1,h2,h3⟩;refine ⟨λ d hd=>?_,h3⟩;rcases hd with rfl | hd
   ·exact h1
   ·exact h2 d hd
  ·rintro ⟨h1,h2⟩;exact ⟨h1 c (.inl rfl),λ d hd=>h1 d (.inr hd),h2⟩
def qo0 (n:Nat) (o:Oper):Bool:=match o.dst with
 | some d=>decide (d<n/\d<500000)
 | none=>true
def qk3 (S:PS):List Nat:=(S.env.flatMap λ p=>p.1::ids p.2)++S.blk.flatMap λ p=>p.1::match p.2 with
 | .var l=>idsL l
 | _=>[]
def qe2 (tt:TT) (G:GV) (C:CV) (S:PS) (o:Oper):PC (SV × List (Nat × LB)):=
 match pA tt (pv G S.env) o with
 | some (cs,s)=>some (cs,(s,[]))
 | none=>match pR tt (pv G S.env) S.blk o with
  | some (cs,s)=>some (cs,(s,[]))
  | none=>match o.dst with
   | some d=>match pF tt (pv G S.env) d o with
    | some (cs,(s,lb))=>some (cs,(s,[(d,lb)]))
    | none=>exC C (pv G S.env) S.blk d o
   | none=>none
def qrv (tt:TT) (G:GV) (C:CV) (S:PS) (o:Oper):Bool:=
 match qe2 tt G C S o with
 | some (_,(_,news))=>news.all λ p => !(qk3 S).contains p.1
 | none=>true
def shO (ops:Array Oper) (o:Oper):Bool:=match o.op,o.dst with
 | .buildSlice _ _ _,some d=>ops.any λ p=>match p.op with
  | .build _ _=>p.op.operands.any λ x=>match x with
   | .tmp t=>t == d
   | _=>false
  | _=>false
 | _,_=>false
def exS (tt:TT) (G:GV) (S:PS) (o:Oper):PC SV:=match o.dst with
 | some d=>match pF tt (pv G S.env) d o with
  | some (cs,(e0,.row _ e xs))=>match frzS d e xs e0 with
   | .sl e1 l=>some (cdS d xs.length e0++cs,.sl e1 l)
   | _=>none
  | _=>none
 | none=>none
def effN (tt:TT) (G:GV) (C:CV) (ops:Array Oper) (S:PS) (o:Oper):PC (SV × List (Nat × LB)):=match shO ops o with
 | true=>match exS tt G S o with
  | some (cs,s)=>some (cs,(s,[]))
  | none=>none
 | false=>qe2 tt G C S o
theorem qgj {tt:TT} {G:GV} {C:CV} {ops:Array Oper} {S:PS} {o:Oper} (h:shO ops o=false):effN tt G C ops S o=qe2 tt G C S o:=by unfold effN;rw[h]
theorem ql3 {tt:TT} {G:GV} {C:CV} {ops:Array Oper} {S:PS} {o:Oper} {cs:List Prop} {s:SV} {news:List (Nat × LB)} (h:shO ops o=true) (e:effN tt G C ops S o=some (cs,(s,news))):exS tt G S o=some (cs,s)/\news=[]:=by
 simp only[effN,h] at e;split at e
 next e1=>cases e;exact ⟨e1,rfl⟩
 ·cases e
theorem qvx {tt:TT} {G:GV} {S:PS} {o:Oper} {cs:List Prop} {s:SV} (h:exS tt G S o=some (cs,s)):∃ d e0 et e xs cs0 e1 l,o.dst=some d/\pF tt (pv G S.env) d o=some (cs0,(e0,.row et e xs))/\frzS d e xs e0=.sl e1 l/\cs=cdS d xs.length e0++cs0/\s=.sl e1 l:=by
 unfold exS at h;split at h
 next d hd=>
  split at h
  next h1=>
   split at h
   next h2=>cases h;exact ⟨d,_,_,_,_,_,_,_,hd,h1,h2,rfl,rfl⟩
   ·cases h
  ·cases h
 ·cases h
theorem qua {ops:Array Oper} {o:Oper} (h:shO ops o=true):∃ t n parts d,o.op=.buildSlice t n parts/\o.dst=some d:=by
 obtain ⟨dst,op,type,pos,after,guard⟩:=o;unfold shO at h;simp only at h;split at h
 ·exact ⟨_,_,_,_,rfl,rfl⟩
 ·cases h
def nonW (C:CV) (o:Oper):Bool:=match o.op with
 | .store _ _ _=>false
 | .mapUpdate _ _ _ _=>false
 | .insert _ _ _ _=>false
 | .next _ _=>false
 | .call c=>match c.callee with
  | .builtin .append | .builtin .copy | .builtin .clear=>false
  | .value (.func f)=>C.all λ p => !(p.1 == f&&p.2.isRight)
  | .value (.tmp _)=>false
  | .invoke _ _=>false
  | _=>true
 | _=>true
def early (ops:Array Oper) (o:Oper):Bool:=match o.op,o.dst with
 | .assign _,some d=>ops.all λ p => !(p.looksAt ops).contains d
 | _,_=>true
def nw (C:CV) (ops:Array Oper) (o:Oper):Bool:=nonW C o&&early ops o
theorem qmz {C:CV} {ops:Array Oper} {o:Oper} (h:nw C ops o=true):nonW C o=true:=by
 simp only[nw,Bool.and_eq_true] at h;exact h.1
def qat (S:PS) (o:Oper):Bool:=match o.dst with
 | some d=>(lk S.env d).isNone
 | none=>true
def qfh (o:Oper):Bool:=match o.op with
 | .move _=>o.guard.isNone
 | .slice _ _ lo hi none=>o.guard.isNone&&(lo.isSome || hi.isNone)
 | _=>false
def isSt (o:Oper):Bool:=match o.op with
 | .store _ _ _=>o.guard.isNone&&o.dst.isNone
 | _=>false
def qdi (tt:TT) (o:Oper):Bool:=match o.op with
 | .makeSlice _ _ _=>o.guard.isNone
 | .alloc _=>o.guard.isNone
 | .binOp _ _ _ _ _=>o.guard.isNone
 | .convert s _ _=>match kOf tt s with
  | some (.int _)=>o.guard.isNone
  | _=>false
 | _=>false
def swN0 (tt:TT) (C:CV) (ops:Array Oper) (x y:Oper):Bool:=x.apart ops y&&((nw C ops x&&nw C ops y) || (nw C ops x&&qfh x&&isSt y) || (isSt x&&nw C ops y&&qfh y) || (nw C ops x&&qdi tt x&&isSt y))
def apOp (o:Oper):Bool:=match o.op with
 | .call c=>match c.callee with
  | .builtin .append=>o.guard.isNone&&o.dst.isSome
  | _=>false
 | _=>false
def argT (o:Oper):Option Nat:=match o.op with
 | .call c=>match c.args.toList with
  | .tmp t::_=>some t
  | _=>none
 | _=>none
def qbj (o:Oper):Bool:=match o.op with
 | .call c=>match c.callee with
  | .builtin _=>true
  | _=>false
 | _=>true
def qhp (tt:TT) (C:CV) (ops:Array Oper):Bool := !qgc (swN0 tt C ops) ops
def swA (tt:TT) (C:CV) (ops:Array Oper) (x y:Oper):Bool:=match apOp x&&nw C ops y&&qbj y&&x.apart ops y&&(match argT x with | some t => !(y.looksAt ops).contains t | none=>false) with
 | true=>qhp tt C ops
 | false=>false
def qds (tt:TT) (o:Oper):Bool:=match o.op with
 | .alloc _ | .box _ _ | .buildSlice _ _ _ | .makeSlice _ _ _ | .range _ _ | .makeMap _ _=>false
 | .convert s _ _=>match kOf tt s with
  | some .str=>false
  | _=>true
 | _=>true
def qjz (ops:Array Oper) (o y:Oper):Bool:=match y.dst with
 | some d=>o.after.toList.all λ e => !Region.binds .any e || !((ops[e.on]?).bind (·.dst) == some d)
 | none=>false
def dA (tt:TT) (C:CV) (ops:Array Oper) (x:Oper):List Nat:=ops.toList.flatMap λ y=>match nw C ops y&&qbj y&&x.apart ops y && !qds tt y with | true=>y.dst.toList | false=>[]
def wS (C:CV) (ops:Array Oper) (o:Oper):List Nat:=ops.toList.flatMap λ y=>match nw C ops y&&qbj y&&qjz ops o y with | true=>y.dst.toList++y.looksAt ops | false=>[]
def swB (tt:TT) (C:CV) (ops:Array Oper) (x y:Oper):Bool:=match apOp y&&nw C ops x&&qbj x&&qds tt x&&x.apart ops y&&y.apart ops x&&(match argT y with | some t => !(x.looksAt ops).contains t | none=>false)&&(match x.dst with | some d => !(dA tt C ops y).contains d | none=>true) with
 | true=>qhp tt C ops
 | false=>false
def swS (tt:TT) (C:CV) (ops:Array Oper) (x y:Oper):Bool:=match isSt y&&nw C ops x&&qbj x&&x.apart ops y&&qjz ops y x with
 | true=>qhp tt C ops
 | false=>false
def unS (ops:Array Oper) (x y:Oper):Bool:=(!isSt x || qjz ops x y)&&(!isSt y || qjz ops y x)
def ciOp (C:CV) (o:Oper):Bool:=match o.op,o.dst with
 | .call c,some _=>match c.callee with
  | .value (.func f)=>match lk C f with
   | some (.inr _)=>o.guard.isNone
   | _=>false
  | _=>false
 | _,_=>false
def swI (tt:TT) (C:CV) (ops:Array Oper) (x y:Oper):Bool:=match ciOp C x&&nw C ops y&&qbj y&&x.apart ops y with
 | true=>qhp tt C ops
 | false=>false
def swJ (tt:TT) (C:CV) (ops:Array Oper) (x y:Oper):Bool:=match ciOp C y&&nw C ops x&&qbj x&&qds tt x&&x.apart ops y&&y.apart ops x&&(match x.dst with | some d => !(dA tt C ops y).contains d | none=>true) with
 | true=>qhp tt C ops
 | false=>false
def swN (tt:TT) (C:CV) (ops:Array Oper) (x y:Oper):Bool:=(swN0 tt C ops x y&&(unS ops x y || !qhp tt C ops)) || (swA tt C ops x y || (swB tt C ops x y || (swS tt C ops x y || (swI tt C ops x y || swJ tt C ops x y))))
def wA (C:CV) (ops:Array Oper) (x:Oper):List Nat:=ops.toList.flatMap λ y=>match nw C ops y&&qbj y&&x.apart ops y with | true=>y.dst.toList++y.looksAt ops | false=>[]
def q4o (W:List Nat) (t:Nat) (S:PS):Bool:=match lk S.env t with
 | some (.win _ _ g _ _) => !W.contains g&&(S.env.all λ p => !W.contains p.1 || !ment g p.2)&&(S.blk.all λ p=>match p.2 with | .var l => !qaf g l | _=>true)
 | _=>true
def apB (tt:TT) (C:CV) (ops:Array Oper) (S:PS) (o:Oper):Bool:=match apOp o with
 | false=>true
 | true=>match qhp tt C ops with
  | false=>true
  | true=>match o.dst,argT o with
   | some d,some t => !(qk3 S).contains d&&q4o (wA C ops o) t S&&(dA tt C ops o).all λ u=>(lk S.env u).isSome || !(qk3 S).contains u
   | _,_=>false
def stB0 (tt:TT) (C:CV) (ops:Array Oper) (S:PS) (o:Oper):Bool:=match isSt o&&(!(wS C ops o).isEmpty&&qhp tt C ops) with
 | false=>true
 | true=>o.op.operands.all λ x=>match x with
  | .tmp t=>match lk S.env t with
   | some s=>(ids s).all λ id=>((wS C ops o).all λ u=>match lk S.env u with | some s' => !ment id s' | none=>true)&&S.blk.all λ p => !(idsB p.2).contains id
   | none=>true
  | _=>true
def ciN (C:CV) (ρ:Operand->Option SV) (blk:List (Nat × LB)) (o:Oper):List Nat:=match o.op,o.dst with
 | .call c,some d=>match c.callee with
  | .value (.func f)=>match qbb ρ c.args with
   | some l=>match qcz f blk l C with
    | some ⟨ct,(_,(ns,x))⟩=>ns.filterMap id++newN d ns (ct.blk x)
    | none=>[]
   | none=>[]
  | _=>[]
 | _,_=>[]
def ciT (C:CV) (ρ:Operand->Option SV) (blk:List (Nat × LB)) (o:Oper):List Nat:=match o.op with
 | .call c=>match c.callee with
  | .value (.func f)=>match qbb ρ c.args with
   | some l=>match qcz f blk l C with
    | some ⟨_,(_,(ns,_))⟩=>ns.filterMap id
    | none=>[]
   | none=>[]
  | _=>[]
 | _=>[]
def ciB (tt:TT) (G:GV) (C:CV) (ops:Array Oper) (S:PS) (o:Oper):Bool:=match ciOp C o with
 | false=>true
 | true=>match qhp tt C ops with
  | false=>true
  | true=>((ciN C (pv G S.env) S.blk o).all λ i => !(wA C ops o).contains i&&(S.env.all λ p => !(wA C ops o).contains p.1 || !ment i p.2)&&S.blk.all λ p=>(ciT C (pv G S.env) S.blk o).contains p.1 || match p.2 with | .var l => !qaf i l | _=>true) &&
    (dA tt C ops o).all λ u=>(lk S.env u).isSome || !(qk3 S).contains u
def stB (tt:TT) (G:GV) (C:CV) (ops:Array Oper) (S:PS) (o:Oper):Bool:=stB0 tt C ops S o&&ciB tt G C ops S o
def qvi (ρ:Operand->Option SV) (blk:List (Nat × LB)) (o:Oper):Option Bool:=match o.op with
 | .next it true=>match ρ it with
  | some (.ptr id 0)=>match lk blk id with
   | some (.iter l pos)=>some (decide (pos<l.length))
   | _=>none
  | _=>none
 | _=>none
def qvh (ρ:Operand->Option SV) (S:PS) (o:Oper) (b:Bool):PS:=match o.op with
 | .next it true=>match ρ it with
  | some (.ptr id 0)=>match lk S.blk id with
   | some (.iter l pos)=>PS.put ⟨S.env,st S.blk id (.iter l (qz0 l pos b))⟩ o.dst (some (q45 l pos b))
   | _=>S
  | _=>S
 | _=>S
theorem q19 {tt:TT} {G:GV} {C:CV} {S:PS} {o:Oper} {b:Bool} (h:qvi (pv G S.env) S.blk o=some b):qbe tt G C S o=some ([],qvh (pv G S.env) S o b):=by
 obtain ⟨dst,op,type,pos,after,guard⟩:=o;unfold qvi at h;split at h
 next it hop=>
  simp only at hop;subst hop;split at h
  next id hit=>
   split at h
   next l pos hl=>
    cases h
    cases dst <;> simp[qbe,qe1,exO,pA,pR,pF,pW,hit,hl,qvh,ok]
   ·cases h
  ·cases h
 ·cases h
def exK (tt:TT) (G:GV) (C:CV) (dr:Bool) (S:PS) (o:Oper) (K:PS->Prop):Prop:=
 match qvi (pv G S.env) S.blk o with
 | some b=>match dr with
  | true=>False
  | false=>bc b (K (qvh (pv G S.env) S o true)) (K (qvh (pv G S.env) S o false))
 | none=>match qbe tt G C S o with
  | some (cs,S')=>match !dr || qrv tt G C S o with
   | true=>conj cs (K S')
   | false=>False
  | none=>False
def exKO (tt:TT) (G:GV) (C:CV) (ops:Array Oper) (dr:Bool) (S:PS) (o:Oper) (K:PS->Prop):Prop:=match dr&&shO ops o with
 | true=>match exS tt G S o with
  | some (cs,s)=>conj cs (K (S.put o.dst (some s)))
  | none=>False
 | false=>exK tt G C dr S o K
def mvO (o:Oper):Bool:=match o.op with
 | .move (.tmp _)=>o.guard.isNone&&o.dst.isSome
 | _=>false
def qjh:TT->Bool
 | []=>false
 | (a,_)::l=>memT a l
def sameO (z y:Oper):Bool:=match z.dst with
 | some a=>match y.dst with
  | some b=>Nat.beq a b
  | none=>false
 | none=>false
def quf (ops:Array Oper):Nat->Oper->Oper->Bool
 | 0,_,_=>false
 | n+1,x,y=>x.after.toList.any λ e=>match Region.binds .any e with
  | true=>match ops[e.on]? with
   | some z=>match sameO z y with
    | true=>true
    | false=>quf ops n z y
   | none=>false
  | false=>false
def ordO (ops:Array Oper) (x y:Oper):Bool:=match quf ops 12 x y with
 | true=>true
 | false=>quf ops 12 y x
def swF (tt:TT) (C:CV) (ops:Array Oper) (x y:Oper):Bool:=match swN tt C ops x y with
 | true => !ordO ops x y
 | false=>false
def mvP (ops:Array Oper) (o p:Oper):Bool:=mvO p&&(o.apart ops p&&(p.apart ops o && !ordO ops o p))
def qya (tt:TT) (C:CV) (ops:Array Oper) (o:Oper):Bool:=ops.all λ p => !swF tt C ops o p&&(!swF tt C ops p o && !mvP ops o p)
def qlb (tt:TT) (C:CV) (ops:Array Oper) (o:Oper):Bool:=match apOp o with
 | true=>ops.all λ p=>mvP ops o p || (!swF tt C ops o p && !swF tt C ops p o)
 | false=>false
def swM (tt:TT) (C:CV) (ops:Array Oper) (x y:Oper):Bool:=match mvO x with
 | true=>mvP ops y x&&qlb tt C ops y
 | false=>match mvO y with
  | true=>mvP ops x y&&qlb tt C ops x
  | false=>false
def swE (tt:TT) (C:CV) (ops:Array Oper) (x y:Oper):Bool:=match qjh tt with
 | true=>match swF tt C ops x y with
  | true=>true
  | false=>swM tt C ops x y
 | false=>swN tt C ops x y
def noM (tt:TT) (C:CV) (ops:Array Oper) (o:Oper):Bool:=match qjh tt with
 | true=>match apOp o with
  | true => !(ops.any (λ p=>mvP ops o p)&&qlb tt C ops o)
  | false=>true
 | false=>true
def wM (ops:Array Oper) (o:Oper):List Nat:=ops.toList.flatMap λ p=>match mvP ops o p with
 | true=>p.dst.toList++p.looksAt ops
 | false=>[]
def q4n (ops:Array Oper) (S:PS) (o:Oper):Bool:=match argT o with
 | some t=>match lk S.env t with
  | some (.win _ _ g _ _) => !(wM ops o).contains g
  | some .nils=>true
  | _=>false
 | none=>false
def q2m (tt:TT) (G:GV) (C:CV) (dr:Bool) (n:Nat) (ops:Array Oper) (S:PS) (o:Oper):Option (List Prop × PS):=match dr&&qjh tt with
 | false=>none
 | true=>match o.guard with
  | some _=>none
  | none=>match opnX tt G S o with
   | some r=>match qo0 n o&&qya tt C ops o with
    | true=>some r
    | false=>none
   | none=>match apOp o with
    | false=>match (isSt o || ciOp C o)&&(qo0 n o&&qya tt C ops o) with
     | true=>qbe tt G C S o
     | false=>none
    | true=>match qo0 n o&&(!noM tt C ops o&&q4n ops S o) with
     | true=>match qbe tt G C S o with
      | some r=>some r
      | none=>none
     | false=>none
def runO (tt:TT) (G:GV) (C:CV) (dr:Bool) (n:Nat) (ops:Array Oper):List Nat->PS->(PS->Prop)->Prop
 | [],S,K=>K S
 | i::l,S,K=>match ops[i]? with
  | none=>False
  | some o=>match q2m tt G C dr n ops S o with
   | some (cs,S')=>conj cs (runO tt G C dr n ops l S' K)
   | none=>match qo0 n o&&(!dr || (!nw C ops o || qat S o))&&(!dr || (noM tt C ops o&&(apB tt C ops S o&&stB tt G C ops S o))) with
   | false=>False
   | true=>match o.guard with
    | none=>exKO tt G C ops dr S o λ S'=>runO tt G C dr n ops l S' K
    | some (j,want)=>match (ops[j]?).bind (·.dst) with
     | none=>False
     | some d=>match lk S.env d with
      | some (.bool b)=>bc b
        (match want with
         | true=>exKO tt G C ops dr (S.with d (.bool true)) o λ S'=>runO tt G C dr n ops l S' K
         | false=>runO tt G C dr n ops l ((S.with d (.bool true)).put o.dst (some (.tup []))) K)
        (match want with
         | true=>runO tt G C dr n ops l ((S.with d (.bool false)).put o.dst (some (.tup []))) K
         | false=>exKO tt G C ops dr (S.with d (.bool false)) o λ S'=>runO tt G C dr n ops l S' K)
      | some (.tup [])=>runO tt G C dr n ops l (S.put o.dst (some (.tup []))) K
      | _=>False
def loses (C:CV) (S:PS) (ops:Array Oper):PS:=⟨ops.toList.foldl (λ e o=>match nw C ops o,o.dst with | true,some d=>rm e d | _,_=>e) S.env,S.blk⟩
section
variable {P:Program} {tt:TT} {G:GV} {C:CV} {f:FuncId} {n:Nat} {res:List ResultVar} {Q:List SV->List (Nat × LB)->Prop}
theorem qv0 {S:PS} {o:Oper} {K:PS->Prop} (h:exK tt G C true S o K):∃ S',ExI tt G C S o S'/\(true=true->qrv tt G C S o=true)/\K S':=by
 unfold exK at h;split at h
 ·exact h.elim
 ·split at h
  next cs S' he=>
   split at h
   next hd=>rw[qbn] at h;exact ⟨S',⟨cs,he,h.1⟩,λ _=>by simpa using hd,h.2⟩
   ·exact h.elim
  ·exact h.elim
theorem qsv {S:PS} {o:Oper} {K:PS->Prop} (h:exK tt G C false S o K):∃ S',ExI tt G C S o S'/\True/\K S':=by
 unfold exK at h;split at h
 next b hb=>
  rw[ql6] at h;refine ⟨qvh (pv G S.env) S o b,⟨[],q19 hb,by simp⟩,trivial,?_⟩
  cases b with
  | true=>exact h.1 rfl
  | false=>exact h.2 rfl
 ·split at h
  next cs S' he=>
   split at h
   ·rw[qbn] at h;exact ⟨S',⟨cs,he,h.1⟩,trivial,h.2⟩
   ·exact h.elim
  ·exact h.elim
theorem qeq {o:Oper} (h:qo0 n o=true):∀ d,o.dst=some d->d<n/\d<500000:=by
 intro d hd;simp only[qo0,hd,decide_eq_true_eq] at h;exact h
theorem qjr (C:CV) (S:PS) (ops:Array Oper) (t:Nat) (s:SV) (h:lk (loses C S ops).env t=some s):lk S.env t=some s:=by
 unfold loses at h;simp only at h;revert h;generalize S.env=e
 induction ops.toList generalizing e with
 | nil=>exact id
 | cons o l ih=>
  intro h;simp only[List.foldl_cons] at h;have:=ih _ h;split at this
  ·rw[qbu] at this;split at this
   ·cases this
   ·exact this
  ·exact this
end
abbrev Jt:=Nat->Bool->(Nat->Prop)->(Nat->Prop)->AHeap->Prop
structure Yp where
 l:Nat
 as:List Sh
 ys:List (DL as)
def Y0:Yp:=⟨0,[],[]⟩
structure HdOK (P:Program) (base:Prot) (G:GV) (Y:Yp) (Yd:Nat->Prop) (J:Jt):Prop where
 stab:∀ i s A B H H',J i s A B H->(∀ b y,A b->H.t.get b=some y->H'.t.get b=some y)->H.next<=H'.next->J i s A B H'
 dom:∀ i s A B H,J i s A B H->(∀ b,A b->∃ y,H.t.get b=some y)/\∀ b,B b->A b
 yld:∀ i (y:DL Y.as) A B H M w Z (args args':Array Value) (c:Frame) (cs:List Frame),Y.ys[i]?=some y->J i false A B H->Rel base M H w->VArgs Z Y.as y args.toList->(∀ b x,Z b=some x->H.t.get b=some x/\isCells x)->GZ Z G->(∀ b,B b->Z b=none)->(∀ b,Z b≠none->Yd b)->VRA M args args' ->
  ∃ bi,M[Y.l]?=some bi/\∃ M' H' w' A' B' r v' fn tmps assign body,(Instr.yield bi.real args').run P w=.ok (.round bi.real fn tmps assign body) w/\Ext M M'/\VR M' (.bool r) v'/\Rel base M' H' w'/\Below base w w' /\
   Steps P (lone (Frame.round bi.real fn tmps assign body .normal) (c::cs) w) (lone (c.finish v') cs w')/\J (i+1) (!r) A' B' H'/\H.next<=H'.next/\(∀ b x,H.t.get b=some x->¬ B b->H'.t.get b=some x)/\(∀ b,B' b->B b\/H.next<=b)/\∀ b,A' b->A b\/H.next<=b\/Z b≠none
inductive Rd where
 | fn
 | ready
 | busy
def Rd.out:Rd->Rd
 | .fn=>.fn
 | _=>.busy
structure LR where
 l:Nat
 L:Loop
 E:T Value
 n:Nat
def rdOf:Rd->Nat->Option Nat
 | .fn,_=>none
 | _,l=>some l
def EndE (e:AExit) (k0:List Item):Prop:=match e with
 | .normal=>k0=[]
 | .ret=>∃ k1,k0=.code .ret::k1
 | .exit id=>∃ k1,k0=.code (.exit id)::k1/\exitTo id k1=none
 | .goto l=>∃ k1,k0=.code (.goto l)::k1/\gotoIn l k1=none
def Mk (M:Map) (H:AHeap) (ds:List Nat) (df:List Deferred):Prop:=DR M ds df/\(∀ d∈ds,H.t.get d=some (.deferred true))/\ds.Nodup
structure FCY (X:Nat->Prop) (Z:Nat->Option ABlk) (ν:Nu) (S:PS) (H:AHeap) (A B:Nat->Prop) (Z':Nat->Option ABlk) (ν':Nu) (S':PS) (H':AHeap) (A' B':Nat->Prop):Prop where
 z:ZLe Z Z'
 zn:∀ b,Z' b≠none->Z b≠none\/H.next<=b\/Own ν S b
 le:H.next<=H'.next
 old:∀ b x,H.t.get b=some x->b<H.next->¬ Own ν S b->¬ B b->¬ X b->H'.t.get b=some x
 own:∀ b,Own ν' S' b->Own ν S b\/H.next<=b
 bb:∀ b,B' b->B b\/H.next<=b
 aa:∀ b,A' b->A b\/H.next<=b\/Z' b≠none
 big:∀ id,BIG<=id->lk S'.blk id≠none->lk S.blk id≠none/\ν' id=ν id
section
variable {Z Z1 Z2:Nat->Option ABlk} {ν ν1 ν2:Nu} {S S1 S2:PS} {H H1 H2:AHeap} {X A A1 A2 B B1 B2:Nat->Prop}
theorem FCY.refl:FCY X Z ν S H A B Z ν S H A B:=⟨ZLe.refl _,λ _ h=>.inl h,Nat.le_refl _,λ _ _ h _ _ _ _=>h,λ _ h=>.inl h,λ _ h=>.inl h,λ _ h=>.inl h,λ _ _ h=>⟨h,rfl⟩⟩
theorem FCY.of (h:FC Z ν S H Z1 ν1 S1 H1):FCY X Z ν S H A B Z1 ν1 S1 H1 A B:=⟨h.z,h.zn,h.le,λ b x h1 h2 h3 _ _=>h.old b x h1 h2 h3,h.own,λ _ h=>.inl h,λ _ h=>.inl h,h.big⟩
theorem FCY.trans (a:FCY X Z ν S H A B Z1 ν1 S1 H1 A1 B1) (c:FCY X Z1 ν1 S1 H1 A1 B1 Z2 ν2 S2 H2 A2 B2):FCY X Z ν S H A B Z2 ν2 S2 H2 A2 B2 where
 z:=a.z.trans c.z
 zn b h:=by
  rcases c.zn b h with h | h | h
  ·exact a.zn b h
  ·exact .inr (.inl (Nat.le_trans a.le h))
  ·exact .inr (a.own b h).symm
 le:=Nat.le_trans a.le c.le
 old b x h hb ho hB hX:=c.old b x (a.old b x h hb ho hB hX) (Nat.lt_of_lt_of_le hb a.le) (λ k=>by
  rcases a.own b k with k | k
  ·exact ho k
  ·omega) (λ k=>by
  rcases a.bb b k with k | k
  ·exact hB k
  ·omega) hX
 own b h:=by
  rcases c.own b h with h | h
  ·exact a.own b h
  ·exact .inr (Nat.le_trans a.le h)
 bb b h:=by
  rcases c.bb b h with h | h
  ·exact a.bb b h
  ·exact .inr (Nat.le_trans a.le h)
 aa b h:=by
  rcases c.aa b h with h | h | h
  ·rcases a.aa b h with k | k | k
   ·exact .inl k
   ·exact .inr (.inl k)
   ·refine .inr (.inr ?_);obtain ⟨x,hx⟩:=Option.ne_none_iff_exists'.1 k;rw[c.z b x hx];simp
  ·exact .inr (.inl (Nat.le_trans a.le h))
  ·exact .inr (.inr h)
 big id hb h:=by
  obtain ⟨h1,e1⟩:=c.big id hb h;obtain ⟨h2,e2⟩:=a.big id hb h1;exact ⟨h2,e1.trans e2⟩
end
def XL (rd:Rd) (lr:LR):Nat->Prop:=λ c=>rd≠.fn/\c=lr.l
structure OnW (P:Program) (G:GV) (f:FuncId) (n:Nat) (rd:Rd) (Y:Yp) (base:Prot) (Yd:Nat->Prop) (J:Jt) (lr:LR) (b:Frame) (g:Nat × Bool) (S:PS) (M:Map) (a:Act) (w:World) (Z:Nat->Option ABlk) (ν:Nu) (E:T Value) (H:AHeap) (A B:Nat->Prop) (ds:List Nat):Prop where
 hd:HdOK P base G Y Yd J
 j:J g.1 g.2 A B H
 dis:∀ c,A c->¬ Own ν S c
 bz:∀ c,B c->Z c=none
 yz:∀ c,Z c≠none->Yd c
 yn:∀ c,H.next<=c->Yd c
 yo:∀ c,Own ν S c->Yd c
 fr:FrOK M ⟨f,rdOf rd lr.l,n⟩ b
 lp:rd≠.fn->¬ A lr.l/\∃ s,H.t.get lr.l=some (.loop { lr.L with state:=s } lr.E lr.n)/\(rd=.ready->s=.ready)
 er:ER M n E a.tmps
 mark:Mk M H ds a.defers
 mb:∀ d∈ds,¬ A d
 rel:Rel base M H w
 pr:PR Z ν S E H
 gz:GZ Z G
def GoodE (P:Program) (G:GV) (f:FuncId) (n:Nat) (rd:Rd) (Y:Yp) (K:AExit->Nat × Bool->PS->Prop) (it:List Item) (g:Nat × Bool) (S:PS):Prop:=
 ∀ (base:Prot) (Yd:Nat->Prop) (J:Jt) (lr:LR) (b:Frame) (cs:List Frame) (M:Map) (a:Act) (w:World) (Z:Nat->Option ABlk) (ν:Nu) (E:T Value) (H:AHeap) (A B:Nat->Prop) (ds:List Nat),
  OnW P G f n rd Y base Yd J lr b g S M a w Z ν E H A B ds ->
  ∃ e g' S' M' a' w' Z' ν' E' H' A' B' ds' k0,K e g' S'/\OnW P G f n rd.out Y base Yd J lr b g' S' M' a' w' Z' ν' E' H' A' B' ds'/\Ext M M'/\Below base w w'/\FCY (XL rd lr) Z ν S H A B Z' ν' S' H' A' B' /\
   (∀ d∈ds',d∈ds\/H.next<=d)/\(rd≠.fn->ds'=ds)/\Steps P (lone (Fr b a it) cs w) (lone (Fr b a' k0) cs w')/\EndE e k0
section
variable {P:Program} {tt:TT} {G:GV} {C:CV} {f:FuncId} {n:Nat} {rd:Rd} {Y:Yp} {K:AExit->Nat × Bool->PS->Prop} {base:Prot} {Yd:Nat->Prop} {J:Jt} {lr:LR} {b:Frame} {g:Nat × Bool} {S S1:PS} {M M1:Map} {a a1:Act} {w w1:World} {Z Z1:Nat->Option ABlk} {ν ν1:Nu} {E E1:T Value} {H H1:AHeap} {A B:Nat->Prop} {ds:List Nat}
theorem qhk (hp:PR Z ν S E H) {c:Nat} (h:Own ν S c):∃ y,H.t.get c=some y/\(isCells y\/(∃ es,y=.map es)\/∃ s p,y=.iter s p):=by
 obtain ⟨id,lb,ni,h1,h2,rfl⟩:=h;have hb:=hp.blk id lb h1
 cases lb with
 | var l=>obtain ⟨ni',cs,et,g1,g2,g3,g4⟩:=hb;rw[h2] at g1;cases g1;exact ⟨_,g3,.inl trivial⟩
 | row et e xs=>
  obtain ⟨_,⟨g1,_⟩ | ⟨ni',cs,tl,k,g1,g2,_⟩⟩:=hb
  ·rw[h2] at g1;cases g1
  ·rw[h2] at g1;cases g1;exact ⟨_,g2,.inl trivial⟩
 | mp κ σ l=>obtain ⟨_,_,ni',es,g1,g2,_⟩:=hb;rw[h2] at g1;cases g1;exact ⟨_,g2,.inr (.inl ⟨_,rfl⟩)⟩
 | iter l pos=>obtain ⟨ni',g1,g2⟩:=hb;rw[h2] at g1;cases g1;exact ⟨_,g2,.inr (.inr ⟨_,_,rfl⟩)⟩
theorem OnW.alt (h:OnW P G f n rd Y base Yd J lr b g S M a w Z ν E H A B ds) {c:Nat} (hA:A c):c<H.next:=let ⟨_,hy⟩:=(h.hd.dom _ _ _ _ _ h.j).1 c hA;h.rel.dom _ _ hy
theorem OnW.next (h:OnW P G f n rd Y base Yd J lr b g S M a w Z ν E H A B ds) (hM:Ext M M1) (her:ER M1 n E1 a1.tmps) (hdf:a1.defers=a.defers) (hrel:Rel base M1 H1 w1) (hp:PR Z1 ν1 S1 E1 H1) (hf:FC Z ν S H Z1 ν1 S1 H1) :
  OnW P G f n rd Y base Yd J lr b g S1 M1 a1 w1 Z1 ν1 E1 H1 A B ds where
 hd:=h.hd
 j:=h.hd.stab _ _ _ _ _ _ h.j (λ c y hA hy=>hf.old c y hy (h.alt hA) (h.dis c hA)) hf.le
 dis c hA ho:=by
  rcases hf.own c ho with k | k
  ·exact h.dis c hA k
  ·have:=(h.alt hA);omega
 bz c hB:=by
  cases hz:Z1 c with
  | none=>rfl
  | some y=>
   exfalso;have hA:=(h.hd.dom _ _ _ _ _ h.j).2 c hB;rcases hf.zn c (by rw[hz];simp) with k | k | k
   ·exact k (h.bz c hB)
   ·have:=(h.alt hA);omega
   ·exact h.dis c hA k
 yz c hz:=by
  rcases hf.zn c hz with k | k | k
  ·exact h.yz c k
  ·exact h.yn c k
  ·exact h.yo c k
 yn c hc:=h.yn c (Nat.le_trans hf.le hc)
 yo c ho:=by
  rcases hf.own c ho with k | k
  ·exact h.yo c k
  ·exact h.yn c k
 fr:=h.fr.mono hM
 lp hr:=by
  obtain ⟨hb,sl,hg,hst⟩:=h.lp hr;refine ⟨hb,sl,hf.old _ _ hg (h.rel.dom _ _ hg) λ ho=>?_,hst⟩;obtain ⟨y,h1,h2⟩:=qhk h.pr ho;rw[hg] at h1;cases h1;rcases h2 with h2 | ⟨es,h2⟩ | ⟨_,_,h2⟩
  ·exact h2
  ·cases h2
  ·cases h2
 er:=her
 mark:=by
  refine ⟨by rw[hdf];exact h.mark.1.mono hM,λ d hd=>?_,h.mark.2.2⟩;have hg:=h.mark.2.1 d hd;refine hf.old _ _ hg (h.rel.dom _ _ hg) λ ho=>?_
  obtain ⟨y,h1,h2⟩:=qhk h.pr ho;rw[hg] at h1;cases h1;rcases h2 with h2 | ⟨es,h2⟩ | ⟨_,_,h2⟩
  ·exact h2
  ·cases h2
  ·cases h2
 mb:=h.mb
 rel:=hrel
 pr:=hp
 gz:=h.gz.mono hf.z
theorem OnW.out (h:OnW P G f n rd Y base Yd J lr b g S M a w Z ν E H A B ds):OnW P G f n rd.out Y base Yd J lr b g S M a w Z ν E H A B ds:=
 ⟨h.hd,h.j,h.dis,h.bz,h.yz,h.yn,h.yo,by cases rd <;> exact h.fr,λ hr=>by
  have hr':rd≠.fn:=by rintro rfl;exact hr rfl
  obtain ⟨h1,sl,h2,_⟩:=h.lp hr'
  exact ⟨h1,sl,h2,λ he=>by cases rd <;> simp[Rd.out] at he⟩,h.er,h.mark,h.mb,h.rel,h.pr,h.gz⟩
theorem GoodE.on {it k:List Item} (h:∀ (base:Prot) (Yd:Nat→Prop) (J:Jt) (lr:LR) (b:Frame) (cs:List Frame) (M:Map) (a:Act) (w:World) (Z:Nat→Option ABlk) (ν:Nu) (E:T Value) (H:AHeap) (A B:Nat→Prop) (ds:List Nat),
   OnW P G f n rd Y base Yd J lr b g S M a w Z ν E H A B ds->∃ g1 S1 M1 a1 w1 Z1 ν1 E1 H1 A1 B1 ds1,OnW P G f n rd Y base Yd J lr b g1 S1 M1 a1 w1 Z1 ν1 E1 H1 A1 B1 ds1/\Ext M M1/\Below base w w1/\FCY (XL rd lr) Z ν S H A B Z1 ν1 S1 H1 A1 B1 /\
    (∀ d∈ds1,d∈ds\/H.next<=d)/\(rd≠.fn->ds1=ds)/\Steps P (lone (Fr b a it) cs w) (lone (Fr b a1 k) cs w1)/\GoodE P G f n rd Y K k g1 S1):GoodE P G f n rd Y K it g S:=by
 intro base Yd J lr b cs M a w Z ν E H A B ds hs;obtain ⟨g1,S1,M1,a1,w1,Z1,ν1,E1,H1,A1,B1,ds1,h1,h2,h3,h4,h5,h5r,h6,h7⟩:=h base Yd J lr b cs M a w Z ν E H A B ds hs;obtain ⟨e,g',S',M',a',w',Z',ν',E',H',A',B',ds',k0,x1,x2,x3,x4,x5,x6,x6r,x7,x8⟩:=h7 base Yd J lr b cs M1 a1 w1 Z1 ν1 E1 H1 A1 B1 ds1 h1;refine ⟨e,g',S',M',a',w',Z',ν',E',H',A',B',ds',k0,x1,x2,h2.trans x3,h3.trans x4,h4.trans x5,λ d hd=>?_,λ hr=>(x6r hr).trans (h5r hr),h6.trans x7,x8⟩;rcases x6 d hd with k | k
 ·exact h5 d k
 ·exact .inr (Nat.le_trans h4.le k)
theorem GoodE.step {it it':List Item} (hs:∀ b a cs w,step P (lone (Fr b a it) cs w)=.next (lone (Fr b a it') cs w)) (h:GoodE P G f n rd Y K it' g S):GoodE P G f n rd Y K it g S:=
 .on λ _ _ _ _ b cs M a w Z ν E H A B ds st=>⟨g,S,M,a,w,Z,ν,E,H,A,B,ds,st,Ext.refl M,Below.refl _ _,FCY.refl,λ _ h=>.inl h,λ _=>rfl,.one (hs b a cs w),h⟩
theorem GoodE.fin {it:List Item} {e:AExit} (hk:K e g S) (hit:EndE e it):GoodE P G f n rd Y K it g S:=
 λ _ _ _ _ _ _ M a w Z ν E H A B ds st=>⟨e,g,S,M,a,w,Z,ν,E,H,A,B,ds,it,hk,st.out,Ext.refl M,Below.refl _ _,FCY.refl,λ _ h=>.inl h,λ _=>rfl,.refl _ _,hit⟩
theorem GoodE.post {K':AExit->Nat × Bool->PS->Prop} {it:List Item} (h:GoodE P G f n rd Y K it g S) (hq:∀ e g S,K e g S->K' e g S):GoodE P G f n rd Y K' it g S:=by
 intro base Yd J lr b cs M a w Z ν E H A B ds hs;obtain ⟨e,g',S',M',a',w',Z',ν',E',H',A',B',ds',k0,x1,x2⟩:=h base Yd J lr b cs M a w Z ν E H A B ds hs;exact ⟨e,g',S',M',a',w',Z',ν',E',H',A',B',ds',k0,hq _ _ _ x1,x2⟩
theorem GoodE.cond {k:List Item} {o:Operand} {c1 c2:Code} {t:Bool} (ho:pv G S.env o=some (.bool t)) (h1:t=true->GoodE P G f n rd Y K (.code c1::k) g S) (h2:t=false->GoodE P G f n rd Y K (.code c2::k) g S):GoodE P G f n rd Y K (.code (.cond o c1 c2)::k) g S:=by
 have key:∀ (c:Code),(if t then c1 else c2)=c->GoodE P G f n rd Y K (.code c::k) g S->GoodE P G f n rd Y K (.code (.cond o c1 c2)::k) g S:=by
  intro c hc h;refine .on (k:=.code c::k) λ _ _ _ _ b cs M a w Z ν E H A B ds st=>⟨g,S,M,a,w,Z,ν,E,H,A,B,ds,st,Ext.refl M,Below.refl _ _,FCY.refl,λ _ h=>.inl h,λ _=>rfl,.one ?_,h⟩
  obtain ⟨v,hv,hvs⟩:=qbr st.pr st.gz _ _ ho;rw[hvs.bool] at hv;have ha:=qb4 st.er st.rel.glob o _ hv;simp only[VR] at ha;have:=qt7 (P:=P) (b:=b) (a:=a) (k:=k) (cs:=cs) (w:=w) (x:=c1) (y:=c2) ha;rw[hc] at this;exact this
 cases t with
 | true=>exact key c1 rfl (h1 rfl)
 | false=>exact key c2 rfl (h2 rfl)
theorem GoodE.less {it:List Item} {S':PS} (he:∀ t s,lk S'.env t=some s->lk S.env t=some s) (hb:∀ t s,lk S'.blk t=some s->lk S.blk t=some s) (h:GoodE P G f n rd Y K it g S'):GoodE P G f n rd Y K it g S:=by
 intro base Yd J lr b cs M a w Z ν E H A B ds st;have hown:∀ b,Own ν S' b->Own ν S b:=λ b ⟨id,lb,ni,g1,g2,g3⟩=>⟨id,lb,ni,hb _ _ g1,g2,g3⟩
 have hp:PR Z ν S' E H:=⟨λ t s e=>st.pr.env t s (he t s e),λ t s e=>st.pr.blk t s (hb t s e),st.pr.zh,λ b ho=>st.pr.zo b (hown b ho),λ i j li lj ni nj g1 g2=>st.pr.inj i j li lj ni nj (hb _ _ g1) (hb _ _ g2)⟩;have st':OnW P G f n rd Y base Yd J lr b g S' M a w Z ν E H A B ds:=⟨st.hd,st.j,λ c hA ho=>st.dis c hA (hown c ho),st.bz,st.yz,st.yn,λ c ho=>st.yo c (hown c ho),st.fr,st.lp,st.er,st.mark,st.mb,st.rel,hp,st.gz⟩;obtain ⟨e,g',S2,M',a',w',Z',ν',E',H',A',B',ds',k0,x1,x2,x3,x4,x5,x6⟩:=h base Yd J lr b cs M a w Z ν E H A B ds st'
 exact ⟨e,g',S2,M',a',w',Z',ν',E',H',A',B',ds',k0,x1,x2,x3,x4,⟨x5.z,λ b hb'=>(x5.zn b hb').imp_right (Or.imp_right (hown b)),x5.le,λ b y g1 g2 g3 g4 g5=>x5.old b y g1 g2 (λ g=>g3 (hown b g)) g4 g5,λ b hb'=>(x5.own b hb').imp_left (hown b),x5.bb,x5.aa,λ id h1 h2=>⟨λ e=>(x5.big id h1 h2).1 (by cases h:lk S'.blk id with
  | none=>rfl
  | some l=>rw[hb _ _ h] at e;cases e),(x5.big id h1 h2).2⟩⟩,x6⟩
theorem GoodE.eqv {it:List Item} {T:PS} (e:Eqv S T) (h:GoodE P G f n rd Y K it g S):GoodE P G f n rd Y K it g T:=GoodE.less (λ t s g=>by rw[<- e.1];exact g) (λ t s g=>by rw[<- e.2];exact g) h
end
def AgO (ρ1 ρ2:Operand->Option SV) (o:Oper):Prop:=∀ x∈o.op.operands,ρ1 x=ρ2 x
section
variable {tt:TT} {G:GV} {C:CV} {ρ1 ρ2:Operand->Option SV}
theorem qb2 {xs:Array Operand} (h:∀ x∈xs,ρ1 x=ρ2 x):qbb ρ1 xs=qbb ρ2 xs:=by
 unfold qbb
 congr 1
 exact List.map_congr_left λ x hx=>h x (by simpa using hx)
theorem qit {xs:Array (Nat × Operand)} (h:∀ p∈xs,ρ1 p.2=ρ2 p.2):qdr ρ1 xs=qdr ρ2 xs:=by
 unfold qdr
 congr 1
 exact List.map_congr_left λ p hp=>by rw[h p (by simpa using hp)]
theorem qh2 {o:Option Operand} (h:∀ x,o=some x->ρ1 x=ρ2 x):bnd ρ1 o=bnd ρ2 o:=by
 cases o with
 | none=>rfl
 | some x=>simp only[bnd,h x rfl]
theorem qmv {o:Oper} (h:AgO ρ1 ρ2 o):pA tt ρ1 o=pA tt ρ2 o:=by
 obtain ⟨dst,op,type,pos,after,guard⟩:=o;unfold AgO at h
 cases op with
 | move x=>simp only[pA,h x (by simp[Op.operands])]
 | assign x=>simp only[pA,h x (by simp[Op.operands])]
 | pick c a b=>simp only[pA,h c (by simp[Op.operands]),h a (by simp[Op.operands]),h b (by simp[Op.operands])]
 | build t parts=>
  have:qdr ρ1 parts=qdr ρ2 parts:=qit λ p hp=>h p.2 (by
   simp only[Op.operands];rw[List.mem_toArray,List.mem_map]
   exact ⟨p,by simpa using hp,rfl⟩)
  simp only[pA,this]
 | nilCheck x=>simp only[pA,h x (by simp[Op.operands])]
 | binOp op t x y yt=>simp only[pA,h x (by simp[Op.operands]),h y (by simp[Op.operands])]
 | unOp op t x=>simp only[pA,h x (by simp[Op.operands])]
 | convert s d x=>simp only[pA,h x (by simp[Op.operands])]
 | makeFunc fn a c=>
  cases fn with
  | func f=>
   have h1:qbb ρ1 a=qbb ρ2 a:=qb2 λ x hx=>h x (by simp[Op.operands,hx])
   have h2:qbb ρ1 c=qbb ρ2 c:=qb2 λ x hx=>h x (by simp[Op.operands,hx])
   simp only[pA,h1,h2]
  | _=>simp only[pA]
 | fieldAddr s x f=>simp only[pA,h x (by simp[Op.operands])]
 | field s x f=>simp only[pA,h x (by simp[Op.operands])]
 | indexAddr t x i=>simp only[pA,h x (by simp[Op.operands]),h i (by simp[Op.operands])]
 | index t x i=>simp only[pA,h x (by simp[Op.operands]),h i (by simp[Op.operands])]
 | extract t i=>simp only[pA,h t (by simp[Op.operands])]
 | makeInterface t x=>simp only[pA,h x (by simp[Op.operands])]
 | call c=>
  have h1:qbb ρ1 c.args=qbb ρ2 c.args:=qb2 λ x hx=>h x (by simp[Op.operands,Call.operands,hx])
  simp only[pA,h1]
 | _=>simp only[pA]
def AgB (ρ:Operand->Option SV) (b1 b2:List (Nat × LB)) (o:Oper):Prop:=∀ x∈o.op.operands,∀ s,ρ x=some s->∀ id,ment id s=true->lk b1 id=lk b2 id
theorem qq7 {o:Oper} {b1 b2:List (Nat × LB)} (h:AgO ρ1 ρ2 o) (hb:AgB ρ2 b1 b2 o):pR tt ρ1 b1 o=pR tt ρ2 b2 o:=by
 obtain ⟨dst,op,type,pos,after,guard⟩:=o;unfold AgO at h;unfold AgB at hb
 cases op with
 | load t p=>
  have hp:=h p (by simp[Op.operands]);have hbp:=hb p (by simp[Op.operands]);simp only[pR,hp]
  cases hti:lk tt t with
  | none=>rfl
  | some ti=>
   cases hq:ρ2 p with
   | none=>rfl
   | some s=>
    cases s with
    | ptr id off=>simp only[hbp _ hq id (by simp[ment])]
    | aep e id base i off=>simp only[hbp _ hq id (by simp[ment])]
    | elp e id i off=>simp only[hbp _ hq id (by simp[ment])]
    | _=>rfl
 | slice t x lo hi mx=>
  have hx:=h x (by simp[Op.operands]);have hbx:=hb x (by simp[Op.operands]);have hl:bnd ρ1 lo=bnd ρ2 lo:=qh2 λ y e=>h y (by subst e;simp[Op.operands])
  have hh:bnd ρ1 hi=bnd ρ2 hi:=qh2 λ y e=>h y (by subst e;simp[Op.operands])
  cases mx with
  | some m=>
   have h3:=h m (by simp[Op.operands])
   cases lo with
   | none=>simp only[pR]
   | some lo=>
    have h1:=h lo (by simp[Op.operands])
    cases hi with
    | none=>simp only[pR]
    | some hi=>
     have h2:=h hi (by simp[Op.operands]);simp only[pR,hx,h1,h2,h3]
  | none=>
   simp only[pR,hx,hl,hh]
   cases hq:ρ2 x with
   | none=>rfl
   | some s=>
    have hm:∀ id,ment id s=true->lk b1 id=lk b2 id:=hbx _ hq
    cases bnd ρ2 lo with
    | none=>cases s <;> first | rfl | (rename_i id off;cases off <;> rfl)
    | some a=>
     cases bnd ρ2 hi with
     | none=>cases s <;> first | rfl | (rename_i id off;cases off <;> cases a <;> rfl)
     | some b=>
      cases kOf tt t with
      | none=>cases s <;> first | rfl | (rename_i id off;cases off <;> cases a <;> cases b <;> rfl)
      | some k=>
       cases s with
       | win r e id w n=>
        cases k with
        | slice et=>simp only[hm id (by simp[ment])]
        | _=>rfl
       | ptr id off=>
        cases k with
        | array n et=>cases off <;> cases a <;> cases b <;> first | rfl | simp only[hm id (by simp[ment])]
        | _=>cases off <;> cases a <;> cases b <;> rfl
       | _=>cases k <;> rfl
 | convert t d x=>
  have hx:=h x (by simp[Op.operands]);have hbx:=hb x (by simp[Op.operands]);simp only[pR,hx]
  cases hq:ρ2 x with
  | none=>
   split
   ·split <;> first | rfl | simp_all
   ·split <;> first | rfl | simp_all
   ·rfl
  | some s=>
   have hm:∀ id,ment id s=true->lk b1 id=lk b2 id:=hbx _ hq;split
   next et _ _=>
    cases kOf tt et with
    | none=>cases s <;> rfl
    | some k=>
     cases k with
     | int k=>
      cases k with
      | u8=>
       cases s with
       | win r e id w n=>
        cases e with
        | int k'=>cases k' with
         | u8=>simp only[hm id (by simp[ment])]
         | _=>rfl
        | _=>rfl
       | sl e l=>
        cases e with
        | int k'=>cases k' <;> rfl
        | _=>rfl
       | _=>rfl
      | _=>cases s <;> rfl
     | _=>cases s <;> rfl
   next et0 et _ _=>
    cases kOf tt et with
    | none=>cases s <;> rfl
    | some k=>
     cases k with
     | int k=>
      cases k with
      | u8=>
       cases s with
       | win r e id w n=>
        cases r with
        | false=>rfl
        | true=>
         cases e with
         | int k'=>cases k' with
          | u8=>cases w with
           | zero=>simp only[hm id (by simp[ment])]
           | succ w=>rfl
          | _=>rfl
         | _=>rfl
       | _=>rfl
      | _=>cases s <;> rfl
     | _=>cases s <;> rfl
   ·rfl
 | lookup t x k com=>
  have hx:=h x (by simp[Op.operands]);have hk:=h k (by simp[Op.operands]);have hbx:=hb x (by simp[Op.operands]);simp only[pR,hx,hk]
  cases hq:ρ2 x with
  | none=>rfl
  | some s=>
   cases s with
   | mp id=>simp only[hbx _ hq id (by simp[ment])]
   | _=>rfl
 | _=>simp only[pR]
theorem qmu {o:Oper} {d:Nat} (h:AgO ρ1 ρ2 o):pF tt ρ1 d o=pF tt ρ2 d o:=by
 obtain ⟨dst,op,type,pos,after,guard⟩:=o;unfold AgO at h
 cases op with
 | box t x=>simp only[pF,h x (by simp[Op.operands])]
 | buildSlice t n parts=>
  have:qdr ρ1 parts=qdr ρ2 parts:=qit λ p hp=>h p.2 (by
   simp only[Op.operands];rw[List.mem_toArray,List.mem_map]
   exact ⟨p,by simpa using hp,rfl⟩)
  simp only[pF,this]
 | makeSlice t l c=>simp only[pF,h l (by simp[Op.operands]),h c (by simp[Op.operands])]
 | convert t d x=>simp only[pF,h x (by simp[Op.operands])]
 | range t x=>simp only[pF,h x (by simp[Op.operands])]
 | makeMap t r=>cases r <;> simp only[pF]
 | _=>simp only[pF]
theorem qde {id:Nat}:∀ {l:List SV},qaf id l=true↔∃ s∈l,ment id s=true
 | []=>by simp[qaf]
 | a::l=>by simp[qaf,qde (l:=l)]
theorem qls {id:Nat} {s:SV}:qaf id (items s)=true->ment id s=true:=by
 cases s <;> simp[items,qaf,ment]
theorem qsg {b1 b2:List (Nat × LB)} {e:Sh} {l:List SV} (h:∀ id,qaf id l=true->lk b1 id=lk b2 id):rdSl b1 e l=rdSl b2 e l:=by
 unfold rdSl;split
 next r e' id lo n m=>rw[h id (by simp[qaf,ment])]
 ·rfl
theorem qui {b:List (Nat × LB)} {e:Sh} {l r:List SV} {cs:List Prop} {x:List e.D} {id:Nat} (h:rdSl b e l=some (cs,(x,r))) (hm:qaf id r=true):qaf id l=true:=by
 unfold rdSl at h;split at h
 ·split at h
  ·split at h
   ·split at h
    ·cases h;simp[qaf,hm]
    ·cases h
   ·cases h
  ·cases h
 ·split at h
  next r0 hr=>
   cases h;unfold toSl at hr;split at hr
   ·split at hr
    ·cases hr;simp[qaf,hm]
    ·cases hr
   ·cases hr;simp[qaf,hm]
   ·cases hr
  ·cases h
theorem qq3 {b:List (Nat × LB)} {id:Nat}:∀ (σ:Sh) {l r:List SV} {cs:List Prop} {x:σ.D},rdL b σ l=some (cs,(x,r))->qaf id r=true->qaf id l=true:=by
 intro σ
 induction σ with
 | unit=>intro l r cs x h hm;simp only[rdL] at h;cases h;exact hm
 | pair a c iha ihc=>
  intro l r cs x h hm;simp only[rdL] at h;split at h
  next c1 x1 l1 e1=>
   split at h
   next c2 y l2 e2=>cases h;exact iha e1 (ihc e2 hm)
   ·cases h
  ·cases h
 | sl e=>intro l r cs x h hm;simp only[rdL] at h;exact qui h hm
 | int k=>
  intro l r cs x h hm;simp only[rdL] at h;split at h
  next r0 hr=>
   cases h;unfold toI at hr;split at hr
   ·split at hr
    ·cases hr;simp[qaf,hm]
    ·cases hr
   ·cases hr
  ·cases h
 | bool=>
  intro l r cs x h hm;simp only[rdL] at h;split at h
  next r0 hr=>
   cases h;unfold toBo at hr;split at hr
   ·cases hr;simp[qaf,hm]
   ·cases hr
  ·cases h
 | str=>
  intro l r cs x h hm;simp only[rdL] at h;split at h
  next r0 hr=>
   cases h;unfold toSt at hr;split at hr
   ·cases hr;simp[qaf,hm]
   ·cases hr
  ·cases h
 | arr n e=>
  intro l r cs x h hm;simp only[rdL] at h;split at h
  next r0 hr=>
   cases h;unfold toAr at hr;split at hr
   ·split at hr
    ·split at hr
     ·cases hr;simp[qaf,hm]
     ·cases hr
    ·cases hr
   ·cases hr
  ·cases h
theorem quj {b1 b2:List (Nat × LB)}:∀ (σ:Sh) {l:List SV},(∀ id,qaf id l=true->lk b1 id=lk b2 id)->rdL b1 σ l=rdL b2 σ l:=by
 intro σ
 induction σ with
 | pair a c iha ihc=>
  intro l h;simp only[rdL,iha h]
  cases e1:rdL b2 a l with
  | none=>rfl
  | some r=>
   obtain ⟨c1,x1,l1⟩:=r;simp only[ihc λ id hm=>h id (qq3 a e1 hm)]
 | sl e=>intro l h;simp only[rdL];exact qsg h
 | _=>intro l h;simp only[rdL]
theorem qxp {b1 b2:List (Nat × LB)} {σ:Sh} {s:SV} (h:∀ id,ment id s=true->lk b1 id=lk b2 id):rd b1 σ s=rd b2 σ s:=by
 unfold rd;rw[quj σ λ id hm=>h id (qls hm)]
theorem qir {b1 b2:List (Nat × LB)}:∀ {as:List Sh} {l:List SV},(∀ id,qaf id l=true->lk b1 id=lk b2 id)->qdb b1 as l=qdb b2 as l
 | [],l,h=>by cases l <;> rfl
 | σ::as,l,h=>by
  cases l with
  | nil=>rfl
  | cons s l=>
   simp only[qdb,qxp (σ:=σ) (s:=s) λ id hm=>h id (by simp[qaf,hm]),qir (as:=as) (l:=l) λ id hm=>h id (by simp[qaf,hm])]
theorem qff {id:Nat} {l m:List SV}:qaf id (l++m)=true↔qaf id l=true\/qaf id m=true:=by
 rw[qde,qde,qde];constructor
 ·rintro ⟨s,h1,h2⟩;rcases List.mem_append.1 h1 with h | h
  ·exact .inl ⟨s,h,h2⟩
  ·exact .inr ⟨s,h,h2⟩
 ·rintro (⟨s,h1,h2⟩ | ⟨s,h1,h2⟩)
  ·exact ⟨s,List.mem_append_left _ h1,h2⟩
  ·exact ⟨s,List.mem_append_right _ h1,h2⟩
theorem qnm {α β:Type} {f:α->Option β}:∀ {l:List α} {r:List β},allS (l.map f)=some r->∀ y∈r,∃ x∈l,f x=some y
 | [],r,h,y,hy=>by simp[allS] at h;subst h;cases hy
 | a::l,r,h,y,hy=>by
  simp only[List.map_cons] at h
  cases hf:f a with
  | none=>rw[hf] at h;simp[allS] at h
  | some z=>
   rw[hf] at h;simp only[allS] at h;split at h
   next r' hr=>
    cases h;rcases List.mem_cons.1 hy with rfl | hy
    ·exact ⟨a,by simp,hf⟩
    ·obtain ⟨x,h1,h2⟩:=qnm hr y hy;exact ⟨x,by simp[h1],h2⟩
   ·cases h
theorem qhi {ρ:Operand->Option SV} {xs:Array Operand} {l:List SV} (h:qbb ρ xs=some l):∀ s∈l,∃ x∈xs,ρ x=some s:=by
 intro s hs;obtain ⟨x,h1,h2⟩:=qnm h s hs;exact ⟨x,by simpa using h1,h2⟩
theorem qov {o:Oper} {d:Nat} {b1 b2:List (Nat × LB)} (h:AgO ρ1 ρ2 o) (hb:AgB ρ2 b1 b2 o):exC C ρ1 b1 d o=exC C ρ2 b2 d o:=by
 obtain ⟨dst,op,type,pos,after,guard⟩:=o;unfold AgO at h;unfold AgB at hb
 cases op with
 | call c=>
  obtain ⟨cal,args,ts⟩:=c
  cases cal with
  | value fo=>
   have hf:=h fo (by simp[Op.operands,Call.operands]);have hbf:=hb fo (by simp[Op.operands,Call.operands]);have ha:qbb ρ1 args=qbb ρ2 args:=qb2 λ x hx=>h x (by simp[Op.operands,Call.operands,hx])
   simp only[exC,hf,ha]
   cases hq:ρ2 fo with
   | none=>rfl
   | some s=>
    cases s with
    | fn f a k=>
     cases hl:qbb ρ2 args with
     | none=>rfl
     | some l=>
      simp only
      cases hc:lk C f with
      | none=>rfl
      | some cu=>
       cases cu with
       | inr _=>rfl
       | inl ct=>
       simp only;rw[qir λ id hm=>?_];rw[qff,qff] at hm;rcases hm with (hm | hm) | hm
       ·exact hbf _ hq id (by simp[ment,hm])
       ·rw[qde] at hm;obtain ⟨s,hs,hm⟩:=hm;obtain ⟨x,hx,hxs⟩:=qhi hl s hs;exact hb x (by simp[Op.operands,Call.operands,hx]) s hxs id hm
       ·exact hbf _ hq id (by simp[ment,hm])
    | _=>rfl
  | _=>simp only[exC]
 | _=>simp only[exC]
theorem qp3 {S T:PS} {o:Oper} (h:AgO (pv G T.env) (pv G S.env) o) (hb:AgB (pv G S.env) T.blk S.blk o):qe2 tt G C T o=qe2 tt G C S o:=by
 unfold qe2;rw[qmv h,qq7 h hb]
 cases hd:o.dst with
 | none=>rfl
 | some d=>
  simp only;rw[qmu h,qov h hb]
theorem qij {ops:Array Oper} {S T:PS} {o:Oper} (h:AgO (pv G T.env) (pv G S.env) o) (hb:AgB (pv G S.env) T.blk S.blk o):effN tt G C ops T o=effN tt G C ops S o:=by
 unfold effN;rw[qp3 h hb];unfold exS
 cases hd:o.dst with
 | none=>rfl
 | some d=>simp only[qmu h]
end
def qa8 (id:Nat):LB->Bool
 | .var l=>qaf id l
 | _=>false
theorem qbc (id:Nat):∀ (σ:Sh) (x:σ.D),qaf id (qdy σ x)=false
 | .int _,_=>rfl
 | .bool,_=>rfl
 | .str,_=>rfl
 | .unit,_=>rfl
 | .pair a b,x=>by
  have:=@qff id (qdy a x.1) (qdy b x.2);simp only[qdy];rw[<- Bool.not_eq_true,this,qbc id a,qbc id b];simp
 | .arr _ _,_=>rfl
 | .sl _,_=>rfl
section
variable {P:Program} {tt:TT} {G:GV} {C:CV} {ρ:Operand->Option SV} {id:Nat}
def Cl (id:Nat) (ρ:Operand->Option SV) (o:Oper):Prop:=∀ x∈o.op.operands,∀ s,ρ x=some s->ment id s=false
theorem qdf {l:List SV}:qaf id l=false↔∀ s∈l,ment id s=false:=by
 rw[<- Bool.not_eq_true,qde];simp
theorem qgu {s:SV} (h:ment id s=false):qaf id (items s)=false:=by
 cases hm:qaf id (items s) with
 | false=>rfl
 | true=>rw[qls hm] at h;cases h
theorem qcv:∀ (l:List SV) (n:Nat) {a r:List SV},cutAt l n=some (a,r)->∀ s,s∈a\/s∈r->s∈l
 | l,0,a,r,e,s,h=>by
  rw[cutAt] at e;cases e;rcases h with h | h
  ·cases h
  ·exact h
 | [],n+1,_,_,e,_,_=>by rw[cutAt] at e;cases e
 | t::l,n+1,a,r,e,s,h=>by
  rw[cutAt] at e;split at e
  ·rw[Option.map_eq_some_iff] at e;obtain ⟨⟨a',r'⟩,e1,e2⟩:=e;cases e2;rcases h with h | h
   ·rcases List.mem_cons.1 h with rfl | h
    ·simp
    ·exact List.mem_cons_of_mem _ (qcv l _ e1 s (.inl h))
   ·exact List.mem_cons_of_mem _ (qcv l _ e1 s (.inr h))
  ·cases e
theorem qfo {l x:List SV} {off n:Nat} (e:qi3 l off n=some x) (h:qaf id l=false):qaf id x=false:=by
 rw[qdf] at h |-;unfold qi3 at e;split at e
 next a r h1=>
  split at e
  next y c h2=>cases e;intro s hs;exact h s (qcv _ _ h1 s (.inr (qcv _ _ h2 s (.inl hs))))
  ·cases e
 ·cases e
theorem qdo {l l' new:List SV} {off n:Nat} (e:qg8 l off n new=some l') (h:qaf id l=false) (hn:qaf id new=false):qaf id l'=false:=by
 rw[qdf] at h hn |-;unfold qg8 at e;split at e
 next a r h1=>
  split at e
  next y c h2=>
   cases e;intro s hs;rcases List.mem_append.1 hs with hs | hs
   ·rcases List.mem_append.1 hs with hs | hs
    ·exact h s (qcv _ _ h1 s (.inl hs))
    ·exact hn s hs
   ·exact h s (qcv _ _ h1 s (.inr (qcv _ _ h2 s (.inr hs))))
  ·cases e
 ·cases e
theorem qct {agg:Bool} {l:List SV} {s:SV} (e:mkV agg l=some s) (h:qaf id l=false):ment id s=false:=by
 unfold mkV at e;split at e
 ·cases e;rfl
 ·cases e;simpa only[ment] using h
 ·cases e
 ·cases e
 ·cases e
 ·cases e;simpa only[qaf,Bool.or_false] using h
 ·cases e
theorem qvb (σ:Sh) (x:σ.D):ment id (ofD σ x)=false:=by
 cases σ with
 | pair a b=>simp only[ofD,ment];exact qbc id _ _
 | _=>rfl
theorem qgf {fs:List (Nat × TypeId)}:∀ {ps:List (Nat × SV)} {l l':List SV},qdp tt fs ps l=some l'->qaf id l=false->(∀ p∈ps,ment id p.2=false)->qaf id l'=false
 | [],l,l',e,h,_=>by simp only[qdp,Option.some.injEq] at e;subst e;exact h
 | (i,s)::ps,l,l',e,h,hp=>by
  simp only[qdp] at e;split at e
  ·split at e
   ·split at e
    ·split at e
     next l2 hsp=>exact qgf e (qdo hsp h (qgu (hp (i,s) (by simp)))) (λ p hpp=>hp p (by simp[hpp]))
     ·cases e
    ·cases e
   ·cases e
  ·cases e
theorem qlo {xs:Array (Nat × Operand)} {l:List (Nat × SV)} (h:qdr ρ xs=some l):∀ p∈l,∃ q∈xs,ρ q.2=some p.2:=by
 intro p hp;obtain ⟨q,h1,h2⟩:=qnm h p hp;rw[Option.map_eq_some_iff] at h2;obtain ⟨s,h3,h4⟩:=h2;exact ⟨q,by simpa using h1,by rw[h3,<- h4]⟩
theorem qkf {xs:Array Operand} {l:List SV} (h:qbb ρ xs=some l) (hc:∀ x∈xs,∀ s,ρ x=some s->ment id s=false):qaf id l=false:=by
 rw[qdf];intro s hs;obtain ⟨x,h1,h2⟩:=qhi h s hs;exact hc x h1 s h2
theorem qsl {ti:Option TI} {op:BinOp} {a b s:SV} {cs:List Prop} (e:pbin ti op a b=some (cs,s)):ment id s=false:=by
 unfold pbin at e;split at e <;> first
  | (cases e;done)
  | (cases e;rfl)
  | (split at e <;> first | (cases e;done) | (cases e;rfl))
theorem qnd {off n:Nat} {p s:SV} {cs:List Prop} (e:qku off n p=some (cs,s)) (h:ment id p=false):ment id s=false:=by
 unfold qku at e;split at e
 ·cases e;simpa only[ment] using h
 ·cases e;simpa only[ment] using h
 ·cases e;simpa only[ment] using h
 ·split at e
  ·cases e;rfl
  ·cases e
 ·cases e
theorem qmw (ht:TTOK P tt) {o:Oper} {cs:List Prop} {s:SV} (h:pA tt ρ o=some (cs,s)) (hc:Cl id ρ o):ment id s=false:=by
 obtain ⟨dst,op,type,pos,after,guard⟩:=o;unfold Cl at hc
 cases op with
 | move x=>
  simp only[pA] at h;rw[Option.bind_eq_some_iff] at h;obtain ⟨s',hs,h⟩:=h;cases h;exact hc x (by simp[Op.operands]) _ hs
 | assign x=>
  simp only[pA] at h;rw[Option.bind_eq_some_iff] at h;obtain ⟨s',hs,h⟩:=h;cases h;exact hc x (by simp[Op.operands]) _ hs
 | pick c a b=>
  simp only[pA] at h;split at h
  ·split at h
   ·cases h;rfl
   ·split at h
    ·cases h;rfl
    ·cases h
   next x ha hb=>cases h;exact hc a (by simp[Op.operands]) _ (qb7 ha)
   next y ha hb=>cases h;exact hc b (by simp[Op.operands]) _ (qb7 hb)
   ·cases h
  ·cases h
 | build t parts=>
  simp only[pA] at h;split at h
  next ps ti hps hti=>
   split at h
   ·split at h
    ·split at h
     next l hl=>
      cases h;simp only[ment];refine qgf hl ((ht _ _ hti).zm id) λ p hp=>?_
      obtain ⟨q,h1,h2⟩:=qlo hps p hp
      exact hc q.2 (by
       simp only[Op.operands];rw[List.mem_toArray,List.mem_map]
       exact ⟨q,by simpa using h1,rfl⟩) _ h2
     ·cases h
    ·split at h
     ·split at h
      ·cases h;rfl
      ·cases h
     ·cases h
    ·cases h
   ·cases h
  ·cases h
 | nilCheck x=>
  simp only[pA] at h;split at h
  next hx=>cases h;exact hc x (by simp[Op.operands]) _ hx
  next hx=>cases h;exact hc x (by simp[Op.operands]) _ hx
  next hx=>cases h;exact hc x (by simp[Op.operands]) _ hx
  ·cases h
 | binOp op t x y yt=>
  simp only[pA] at h;split at h
  ·exact qsl h
  ·cases h
 | unOp op t x=>
  simp only[pA] at h;split at h <;> first | (cases h;rfl) | cases h
 | convert t d x=>
  simp only[pA] at h;split at h <;> first | (cases h;rfl) | cases h
 | makeFunc fn a c=>
  cases fn with
  | func f=>
   simp only[pA] at h;split at h
   next x y hx hy=>
    split at h
    ·cases h;simp only[ment,qkf hx λ z hz s hs=>hc z (by simp[Op.operands,hz]) s hs,qkf hy λ z hz s hs=>hc z (by simp[Op.operands,hz]) s hs,Bool.or_self]
    ·cases h
   ·cases h
  | _=>simp only[pA] at h;cases h
 | fieldAddr t x f=>
  simp only[pA] at h;split at h
  next p fs hp hk=>
   split at h
   ·split at h
    ·split at h
     ·cases h
     ·exact qnd h (hc x (by simp[Op.operands]) _ hp)
    ·cases h
   ·cases h
  ·cases h
 | field t x f=>
  simp only[pA] at h;split at h
  next l fs hp hk=>
   split at h
   ·split at h
    ·split at h
     next r hr=>rw[Option.bind_eq_some_iff] at h;obtain ⟨s',hm,h⟩:=h;cases h;have:=hc x (by simp[Op.operands]) _ hp;simp only[ment] at this;exact qct hm (qfo hr this)
     ·cases h
    ·cases h
   ·cases h
  ·cases h
 | indexAddr t x i=>
  simp only[pA] at h;split at h
  next hx hi=>
   have:=hc x (by simp[Op.operands]) _ hx;simp only[ment] at this;split at h
   ·split at h
    ·split at h
     ·cases h;simpa only[ment] using this
     ·cases h
    ·cases h
   ·cases h
  ·split at h
   ·split at h
    ·split at h
     ·cases h;rfl
     ·cases h
    ·cases h
   ·cases h
  next hx hi=>
   have:=hc x (by simp[Op.operands]) _ hx;simp only[ment] at this;split at h
   ·split at h
    ·split at h
     ·cases h;simpa only[ment] using this
     ·split at h
      ·cases h;simpa only[ment] using this
      ·cases h
    ·cases h
   ·cases h
  ·split at h
   ·split at h
    ·split at h
     ·cases h;rfl
     ·cases h
    ·cases h
   ·cases h
  next hx hi=>
   have:=hc x (by simp[Op.operands]) _ hx;simp only[ment] at this;split at h
   ·split at h
    ·split at h
     ·cases h;simpa only[ment] using this
     ·cases h
    ·cases h
   ·cases h
  ·cases h
 | index t x i=>
  simp only[pA] at h;split at h
  ·split at h
   ·split at h
    ·split at h
     ·cases h;exact qvb _ _
     ·cases h
    ·cases h
   ·cases h
  ·split at h
   ·cases h;rfl
   ·cases h
  ·cases h
 | extract t i=>
  simp only[pA] at h;split at h
  next l hl=>rw[Option.bind_eq_some_iff] at h;obtain ⟨s',hs,h⟩:=h;cases h;have:=hc t (by simp[Op.operands]) _ hl;simp only[ment] at this;exact qdf.1 this _ (List.mem_of_getElem? hs)
  ·cases h
 | call c=>
  simp only[pA] at h;split at h
  ·split at h
   ·split at h
    ·cases h;rfl
    ·cases h
   ·cases h
  ·split at h
   ·cases h;rfl
   ·cases h
  ·split at h
   ·cases h;rfl
   ·cases h
  ·cases h
 | makeInterface t x=>
  simp only[pA] at h;split at h
  next fs s hk hx=>
   split at h
   ·cases h
   ·cases h;have:=hc x (by simp[Op.operands]) _ hx;simp only[ment]
    cases s with
    | agg l=>simpa only[items,ment] using this
    | _=>simp only[items,qaf,this,Bool.or_false] <;> simp_all
  next pe i0 o0 hk hx=>cases h;have:=hc x (by simp[Op.operands]) _ hx;simp only[ment,qaf,Bool.or_false] at this |-;exact this
  ·cases h
 | _=>simp only[pA] at h;cases h
theorem qmt {o:Oper} {blk:List (Nat × LB)} {cs:List Prop} {s:SV} (h:pR tt ρ blk o=some (cs,s)) (hc:Cl id ρ o) (hb:∀ j lb,lk blk j=some lb->qa8 id lb=false):ment id s=false:=by
 obtain ⟨dst,op,type,pos,after,guard⟩:=o;unfold Cl at hc
 cases op with
 | load t p=>
  simp only[pR] at h;split at h
  ·split at h
   next l hl=>
    split at h
    next r hr=>rw[Option.bind_eq_some_iff] at h;obtain ⟨s',hm,h⟩:=h;cases h;exact qct hm (qfo hr (hb _ _ hl))
    ·cases h
   ·cases h
  ·split at h
   ·split at h
    ·split at h
     ·split at h
      ·rw[Option.bind_eq_some_iff] at h;obtain ⟨s',hm,h⟩:=h;cases h;exact qct hm (qbc id _ _)
      ·cases h
     ·cases h
    next hl _ _ _ _ _ _ _ hcut=>
     split at h
     ·rw[Option.bind_eq_some_iff] at h;obtain ⟨s',hm,h⟩:=h;cases h;have h0:=hb _ _ hl;have:=qdf.1 h0 _ (qcv _ _ hcut _ (.inr (List.mem_cons_self ..)));simp only[ment] at this;exact qct hm this
     ·cases h
    ·cases h
   ·cases h
  ·split at h
   ·split at h
    ·split at h
     ·rw[Option.bind_eq_some_iff] at h;obtain ⟨s',hm,h⟩:=h;cases h;exact qct hm (qbc id _ _)
     ·cases h
    ·cases h
   next l hl=>
    split at h
    next m s0 hop=>
     split at h
     next r hr=>rw[Option.bind_eq_some_iff] at h;obtain ⟨s',hm,h⟩:=h;cases h;have hb0:=hb _ _ hl;obtain ⟨_,_,_,rfl⟩:=qkg hop;simp only[qa8,qaf,ment,Bool.false_or] at hb0;exact qct hm (qfo hr hb0)
     ·cases h
    ·split at h
     ·split at h
      ·rw[Option.bind_eq_some_iff] at h;obtain ⟨s',hm,h⟩:=h;cases h;exact qct hm (qbc id _ _)
      ·cases h
     ·cases h
   ·cases h
  ·split at h
   ·rw[Option.bind_eq_some_iff] at h;obtain ⟨s',hm,h⟩:=h;cases h;exact qct hm (qbc id _ _)
   ·cases h
  ·cases h
 | slice t x lo hi mx=>
  cases mx with
  | some m=>
   cases lo with
   | none=>simp only[pR] at h;cases h
   | some lo=>
    cases hi with
    | none=>simp only[pR] at h;cases h
    | some hi=>
     simp only[pR] at h;split at h
     ·split at h
      ·split at h
       ·cases h;rfl
       ·cases h
      ·cases h
     ·cases h
  | none=>
   simp only[pR] at h;split at h
   next hx _ _ _=>
    have:=hc x (by simp[Op.operands]) _ hx;simp only[ment] at this;split at h
    ·split at h
     ·cases h;simpa only[ment] using this
     ·cases h
    ·cases h
   ·split at h
    ·split at h
     ·cases h;rfl
     ·cases h
    ·cases h
   ·cases h;rfl
   next hx _ _ _=>
    have:=hc x (by simp[Op.operands]) _ hx;simp only[ment] at this;split at h
    ·split at h
     ·split at h
      ·cases h;simpa only[ment] using this
      ·cases h
     ·cases h
    ·cases h
   ·cases h
 | convert t d x=>
  simp only[pR] at h;split at h
  ·split at h
   ·split at h
    ·cases h;rfl
    ·cases h
   ·cases h;rfl
   ·cases h;rfl
   ·cases h
  ·split at h
   next hx=>
    have:=hc x (by simp[Op.operands]) _ hx;simp only[ment] at this;split at h
    ·split at h
     ·cases h;simpa only[ment] using this
     ·cases h
    ·cases h
   ·cases h
  ·cases h
 | lookup t x k com=>
  have ho:∀ (σ:Sh) (x:σ.D),ment id (ofD σ x)=false:=λ σ x=>by cases σ <;> first | rfl | exact qbc id _ _
  have hr:∀ (c:Bool) (σ:Sh) (x:σ.D) (bo:Bool),ment id (match c with
    | true=>.tup [ofD σ x,.bool bo]
    | false=>ofD σ x)=false:=by
   intro c σ x bo
   cases c with
   | true=>simp only[ment,qaf,ho,Bool.or_self]
   | false=>exact ho σ x
  simp only[pR] at h;split at h
  ·split at h
   ·split at h
    ·split at h
     ·split at h
      ·split at h
       ·cases h;exact hr com _ _ _
       ·cases h
      ·cases h
     ·cases h
    ·split at h
     ·split at h
      ·split at h
       ·cases h;exact hr com _ _ _
       ·cases h
      ·cases h
     ·cases h
    ·cases h
   ·cases h
  ·cases h
 | _=>simp only[pR] at h;cases h
theorem qhj (ht:TTOK P tt) {o:Oper} {d:Nat} {cs:List Prop} {s:SV} {lb:LB} (h:pF tt ρ d o=some (cs,(s,lb))) (hc:Cl id ρ o):(d≠id->ment id s=false)/\qa8 id lb=false:=by
 have hp:d≠id->ment id (.ptr d 0)=false:=λ hd=>by simp[ment,hd]
 obtain ⟨dst,op,type,pos,after,guard⟩:=o;unfold Cl at hc
 cases op with
 | alloc t=>
  simp only[pF] at h;split at h
  next ti hti=>cases h;exact ⟨hp,(ht _ _ hti).zm id⟩
  ·cases h
 | box t x=>
  simp only[pF] at h;split at h
  ·cases h
  next s0 _ hx=>cases h;exact ⟨hp,qgu (hc x (by simp[Op.operands]) _ hx)⟩
  ·cases h
 | buildSlice t n parts=>
  simp only[pF] at h;split at h
  next ps0 et0 hpp0 hk0=>
   split at h
   ·split at h
    ·split at h
     next l0 hone=>
      split at h
      ·cases h;refine ⟨λ hd=>by simp[ment,hd],?_⟩;obtain ⟨_,hps⟩:=qoa hone;obtain ⟨q,hq,hqe⟩:=qlo hpp0 (0,.agg l0) (by rw[hps];simp)
       have:=hc q.2 (by
        simp only[Op.operands];rw[List.mem_toArray,List.mem_map]
        exact ⟨q,by simpa using hq,rfl⟩) _ hqe
       simpa [ment,qa8] using this
      ·cases h
     ·cases h
    ·split at h
     ·split at h
      ·cases h;exact ⟨λ hd=>by simp[ment,hd],rfl⟩
      ·cases h
     ·cases h
   ·cases h
  ·cases h
 | makeSlice t l c=>
  simp only[pF] at h;split at h
  ·split at h
   ·split at h
    ·cases h;exact ⟨λ hd=>by simp[ment,hd],rfl⟩
    ·cases h
   ·cases h
  ·cases h
 | convert t u x=>
  simp only[pF] at h;split at h
  ·split at h
   ·cases h;exact ⟨λ hd=>by simp[ment,hd],rfl⟩
   ·cases h
  ·cases h
 | range t x=>
  simp only[pF] at h;split at h
  ·cases h;exact ⟨λ hd=>by simp[ment,hd],rfl⟩
  ·cases h
 | makeMap t r=>
  cases r with
  | some r=>simp only[pF] at h;cases h
  | none=>
   simp only[pF] at h;split at h
   ·split at h
    ·split at h
     ·cases h;exact ⟨λ hd=>by simp[ment,hd],rfl⟩
     ·cases h
    ·cases h
   ·cases h
 | _=>simp only[pF] at h;cases h
mutual
theorem qud {d k:Nat}:∀ (s:SV),qcc k s=true->(∀ i,i<k->nm d i≠id)->ment id (ren d s)=false
 | .win r e j lo n,ho,hn=>by
  simp only[qcc,decide_eq_true_eq] at ho;simp[ren,ment,hn j ho]
 | .agg l,ho,hn=>by
  simp only[qcc] at ho;simp only[ren,ment];exact qfy l ho hn
 | .int _ _,_,_=>rfl
 | .bool _,_,_=>rfl
 | .str _,_,_=>rfl
 | .nils,_,_=>rfl
 | .arr _ _ _,_,_=>rfl
 | .sl _ _,_,_=>rfl
 | .dead,_,_=>rfl
 | .ptr _ _,ho,_=>by simp[qcc] at ho
 | .elp _ _ _ _,ho,_=>by simp[qcc] at ho
 | .aep _ _ _ _ _,ho,_=>by simp[qcc] at ho
 | .elv _ _,_,_=>rfl
 | .tup _,ho,_=>by simp[qcc] at ho
 | .fn _ _ _,ho,_=>by simp[qcc] at ho
 | .yl _,ho,_=>by simp[qcc] at ho
 | .mp _,ho,_=>by simp[qcc] at ho
 | .nilm,ho,_=>by simp[qcc] at ho
 | .pta _ _ _ _,ho,_=>by simp[qcc] at ho
 | .nilp,ho,_=>by simp[qcc] at ho
 | .ifc t g l,ho,hn=>by
  simp only[qcc] at ho;simp only[ren,ment];exact qfy l ho hn
theorem qfy {d k:Nat}:∀ (l:List SV),qfd k l=true->(∀ i,i<k->nm d i≠id)->qaf id (renL d l)=false
 | [],_,_=>rfl
 | s::l,ho,hn=>by
  simp only[qfd,Bool.and_eq_true] at ho;simp only[renL,qaf,qud s ho.1 hn,qfy l ho.2 hn,Bool.or_self]
end
theorem qd3 {d:Nat}:∀ (rows:List LB) (k:Nat) (p:Nat × LB),p∈names d k rows↔∃ i,rows[i]?=some p.2/\p.1=nm d (k+i)
 | [],k,p=>by simp[names]
 | lb::rows,k,p=>by
  simp only[names,List.mem_cons,qd3 rows (k+1) p];constructor
  ·rintro (rfl | ⟨i,h1,h2⟩)
   ·exact ⟨0,rfl,rfl⟩
   ·exact ⟨i+1,by simpa using h1,by rw[h2];congr 1;omega⟩
  ·rintro ⟨i,h1,h2⟩
   cases i with
   | zero=>left;simp at h1;cases p;simp_all
   | succ i=>right;exact ⟨i,by simpa using h1,by rw[h2];congr 1;omega⟩
theorem qv1 {o:Oper} {d:Nat} {blk:List (Nat × LB)} {cs:List Prop} {s:SV} {news:List (Nat × LB)} (h:exC C ρ blk d o=some (cs,(s,news))) (hn:∀ p∈news,p.1≠id):ment id s=false/\∀ p∈news,qa8 id p.2=false:=by
 unfold exC at h;split at h
 ·split at h
  ·split at h
   ·split at h
    next ct hct=>
     split at h
     next cs0 x hrd=>
      split at h
      next hcond=>
       simp only[Bool.and_eq_true] at hcond;obtain ⟨⟨⟨⟨_,hok⟩,hrow⟩,_⟩,_⟩:=hcond;cases h;have hl:qaf id (renL d (ct.out x))=false:=qfy _ hok λ i hi=>hn (nm d i,(ct.rows x)[i]) ((qd3 _ 0 _).2 ⟨i,List.getElem?_eq_getElem hi,by simp⟩)
       constructor
       ·unfold one;split
        next s' he=>rw[he] at hl;simpa only[qaf,Bool.or_false] using hl
        ·simpa only[ment] using hl
       ·intro p hp;obtain ⟨i,h1,_⟩:=(qd3 _ 0 _).1 hp;have:=List.all_eq_true.1 hrow _ (List.mem_of_getElem? h1)
        cases hq:p.2 with
        | var l=>rw[hq] at this;simp[isRow] at this
        | mp κ σ l=>rw[hq] at this;simp[isRow] at this
        | iter l pos=>rw[hq] at this;simp[isRow] at this
        | row _ _ _=>rfl
      ·cases h
     ·cases h
    ·cases h
   ·cases h
  ·cases h
 ·cases h
end
def Fre (id:Nat) (S:PS):Prop:=(lk S.blk id=none/\lk S.env id=none)/\(∀ t s,lk S.env t=some s->ment id s=false)/\∀ j lb,lk S.blk j=some lb->qa8 id lb=false
def ExN (tt:TT) (G:GV) (C:CV) (ops:Array Oper) (S:PS) (o:Oper) (S':PS):Prop:=
 ∃ cs s news,effN tt G C ops S o=some (cs,(s,news))/\(∀ c∈cs,c)/\(∀ p∈news,Fre p.1 S)/\S'=(addRows S news).put o.dst (some s)
def ApP (tt:TT) (C:CV) (ops:Array Oper) (S:PS) (o:Oper):Prop:=apOp o=true->qhp tt C ops=true->∃ d t,o.dst=some d/\argT o=some t/\Fre d S/\(∀ u,u∈dA tt C ops o->lk S.env u=none->Fre u S) /\
 ∀ r e g lo n,lk S.env t=some (.win r e g lo n)->g ∉ wA C ops o/\(∀ u s,u∈wA C ops o->lk S.env u=some s->ment g s=false)/\∀ j lb,lk S.blk j=some lb->qa8 g lb=false
def StP0 (tt:TT) (C:CV) (ops:Array Oper) (S:PS) (o:Oper):Prop:=isSt o=true->qhp tt C ops=true->wS C ops o≠[]->∀ t,.tmp t∈o.op.operands->∀ s,lk S.env t=some s->∀ id,ment id s=true ->
 (∀ u s',u∈wS C ops o->lk S.env u=some s'->ment id s'=false)/\∀ j lb,lk S.blk j=some lb->qa8 id lb=false
def CiP (tt:TT) (G:GV) (C:CV) (ops:Array Oper) (S:PS) (o:Oper):Prop:=ciOp C o=true->qhp tt C ops=true ->
 (∀ id,id∈ciN C (pv G S.env) S.blk o->id ∉ wA C ops o/\(∀ u s,u∈wA C ops o->lk S.env u=some s->ment id s=false)/\∀ j lb,j ∉ ciT C (pv G S.env) S.blk o->lk S.blk j=some lb->qa8 id lb=false) /\
 ∀ u,u∈dA tt C ops o->lk S.env u=none->Fre u S
def StP (tt:TT) (G:GV) (C:CV) (ops:Array Oper) (S:PS) (o:Oper):Prop:=StP0 tt C ops S o/\CiP tt G C ops S o
def ExD (tt:TT) (G:GV) (C:CV) (ops:Array Oper) (S:PS) (o:Oper) (S':PS):Prop:=(nw C ops o=true/\ExN tt G C ops S o S')\/(nw C ops o=false/\ExI tt G C S o S'/\ApP tt C ops S o/\StP tt G C ops S o)
def StpD (tt:TT) (G:GV) (C:CV) (ops:Array Oper) (n i:Nat) (S S':PS):Prop:=
 ∃ o,ops[i]?=some o/\(∀ d,o.dst=some d->d<n/\d<500000)/\(nw C ops o=true->qat S o=true) /\
  ((o.guard=none/\ExD tt G C ops S o S') \/
   (∃ j want d b,o.guard=some (j,want)/\(ops[j]?).bind (·.dst)=some d/\lk S.env d=some (.bool b)/\((b=want/\ExD tt G C ops S o S')\/(b=(!want)/\S'=S.put o.dst (some (.tup []))))) \/
   ∃ j want d,o.guard=some (j,want)/\(ops[j]?).bind (·.dst)=some d/\lk S.env d=some (.tup [])/\S'=S.put o.dst (some (.tup [])))
section
variable {P:Program} {tt:TT} {G:GV} {C:CV} {f:FuncId} {n:Nat} {res:List ResultVar} {Q:List SV->List (Nat × LB)->Prop}
mutual
theorem qel {i:Nat}:∀ (s:SV),ment i s=false->kill i s=s
 | .win r e id lo n,h=>by simp only[ment,beq_eq_false_iff_ne] at h;simp[kill,h]
 | .ptr id o,h=>by simp only[ment,beq_eq_false_iff_ne] at h;simp[kill,h]
 | .mp id,h=>by simp only[ment,beq_eq_false_iff_ne] at h;simp[kill,h]
 | .yl _,_=>rfl
 | .nilm,_=>rfl
 | .nilp,_=>rfl
 | .ifc t g l,h=>by simp only[ment] at h;simp only[kill,qf4 l h]
 | .pta _ _ _ l,h=>by simp only[ment] at h;simp only[kill,qf4 l h]
 | .elp e id k o,h=>by simp only[ment,beq_eq_false_iff_ne] at h;simp[kill,h]
 | .aep e id b k o,h=>by simp only[ment,beq_eq_false_iff_ne] at h;simp[kill,h]
 | .agg l,h=>by simp only[ment] at h;simp only[kill,qf4 l h]
 | .tup l,h=>by simp only[ment] at h;simp only[kill,qf4 l h]
 | .fn f a c,h=>by simp only[ment] at h;simp[kill,h]
 | .nils,_=>rfl
 | .dead,_=>rfl
 | .int _ _,_=>rfl
 | .bool _,_=>rfl
 | .str _,_=>rfl
 | .sl _ _,_=>rfl
 | .arr _ _ _,_=>rfl
 | .elv _ _,_=>rfl
theorem qf4 {i:Nat}:∀ (l:List SV),qaf i l=false->killL i l=l
 | [],_=>rfl
 | s::l,h=>by
  simp only[qaf,Bool.or_eq_false_iff] at h;simp only[killL,qel s h.1,qf4 l h.2]
end
mutual
theorem qod {i g:Nat}:∀ (s:SV),ment i s=false->ment i (kill g s)=false
 | .win r e id lo n,h=>by simp only[kill];split <;> first | rfl | exact h
 | .ptr id o,h=>by simp only[kill];split <;> first | rfl | exact h
 | .mp id,h=>by simp only[kill];split <;> first | rfl | exact h
 | .elp e id k o,h=>by simp only[kill];split <;> first | rfl | exact h
 | .aep e id b k o,h=>by simp only[kill];split <;> first | rfl | exact h
 | .fn f a c,h=>by simp only[kill];split <;> first | rfl | exact h
 | .agg l,h=>by simp only[kill,ment] at h |-;exact qd4 l h
 | .tup l,h=>by simp only[kill,ment] at h |-;exact qd4 l h
 | .ifc t b l,h=>by simp only[kill,ment] at h |-;exact qd4 l h
 | .pta _ _ _ l,h=>by simp only[kill,ment] at h |-;exact qd4 l h
 | .nils,_=>rfl
 | .dead,_=>rfl
 | .int _ _,_=>rfl
 | .bool _,_=>rfl
 | .str _,_=>rfl
 | .sl _ _,_=>rfl
 | .arr _ _ _,_=>rfl
 | .elv _ _,_=>rfl
 | .yl _,_=>rfl
 | .nilm,_=>rfl
 | .nilp,_=>rfl
theorem qd4 {i g:Nat}:∀ (l:List SV),qaf i l=false->qaf i (killL g l)=false
 | [],_=>rfl
 | s::l,h=>by
  simp only[killL,qaf,Bool.or_eq_false_iff] at h |-;exact ⟨qod s h.1,qd4 l h.2⟩
end
theorem qem {i:Nat} {lb:LB} (h:qa8 i lb=false):qld i lb=lb:=by
 cases lb with
 | var l=>simp only[qa8] at h;simp only[qld,qf4 l h]
 | mp _ _ _=>rfl
 | iter _ _=>rfl
 | row _ _ _=>rfl
theorem q2k {S:PS} {i:Nat} {lb:LB} (h:Fre i S):(∀ t,lk (S.kill i).env t=lk S.env t)/\∀ t,lk (st (S.kill i).blk i lb) t=if t=i then some lb else lk S.blk t:=by
 obtain ⟨⟨h1,h0⟩,h2,h3⟩:=h;constructor
 ·intro t;simp only[PS.kill,qaq,qbu];split
  next ht=>subst ht;rw[h0];rfl
  ·cases e:lk S.env t with
   | none=>rfl
   | some s=>simp[qel s (h2 t s e)]
 ·intro t;simp only[qan,PS.kill,qaq,qbu];split
  ·rfl
  ·cases e:lk S.blk t with
   | none=>rfl
   | some b=>simp[qem (h3 t b e)]
theorem qht {α:Type}:∀ {l:List (Nat × α)} {i:Nat} {x:α},lk l i=some x->i∈l.map (·.1)
 | [],_,_,e=>by simp[lk] at e
 | (a,y)::l,i,x,e=>by
  simp only[lk] at e;split at e
  next h=>subst h;simp
  ·simp only[List.map_cons,List.mem_cons];exact .inr (qht e)
theorem qz4:∀ {news:List (Nat × LB)} {S:PS},(∀ p∈news,Fre p.1 S)->(news.map (·.1)).Nodup->(∀ p∈news,∀ q∈news,qa8 p.1 q.2=false) ->
  (∀ t,lk (addRows S news).env t=lk S.env t)/\∀ t,lk (addRows S news).blk t=(lk news t).or (lk S.blk t)
 | [],S,_,_,_=>⟨λ _=>rfl,λ _=>by simp[addRows,lk]⟩
 | (i,lb)::news,S,hf,hn,hm=>by
  obtain ⟨e1,b1⟩:=q2k (lb:=lb) (hf (i,lb) (by simp));simp only[List.map_cons,List.nodup_cons] at hn
  obtain ⟨e2,b2⟩:=qz4 (S:=⟨(S.kill i).env,st (S.kill i).blk i lb⟩) (news:=news) (λ p hp=>by
   obtain ⟨⟨g1,g0⟩,g2,g3⟩:=hf p (by simp[hp]);have hne:p.1≠i:=λ e=>hn.1 (by rw[<- e];exact List.mem_map_of_mem hp)
   refine ⟨⟨?_,?_⟩,λ t s h=>?_,λ j l h=>?_⟩
   ·show lk (st (S.kill i).blk i lb) p.1=none
    rw[b1,if_neg hne];exact g1
   ·show lk (S.kill i).env p.1=none
    rw[e1];exact g0
   ·exact g2 t s (by rw[<- e1];exact h)
   ·have h':lk (st (S.kill i).blk i lb) j=some l:=h;rw[b1] at h';split at h'
    ·cases h';exact hm p (by simp[hp]) (i,lb) (by simp)
    ·exact g3 j l h') hn.2 (λ p hp q hq=>hm p (by simp[hp]) q (by simp[hq]))
  refine ⟨λ t=>(e2 t).trans (e1 t),λ t=>(b2 t).trans ?_⟩
  show (lk news t).or (lk (st (S.kill i).blk i lb) t)=_
  rw[b1];simp only[lk];by_cases h:i=t
  ·subst h;rw[if_pos rfl,if_pos rfl];have:lk news i=none:=by
    cases e:lk news i with
    | none=>rfl
    | some x=>
     exfalso;exact hn.1 (qht e)
   rw[this];rfl
  ·rw[if_neg h,if_neg λ e=>h e.symm]
theorem qlg {S T:PS} {o:Oper} (h:∀ t,.tmp t∈o.op.operands->lk T.env t=lk S.env t):AgO (pv G T.env) (pv G S.env) o:=by
 intro x hx
 cases x with
 | tmp t=>exact h t hx
 | _=>rfl
theorem qwy {S T:PS} {o:Oper} (h:∀ t,.tmp t∈o.op.operands->∀ s,lk S.env t=some s->∀ id,ment id s=true->lk T.blk id=lk S.blk id):AgB (pv G S.env) T.blk S.blk o:=by
 intro x hx s hs id hm
 cases x with
 | tmp t=>exact h t hx s hs id hm
 | const v=>
  simp only[pv] at hs;unfold cv at hs;split at hs <;> first | (cases hs;simp[ment] at hm;done) | cases hs
 | global g=>
  simp only[pv] at hs;rw[Option.map_eq_some_iff] at hs;obtain ⟨y,_,rfl⟩:=hs;simp[ment] at hm
 | func f=>simp only[pv,Option.some.injEq] at hs;subst hs;simp[ment,qaf] at hm
theorem qgz {S:PS} {o:Oper} {id:Nat} (h:Fre id S):Cl id (pv G S.env) o:=by
 intro x hx s hs
 cases x with
 | tmp t=>exact h.2.1 t s hs
 | const v=>
  simp only[pv] at hs;unfold cv at hs;split at hs <;> first | (cases hs;rfl) | cases hs
 | global g=>
  simp only[pv] at hs;rw[Option.map_eq_some_iff] at hs;obtain ⟨y,_,rfl⟩:=hs;rfl
 | func f=>simp only[pv,Option.some.injEq] at hs;subst hs;rfl
theorem qp4 (ht:TTOK P tt) {S:PS} {o:Oper} {cs:List Prop} {s:SV} {news:List (Nat × LB)} {id:Nat} (h:qe2 tt G C S o=some (cs,(s,news))) (hf:Fre id S) (hn:∀ p∈news,p.1≠id):ment id s=false/\∀ p∈news,qa8 id p.2=false:=by
 unfold qe2 at h;split at h
 next e=>cases h;exact ⟨qmw ht e (qgz hf),by simp⟩
 ·split at h
  next e=>cases h;exact ⟨qmt e (qgz hf) hf.2.2,by simp⟩
  ·split at h
   next d hd=>
    split at h
    next e=>cases h;obtain ⟨a,b⟩:=qhj ht e (qgz hf);exact ⟨a (hn (d,_) (List.mem_singleton.2 rfl)),by simpa using b⟩
    ·exact qv1 h hn
   ·cases h
theorem qp2 (ht:TTOK P tt) {S:PS} {o:Oper} {cs:List Prop} {s:SV} {news:List (Nat × LB)} (h:qe2 tt G C S o=some (cs,(s,news))) (hf:∀ p∈news,Fre p.1 S) :
  (news.map (·.1)).Nodup/\(∀ p∈news,∀ q∈news,qa8 p.1 q.2=false)/\∀ p∈news,o.dst=some p.1\/1000000<=p.1:=by
 unfold qe2 at h;split at h
 ·cases h;simp
 ·split at h
  ·cases h;simp
  ·split at h
   next d hd=>
    split at h
    next e=>cases h;refine ⟨by simp,?_,by simp[hd]⟩;have:=(qhj (id:=d) ht e (qgz (hf (d,_) (List.mem_singleton.2 rfl)))).2;simpa using this
    ·unfold exC at h;split at h
     ·split at h
      ·split at h
       ·split at h
        ·split at h
         next cs0 x hrd=>
          split at h
          next hcond=>
           simp only[Bool.and_eq_true] at hcond;obtain ⟨⟨⟨_,hrow⟩,_⟩,_⟩:=hcond;cases h;refine ⟨?_,λ p hp q hq=>?_,λ p hp=>?_⟩
           ·have:∀ (rows:List LB) (k:Nat),((names d k rows).map (·.1)).Nodup:=by
             intro rows
             induction rows with
             | nil=>intro k;simp[names]
             | cons lb rows ih=>
              intro k;simp only[names,List.map_cons,List.nodup_cons];refine ⟨λ hm=>?_,ih (k+1)⟩;rw[List.mem_map] at hm;obtain ⟨p,hp,he⟩:=hm;obtain ⟨i,_,h2⟩:=(qd3 rows (k+1) p).1 hp;rw[h2] at he;have:=qz2 he;omega
            exact this _ 0
           ·obtain ⟨i,h1,_⟩:=(qd3 _ 0 _).1 hq;have:=List.all_eq_true.1 hrow _ (List.mem_of_getElem? h1)
            cases hq2:q.2 with
            | var l=>rw[hq2] at this;simp[isRow] at this
            | mp κ σ l=>rw[hq2] at this;simp[isRow] at this
            | iter l pos=>rw[hq2] at this;simp[isRow] at this
            | row _ _ _=>rfl
           ·obtain ⟨i,_,h2⟩:=(qd3 _ 0 _).1 hp;right;rw[h2];unfold nm;omega
          ·cases h
         ·cases h
        ·cases h
       ·cases h
      ·cases h
     ·cases h
   ·cases h
theorem qsz (ht:TTOK P tt) {ops:Array Oper} {S:PS} {o:Oper} {cs:List Prop} {s:SV} {news:List (Nat × LB)} {id:Nat} (h:effN tt G C ops S o=some (cs,(s,news))) (hf:Fre id S) (hn:∀ p∈news,p.1≠id):ment id s=false/\∀ p∈news,qa8 id p.2=false:=by
 cases hs:shO ops o with
 | false=>rw[qgj hs] at h;exact qp4 ht h hf hn
 | true=>
  obtain ⟨h1,rfl⟩:=ql3 hs h;obtain ⟨d,e0,et,e,xs,cs0,e1,l,_,_,_,_,rfl⟩:=qvx h1;exact ⟨rfl,by simp⟩
theorem qsy (ht:TTOK P tt) {ops:Array Oper} {S:PS} {o:Oper} {cs:List Prop} {s:SV} {news:List (Nat × LB)} (h:effN tt G C ops S o=some (cs,(s,news))) (hf:∀ p∈news,Fre p.1 S) :
  (news.map (·.1)).Nodup/\(∀ p∈news,∀ q∈news,qa8 p.1 q.2=false)/\∀ p∈news,o.dst=some p.1\/1000000<=p.1:=by
 cases hs:shO ops o with
 | false=>rw[qgj hs] at h;exact qp2 ht h hf
 | true=>obtain ⟨h1,rfl⟩:=ql3 hs h;simp
end
abbrev Rs:=Option (SV × List (Nat × LB))
def Sta (ops:Array Oper) (S:PS) (o:Oper) (b:Bool):Prop:=
 (o.guard=none/\b=true)\/∃ j want d t,o.guard=some (j,want)/\(ops[j]?).bind (·.dst)=some d/\((lk S.env d=some (.bool t)/\b=decide (t=want))\/(lk S.env d=some (.tup [])/\b=false))
def effW (tt:TT) (G:GV) (C:CV) (ops:Array Oper) (S:PS) (o:Oper):Bool->PC (SV × List (Nat × LB))
 | true=>effN tt G C ops S o
 | false=>some ([],(.tup [],[]))
def RunR (tt:TT) (G:GV) (C:CV) (ops:Array Oper) (S:PS) (o:Oper) (wd:Bool):Rs->Prop
 | none=>False
 | some (s,news)=>∃ cs,effW tt G C ops S o wd=some (cs,(s,news))/\(∀ c∈cs,c)/\∀ p∈news,Fre p.1 S
structure NS (tt:TT) (G:GV) (C:CV) (ops:Array Oper) (n i:Nat) (o:Oper) (S:PS) (wd:Bool) (r:Rs):Prop where
 at_:ops[i]?=some o
 dst:∀ d,o.dst=some d->d<n/\d<500000
 slot:qat S o=true
 sta:Sta ops S o wd
 run:RunR tt G C ops S o wd r
def fin (S:PS) (o:Oper):Rs->PS
 | none=>S
 | some (s,news)=>(addRows S news).put o.dst (some s)
section
variable {P:Program} {tt:TT} {G:GV} {C:CV} {n:Nat} {ops:Array Oper} {i:Nat} {o:Oper} {S T:PS} {r:Rs} {wd:Bool}
theorem ql0 (ht:TTOK P tt) {cs:List Prop} {s:SV} {news:List (Nat × LB)} (h:effW tt G C ops S o wd=some (cs,(s,news))) (hf:∀ p∈news,Fre p.1 S) :
  (news.map (·.1)).Nodup/\(∀ p∈news,∀ q∈news,qa8 p.1 q.2=false)/\∀ p∈news,o.dst=some p.1\/1000000<=p.1:=by
 cases wd with
 | true=>exact qsy ht h hf
 | false=>cases h;simp
theorem qsx (ht:TTOK P tt) {cs:List Prop} {s:SV} {news:List (Nat × LB)} {id:Nat} (h:effW tt G C ops S o wd=some (cs,(s,news))) (hf:Fre id S) (hn:∀ p∈news,p.1≠id):ment id s=false/\∀ p∈news,qa8 id p.2=false:=by
 cases wd with
 | true=>exact qsz ht h hf hn
 | false=>cases h;exact ⟨rfl,by simp⟩
theorem qee (hn:nw C ops o=true) (ho:ops[i]?=some o) {S':PS} (h:StpD tt G C ops n i S S'):∃ wd r,NS tt G C ops n i o S wd r/\S'=fin S o r:=by
 obtain ⟨o',ho',hd,hs,h⟩:=h;rw[ho] at ho';cases ho';have ex:ExD tt G C ops S o S'->∃ s news,RunR tt G C ops S o true (some (s,news))/\S'=fin S o (some (s,news)):=by
  rintro (⟨_,cs,s,news,h1,h2,h3,h4⟩ | ⟨h,_⟩)
  ·exact ⟨s,news,⟨cs,h1,h2,h3⟩,h4⟩
  ·rw[hn] at h;cases h
 have un:RunR tt G C ops S o false (some (.tup [],[])):=⟨[],rfl,by simp,by simp⟩;rcases h with ⟨hg,h⟩ | ⟨j,want,d,b,hg,hj,hb,h⟩ | ⟨j,want,d,hg,hj,hb,rfl⟩
 ·obtain ⟨s,news,h1,h2⟩:=ex h;exact ⟨true,_,⟨ho,hd,hs hn,.inl ⟨hg,rfl⟩,h1⟩,h2⟩
 ·rcases h with ⟨rfl,h⟩ | ⟨rfl,rfl⟩
  ·obtain ⟨s,news,h1,h2⟩:=ex h;exact ⟨true,_,⟨ho,hd,hs hn,.inr ⟨j,b,d,b,hg,hj,.inl ⟨hb,by simp⟩⟩,h1⟩,h2⟩
  ·exact ⟨false,_,⟨ho,hd,hs hn,.inr ⟨j,want,d,!want,hg,hj,.inl ⟨hb,by cases want <;> simp⟩⟩,un⟩,rfl⟩
 ·exact ⟨false,_,⟨ho,hd,hs hn,.inr ⟨j,want,d,true,hg,hj,.inr ⟨hb,rfl⟩⟩,un⟩,rfl⟩
theorem qei (hn:nw C ops o=true) (h:NS tt G C ops n i o S wd r):StpD tt G C ops n i S (fin S o r):=by
 refine ⟨o,h.at_,h.dst,λ _=>h.slot,?_⟩;have hrun:=h.run;have hsta:=h.sta
 cases r with
 | none=>exact hrun.elim
 | some p=>
  obtain ⟨s,news⟩:=p;obtain ⟨cs,h5,h6,h7⟩:=hrun
  cases wd with
  | true=>
   have hx:ExD tt G C ops S o (fin S o (some (s,news))):=.inl ⟨hn,cs,s,news,h5,h6,h7,rfl⟩;rcases hsta with ⟨hg,_⟩ | ⟨j,want,d,t,h1,h2,⟨h3,h4⟩ | ⟨_,h4⟩⟩
   ·exact .inl ⟨hg,hx⟩
   ·refine .inr (.inl ⟨j,want,d,t,h1,h2,h3,.inl ⟨?_,hx⟩⟩)
    cases t <;> cases want <;> simp at h4 |-
   ·cases h4
  | false=>
   cases h5;rcases hsta with ⟨_,h⟩ | ⟨j,want,d,t,h1,h2,⟨h3,h4⟩ | ⟨h3,_⟩⟩
   ·cases h
   ·refine .inr (.inl ⟨j,want,d,t,h1,h2,h3,.inr ⟨?_,rfl⟩⟩)
    cases t <;> cases want <;> simp at h4 |-
   ·exact .inr (.inr ⟨j,want,d,h1,h2,h3,rfl⟩)
theorem qcu    (ht:TTOK P tt) (h:NS tt G C ops n i o S wd r):(∀ t,lk (fin S o r).env t=match r with
   | none=>lk S.env t
   | some p=>if o.dst=some t then some p.1 else lk S.env t) /\
  ∀ t,lk (fin S o r).blk t=match r with
   | none=>lk S.blk t
   | some p=>(lk p.2 t).or (lk S.blk t):=by
 have hrun:=h.run
 cases r with
 | none=>exact ⟨λ _=>rfl,λ _=>rfl⟩
 | some p=>
  obtain ⟨s,news⟩:=p;obtain ⟨cs,h5,h6,h7⟩:=hrun;obtain ⟨g1,g2,_⟩:=ql0 ht h5 h7;obtain ⟨e,b⟩:=qz4 h7 g1 g2;constructor
  ·intro t;simp only[fin]
   cases hd:o.dst with
   | none=>simp only[PS.put];rw[e];simp
   | some d=>
    simp only[PS.put,qan];by_cases hh:t=d
    ·subst hh;simp
    ·rw[if_neg hh,e,if_neg (by simp;exact λ q=>hh q.symm)]
  ·intro t;simp only[fin]
   cases hd:o.dst with
   | none=>exact b t
   | some d=>exact b t
theorem qai {t:Nat} (h:Operand.tmp t∈o.op.operands):t∈o.looksAt ops:=by
 unfold Oper.looksAt;refine List.mem_append_left _ (List.mem_filterMap.2 ⟨.tmp t,by simpa using h,rfl⟩)
theorem qpy {j d:Nat} {want:Bool} (h:o.guard=some (j,want)) (hd:(ops[j]?).bind (·.dst)=some d):d∈o.looksAt ops:=by
 unfold Oper.looksAt;refine List.mem_append_right _ ?_;rw[h];simp[hd]
theorem NS.move (h:NS tt G C ops n i o S wd r) (ha:∀ t,t∈o.looksAt ops->lk T.env t=lk S.env t) (hb:∀ t,.tmp t∈o.op.operands->∀ s,lk S.env t=some s->∀ id,ment id s=true->lk T.blk id=lk S.blk id)
  (hs:qat T o=true) (hf:∀ s news,r=some (s,news)->∀ p∈news,Fre p.1 T):NS tt G C ops n i o T wd r:=by
 refine ⟨h.at_,h.dst,hs,?_,?_⟩
 ·rcases h.sta with h | ⟨j,want,d,t,h1,h2,h3⟩
  ·exact .inl h
  ·exact .inr ⟨j,want,d,t,h1,h2,by rw[ha d (qpy h1 h2)];exact h3⟩
 ·have hrun:=h.run
  cases r with
  | none=>exact hrun.elim
  | some p=>
   obtain ⟨s,news⟩:=p;obtain ⟨cs,h5,h6,_⟩:=hrun;refine ⟨cs,?_,h6,hf s news rfl⟩
   cases wd with
   | true=>exact (qij (qlg λ t ht=>ha t (qai ht)) (qwy hb)).trans h5
   | false=>exact h5
theorem Fre.sub {id:Nat} (h:Fre id S) (he:∀ t s,lk T.env t=some s->lk S.env t=some s) (hb:∀ t s,lk T.blk t=some s->lk S.blk t=some s):Fre id T:=by
 obtain ⟨⟨h1,h0⟩,h2,h3⟩:=h;refine ⟨⟨?_,?_⟩,λ t s e=>h2 t s (he t s e),λ j l e=>h3 j l (hb j l e)⟩
 ·cases e:lk T.blk id with
  | none=>rfl
  | some x=>rw[hb _ _ e] at h1;cases h1
 ·cases e:lk T.env id with
  | none=>rfl
  | some x=>rw[he _ _ e] at h0;cases h0
theorem qa2 {x y:Oper} (h:x.apart ops y=true):(∀ d,x.dst=some d->d ∉ y.looksAt ops/\y.dst≠some d)/\∀ d,y.dst=some d->d ∉ x.looksAt ops:=by
 unfold Oper.apart at h;simp only[Bool.and_eq_true] at h;obtain ⟨h1,h2⟩:=h;constructor
 ·intro d hd;rw[hd] at h1;simp only[Bool.and_eq_true,Bool.not_eq_true',bne_iff_ne] at h1;exact ⟨by have:=h1.1;simpa using this,h1.2⟩
 ·intro d hd;rw[hd] at h2;simp only[Bool.not_eq_true'] at h2;simpa using h2
theorem q12 (ht:TTOK P tt) {j:Nat} {x y:Oper} {rx ry:Rs} {wx wy:Bool} (hap:x.apart ops y=true) (hx:NS tt G C ops n j x S wx rx) (hy:NS tt G C ops n i y (fin S x rx) wy ry) :
  NS tt G C ops n i y S wy ry/\NS tt G C ops n j x (fin S y ry) wx rx/\Eqv (fin (fin S x rx) y ry) (fin (fin S y ry) x rx):=by
 obtain ⟨a1,a2⟩:=qa2 hap;obtain ⟨ex,bx⟩:=qcu ht hx
 -- what x adds
 have hxf:∀ s news,rx=some (s,news)->(∀ p∈news,Fre p.1 S)/\(∀ p∈news,x.dst=some p.1\/1000000<=p.1):=by
  intro s news e;subst e;obtain ⟨cs,h5,h6,h7⟩:=hx.run;exact ⟨h7,(ql0 ht h5 h7).2.2⟩
 have subE:∀ t s,lk S.env t=some s->lk (fin S x rx).env t=some s:=by
  intro t s h;rw[ex]
  cases rx with
  | none=>exact h
  | some p=>
   simp only;rw[if_neg]
   ·exact h
   ·intro hd;have:=hx.slot;simp only[qat,hd,h] at this;cases this
 have newx:∀ s news id,rx=some (s,news)->lk S.blk id=none\/lk news id=none:=by
  intro s news id e;cases h:lk news id with
  | none=>exact .inr rfl
  | some lb=>
   left;have hm:=qht h;rw[List.mem_map] at hm;obtain ⟨p,hp,rfl⟩:=hm;exact ((hxf s news e).1 p hp).1.1
 have subB:∀ t s,lk S.blk t=some s->lk (fin S x rx).blk t=some s:=by
  intro t s h;rw[bx]
  cases rx with
  | none=>exact h
  | some p=>
   obtain ⟨sx,nx⟩:=p;rcases newx sx nx t rfl with q | q
   ·rw[h] at q;cases q
   ·simp[q,h]
 have hyS:NS tt G C ops n i y S wy ry:=by
  refine hy.move (λ t htt=>?_) (λ t htt s hs id hm=>?_) ?_ (λ s news e p hp=>?_)
  ·rw[ex]
   cases rx with
   | none=>rfl
   | some p=>simp only;rw[if_neg λ hd=>(a1 t hd).1 htt]
  ·rw[bx]
   cases rx with
   | none=>rfl
   | some p=>
    obtain ⟨sx,nx⟩:=p;simp only;have hst:lk S.env t=some s:=by
     rw[ex] at hs;simp only at hs;rw[if_neg λ hd=>(a1 t hd).1 (qai htt)] at hs;exact hs
    cases hl:lk nx id with
    | none=>simp
    | some lb=>
     exfalso;have hmm:=qht hl;rw[List.mem_map] at hmm;obtain ⟨p,hp,rfl⟩:=hmm;have:=((hxf sx nx rfl).1 p hp).2.1 t s hst;rw[this] at hm;cases hm
  ·have hsl:=hy.slot;unfold qat at hsl |-
   cases hd:y.dst with
   | none=>rfl
   | some d=>
    rw[hd] at hsl;simp only at hsl |-
    cases e:lk S.env d with
    | none=>rfl
    | some s=>rw[subE d s e] at hsl;cases hsl
  ·subst e;obtain ⟨cs,h5,h6,h7⟩:=hy.run;exact (h7 p hp).sub subE subB
 obtain ⟨ey,by_⟩:=qcu ht hyS;obtain ⟨exy,bxy⟩:=qcu ht hy;have hyf:∀ s news,ry=some (s,news)->(∀ p∈news,Fre p.1 S)/\(∀ p∈news,Fre p.1 (fin S x rx)):=by
  intro s news e;subst e;obtain ⟨cs,h5,h6,h7⟩:=hyS.run;obtain ⟨cs',h5',h6',h7'⟩:=hy.run;exact ⟨h7,h7'⟩
 have disj:∀ sx nx sy ny,rx=some (sx,nx)->ry=some (sy,ny)->∀ p∈nx,∀ q∈ny,q.1≠p.1:=by
  intro sx nx sy ny e1 e2 p hp q hq heq;have h1:=((hyf sy ny e2).2 q hq).1.1;subst e1;rw[bx,heq] at h1;simp only at h1
  cases hl:lk nx p.1 with
  | some lb=>rw[hl] at h1;cases h1
  | none=>
   have hno:∀ (l:List (Nat × LB)),p∈l->lk l p.1≠none:=by
    intro l
    induction l with
    | nil=>intro h;cases h
    | cons a l ih=>
     intro h;simp only[lk];split
     ·simp
     next hne=>
      rcases List.mem_cons.1 h with rfl | h
      ·exact absurd rfl hne
      ·exact ih h
   exact hno nx hp hl
 have hxT:NS tt G C ops n j x (fin S y ry) wx rx:=by
  refine hx.move (λ t htt=>?_) (λ t htt s hs id hm=>?_) ?_ (λ s news e p hp=>?_)
  ·rw[ey]
   cases ry with
   | none=>rfl
   | some p=>simp only;rw[if_neg λ hd=>a2 t hd htt]
  ·rw[by_]
   cases ry with
   | none=>rfl
   | some p=>
    obtain ⟨sy,ny⟩:=p;simp only
    cases hl:lk ny id with
    | none=>simp
    | some lb=>
     exfalso;have hmm:=qht hl;rw[List.mem_map] at hmm;obtain ⟨p,hp,rfl⟩:=hmm;have:=((hyf sy ny rfl).1 p hp).2.1 t s hs;rw[this] at hm;cases hm
  ·have hsl:=hx.slot;unfold qat at hsl |-
   cases hd:x.dst with
   | none=>rfl
   | some d=>
    rw[hd] at hsl;simp only at hsl |-;rw[ey]
    cases ry with
    | none=>exact hsl
    | some p=>simp only;rw[if_neg (a1 d hd).2];exact hsl
  ·obtain ⟨hfS,hnm⟩:=hxf s news e;obtain ⟨⟨f1,f0⟩,f2,f3⟩:=hfS p hp
   cases ry with
   | none=>exact ⟨⟨f1,f0⟩,f2,f3⟩
   | some q=>
    obtain ⟨sy,ny⟩:=q;have hne:∀ q∈ny,q.1≠p.1:=disj s news sy ny e rfl p hp;obtain ⟨cs,h5,h6,h7⟩:=hyS.run;obtain ⟨m1,m2⟩:=qsx ht h5 ⟨⟨f1,f0⟩,f2,f3⟩ hne;have hlk:lk ny p.1=none:=by
     cases hl:lk ny p.1 with
     | none=>rfl
     | some lb=>
      exfalso;have hmm:=qht hl;rw[List.mem_map] at hmm;obtain ⟨q,hq,he⟩:=hmm;exact hne q hq he
    refine ⟨⟨?_,?_⟩,λ t s' hs=>?_,λ jj l hl=>?_⟩
    ·rw[by_];simp[hlk,f1]
    ·rw[ey];simp only;rw[if_neg]
     ·exact f0
     ·intro hd;rcases hnm p hp with h | h
      ·exact (a1 _ h).2 hd
      ·have h9:p.1<500000:=(hy.dst _ hd).2;omega
    ·rw[ey] at hs;simp only at hs;split at hs
     ·cases hs;exact m1
     ·exact f2 t s' hs
    ·rw[by_] at hl;simp only at hl
     cases hl2:lk ny jj with
     | none=>rw[hl2] at hl;exact f3 jj l (by simpa using hl)
     | some lb=>
      rw[hl2] at hl;simp at hl;subst hl;have:∀ (l:List (Nat × LB)),lk l jj=some lb->(jj,lb)∈l:=by
       intro l
       induction l with
       | nil=>intro h;simp[lk] at h
       | cons a l ih=>
        intro h;obtain ⟨k,b⟩:=a;simp only[lk] at h;split at h
        next hk=>subst hk;cases h;simp
        ·exact List.mem_cons_of_mem _ (ih h)
      exact m2 _ (this ny hl2)
 obtain ⟨eyx,byx⟩:=qcu ht hxT;refine ⟨hyS,hxT,λ t=>?_,λ t=>?_⟩
 ·rw[exy,eyx]
  cases rx with
  | none=>
   cases ry with
   | none=>rfl
   | some q=>rw[ey];rfl
  | some p=>
   cases ry with
   | none=>simp only;rw[ex];rfl
   | some q=>
    simp only;rw[ex,ey];simp only;by_cases h1:y.dst=some t
    ·rw[if_pos h1,if_neg λ h=>(a1 t h).2 h1,if_pos h1]
    ·rw[if_neg h1,if_neg h1]
 ·rw[bxy,byx]
  cases rx with
  | none=>
   cases ry with
   | none=>rfl
   | some q=>rw[by_];rfl
  | some p=>
   cases ry with
   | none=>simp only;rw[bx];rfl
   | some q=>
    obtain ⟨sx,nx⟩:=p;obtain ⟨sy,ny⟩:=q;simp only;rw[bx,by_];simp only
    cases h1:lk ny t with
    | none=>simp
    | some a=>
     cases h2:lk nx t with
     | none=>simp
     | some b=>
      exfalso;have m1:=qht h1;have m2:=qht h2;rw[List.mem_map] at m1 m2;obtain ⟨q,hq,e1⟩:=m1;obtain ⟨p,hp,e2⟩:=m2;exact disj sx nx sy ny rfl rfl p hp q hq (e1.trans e2.symm)
end
section
variable {P:Program} {tt:TT} {G:GV} {C:CV} {n:Nat} {ops:Array Oper} {i:Nat} {o:Oper} {S T:PS} {f:FuncId} {res:List ResultVar} {Q:List SV->List (Nat × LB)->Prop}
theorem qxw (h:∀ t,lk T.env t=lk S.env t):pv G T.env=pv G S.env:=by
 funext x
 cases x <;> simp only[pv,h]
theorem q2a {b1 b2:List (Nat × LB)} (h:∀ t,lk b1 t=lk b2 t) (e:Sh) (s:SV):newL b1 e s=newL b2 e s:=by
 cases s <;> simp only[newL,h]
theorem q4z {ρ:Operand->Option SV} {b1 b2:List (Nat × LB)} {d:Option Nat} (h:∀ t,lk b1 t=lk b2 t):pW tt ρ b1 d o=pW tt ρ b2 d o:=by
 unfold pW;simp only[h,q2a h]
theorem pR_eq {ρ:Operand->Option SV} {b1 b2:List (Nat × LB)} (h:∀ t,lk b1 t=lk b2 t):pR tt ρ b1 o=pR tt ρ b2 o:=qq7 (λ _ _=>rfl) λ _ _ _ _ id _=>h id
theorem Eqv.refl (S:PS):Eqv S S:=⟨λ _=>rfl,λ _=>rfl⟩
theorem Eqv.symm (h:Eqv S T):Eqv T S:=⟨λ t=>(h.1 t).symm,λ t=>(h.2 t).symm⟩
theorem Eqv.trans {U:PS} (h:Eqv S T) (k:Eqv T U):Eqv S U:=⟨λ t=>(h.1 t).trans (k.1 t),λ t=>(h.2 t).trans (k.2 t)⟩
theorem Eqv.kill (h:Eqv S T) (i:Nat):Eqv (S.kill i) (T.kill i):=⟨λ t=>by simp only[PS.kill,qaq,qbu,h.1],λ t=>by simp only[PS.kill,qaq,qbu,h.2]⟩
theorem Eqv.put (h:Eqv S T) (d:Option Nat) (s:Option SV):Eqv (S.put d s) (T.put d s):=by
 cases d with
 | none=>exact h
 | some d=>
  cases s with
  | none=>exact ⟨λ t=>by simp only[PS.put,qbu,h.1],h.2⟩
  | some s=>exact ⟨λ t=>by simp only[PS.put,qan,h.1],h.2⟩
theorem Eqv.with (h:Eqv S T) (d:Nat) (s:SV):Eqv (S.with d s) (T.with d s):=⟨λ t=>by simp only[PS.with,qan,h.1],h.2⟩
theorem Eqv.blk (h:Eqv S T) (id:Nat) (lb:LB):Eqv ⟨S.env,st S.blk id lb⟩ ⟨T.env,st T.blk id lb⟩:=⟨h.1,λ t=>by simp only[qan,h.2]⟩
theorem Eqv.fresh (h:Eqv S T) (g:Option Nat) (d:Nat) (lb:LB):Eqv (S.fresh g d lb) (T.fresh g d lb):=by
 cases g with
 | none=>exact ⟨(h.kill d).1,λ t=>by simp only[PS.fresh,qan,(h.kill d).2]⟩
 | some id=>exact ⟨((h.kill id).kill d).1,λ t=>by simp only[PS.fresh,qan,((h.kill id).kill d).2]⟩
theorem Eqv.addRows:∀ (news:List (Nat × LB)) {S T:PS},Eqv S T->Eqv (Px.addRows S news) (Px.addRows T news)
 | [],_,_,h=>h
 | (id,lb)::l,S,T,h=>Eqv.addRows l (show Eqv ⟨(S.kill id).env,st (S.kill id).blk id lb⟩ ⟨(T.kill id).env,st (T.kill id).blk id lb⟩ from (h.kill id).blk id lb)
theorem qow (h:Eqv S T) {cs:List Prop} {S':PS} (e:qe1 tt G C S o=some (cs,S')):∃ T',qe1 tt G C T o=some (cs,T')/\Eqv S' T':=by
 have hρ:pv G T.env=pv G S.env:=qxw λ t=>(h.1 t).symm
 have hb:∀ t,lk T.blk t=lk S.blk t:=λ t=>(h.2 t).symm
 have hR:pR tt (pv G S.env) T.blk o=pR tt (pv G S.env) S.blk o:=pR_eq hb;have hW:∀ d,pW tt (pv G S.env) T.blk d o=pW tt (pv G S.env) S.blk d o:=λ d=>q4z hb
 have hC:∀ d,exC C (pv G S.env) T.blk d o=exC C (pv G S.env) S.blk d o:=λ d=>qov (λ _ _=>rfl) λ _ _ _ _ id _=>hb id
 have hex:∀ r,exO tt G S o=some r->∃ T',exO tt G T o=some (r.1,T')/\Eqv r.2 T':=by
  intro r hr;unfold exO at hr |-;rw[hρ,hR];split at hr
  next cs' s e1=>cases hr;(try rw[e1]);exact ⟨_,rfl,h.put _ _⟩
  next e1=>
   try rw[e1]
   split at hr
   next cs' s e2=>cases hr;(try rw[e2]);exact ⟨_,rfl,h.put _ _⟩
   next e2=>
    try rw[e2]
    try simp only
    split at hr
    next d hd=>
     try rw[hd]
     try simp only
     split at hr
     next cs' s lb e3=>cases hr;(try rw[e3]);exact ⟨_,rfl,(h.fresh _ _ _).with _ _⟩
     next e3=>
      try rw[e3]
      try simp only[hW]
      split at hr
      next cs' r0 id lb e4=>cases hr;(try rw[e4]);exact ⟨_,rfl,(h.blk _ _).put _ _⟩
      next cs' s gone lb e4=>cases hr;(try rw[e4]);exact ⟨_,rfl,(h.fresh _ _ _).with _ _⟩
      ·cases hr
    next hd=>
     try rw[hd]
     try simp only[hW]
     split at hr
     next cs' r0 id lb e4=>cases hr;(try rw[e4]);exact ⟨_,rfl,(h.blk _ _).put _ _⟩
     ·cases hr
 have hno:exO tt G S o=none->exO tt G T o=none:=by
  intro hr;unfold exO at hr |-;rw[hρ,hR];simp only[hW];revert hr
  cases pA tt (pv G S.env) o with
  | some r=>intro hr;cases hr
  | none=>
   cases pR tt (pv G S.env) S.blk o with
   | some r=>intro hr;cases hr
   | none=>
    cases o.dst with
    | some d=>
     simp only
     cases pF tt (pv G S.env) d o with
     | some r=>intro hr;cases hr
     | none=>
      simp only
      cases pW tt (pv G S.env) S.blk (some d) o with
      | none=>intro _;rfl
      | some r=>
       obtain ⟨c0,r0,a0⟩:=r
       cases a0 with
       | turn id lb=>intro hr;cases hr
       | fresh g lb=>
        cases r0 with
        | none=>intro _;rfl
        | some s=>intro hr;cases hr
    | none=>
     simp only
     cases pW tt (pv G S.env) S.blk none o with
     | none=>intro _;rfl
     | some r=>
      obtain ⟨c0,r0,a0⟩:=r
      cases a0 with
      | turn id lb=>intro hr;cases hr
      | fresh g lb=>intro _;rfl
 unfold qe1 at e |-;split at e
 next r hr=>cases e;obtain ⟨T',h1,h2⟩:=hex _ hr;rw[h1];exact ⟨T',rfl,h2⟩
 next hr=>
  rw[hno hr];simp only[hρ,hC];split at e
  next d hd=>
   try rw[hd]
   split at e
   next cs' s news e1=>
    cases e
    try rw[e1]
    exact ⟨_,rfl,(h.addRows news).with _ _⟩
   ·cases e
  ·cases e
mutual
theorem qpi {b1 b2:List (Nat × LB)} (h:∀ i,lk b1 i=lk b2 i):∀ (a:AK) (s:SV),rdK b1 a s=rdK b2 a s
 | .dat _,s=>by simp only[rdK]
 | .row _ _,s=>by simp only[rdK,h]
 | .win _ _,s=>by simp only[rdK,h]
 | .ptr l,s=>by simp only[rdK,h,qpj h l]
 | .fn _ a c,s=>by simp only[rdK,qjn h a,qjn h c]
 | .map _ _,s=>by simp only[rdK,h]
 | .yl _,s=>by simp only[rdK]
 | .nl,s=>by simp only[rdK]
 | .agg l,s=>by simp only[rdK,qpj h l]
 | .pta _ a,s=>by simp only[rdK,qpi h a]
 | .np,s=>by simp only[rdK]
theorem qjn {b1 b2:List (Nat × LB)} (h:∀ i,lk b1 i=lk b2 i):∀ (as:List AK) (l:List SV),rdKL b1 as l=rdKL b2 as l
 | [],l=>by simp only[rdKL]
 | a::as,l=>by simp only[rdKL,qpi h a,qjn h as]
theorem qpj {b1 b2:List (Nat × LB)} (h:∀ i,lk b1 i=lk b2 i):∀ (as:List AK) (l:List SV),rdC b1 as l=rdC b2 as l
 | [],l=>by simp only[rdC]
 | a::as,l=>by simp only[rdC,qpi h a,qpj h as]
end
theorem qdd {b1 b2:List (Nat × LB)} (h:∀ i,lk b1 i=lk b2 i) {f:Nat} {l:List SV}:∀ (C:CV),qcz f b1 l C=qcz f b2 l C
 | []=>rfl
 | (g,.inl c)::C=>by simp only[qcz,qdd h C]
 | (g,.inr c)::C=>by simp only[qcz,qjn h,qdd h C]
theorem qox:∀ (l:List Nat) {S T:PS},Eqv S T->Eqv (killA l S) (killA l T)
 | [],_,_,h=>h
 | i::l,_,_,h=>qox l (h.kill i)
theorem ql7 (h:Eqv S T) (d:Nat) (ns:List (Option Nat)) (blk:List (Nat × LB)):Eqv (qbx S d ns blk) (qbx T d ns blk):=by
 have h1:Eqv (⟨S.env,rmL S.blk (ns.filterMap id)⟩:PS) ⟨T.env,rmL T.blk (ns.filterMap id)⟩:=⟨h.1,λ t=>by simp only[qkl,h.2]⟩;have h2:=qox (qea d ns blk) h1;exact ⟨h2.1,λ t=>by simp only[qbx,qiz,h2.2]⟩
theorem q2u (h:Eqv S T) {d:Nat} {cs:List Prop} {S':PS} (hρ:pv G T.env=pv G S.env) (e:exI G.mt C (pv G S.env) S d o=some (cs,S')):∃ T',exI G.mt C (pv G T.env) T d o=some (cs,T')/\Eqv S' T':=by
 unfold exI at e |-;rw[hρ];split at e
 next c hop=>
  try rw[hop]
  split at e
  next xo nm hcal=>
   try simp only[hcal]
   split at e
   next t g l0 l hf hl=>
    try simp only[hf,hl]
    split at e
    next f r hfm hmk=>
     try simp only[hfm,hmk]
     split at e
     next ct cs0 ns x hrd=>
      rw[qdd h.2] at hrd
      try simp only[hrd]
      split at e
      next hcond=>
       cases e
       try rw[if_pos hcond]
       exact ⟨_,rfl,(ql7 h d ns _).with _ _⟩
      ·cases e
     ·cases e
    ·cases e
   ·cases e
  next fo hcal=>
   try simp only[hcal]
   split at e
   next f fa fk l hf hl=>
    try simp only[hf,hl]
    split at e
    next ct cs0 ns x hrd=>
     rw[qdd h.2] at hrd
     try simp only[hrd]
     split at e
     next hcond=>
      cases e
      try rw[if_pos hcond]
      exact ⟨_,rfl,(ql7 h d ns _).with _ _⟩
     ·cases e
    ·cases e
   ·cases e
  ·cases e
 ·cases e
theorem Fre.eqv {id:Nat} (h:Fre id S) (e:Eqv S T):Fre id T:=h.sub (λ t s h=>by rw[e.1];exact h) (λ t s h=>by rw[e.2];exact h)
theorem qg9 (h:Eqv S T):qat T o=qat S o:=by
 unfold qat
 cases o.dst with
 | none=>rfl
 | some d=>simp only[h.1]
theorem qd8 (h:Eqv S T) {cs:List Prop} {S':PS} (e:qbe tt G C S o=some (cs,S')):∃ T',qbe tt G C T o=some (cs,T')/\Eqv S' T':=by
 unfold qbe at e;split at e
 next r hr=>cases e;obtain ⟨T',h1,h2⟩:=qow h hr;exact ⟨T',by simp only[qbe,h1],h2⟩
 next hr=>
  have hn:qe1 tt G C T o=none:=by
   cases he:qe1 tt G C T o with
   | none=>rfl
   | some r=>
    obtain ⟨S1,h1,_⟩:=qow (cs:=r.1) (S':=r.2) h.symm he;rw[hr] at h1;cases h1
  split at e
  next d hd=>
   have hρ:pv G T.env=pv G S.env:=by
    funext x
    cases x <;> simp[pv,h.1]
   obtain ⟨T',h1,h2⟩:=q2u h hρ e;exact ⟨T',by simp only[qbe,hn,hd];exact h1,h2⟩
  ·cases e
theorem ApP.eqv (h:Eqv S T) (k:ApP tt C ops S o):ApP tt C ops T o:=by
 intro h1 h2;obtain ⟨d,t,h3,h4,h5,h7,h6⟩:=k h1 h2;refine ⟨d,t,h3,h4,h5.eqv h,λ u hu hn=>(h7 u hu (by rw[h.1];exact hn)).eqv h,λ r e g lo n hl=>?_⟩;obtain ⟨k1,k2,k3⟩:=h6 r e g lo n (by rw[h.1];exact hl);exact ⟨k1,λ u s hu hs=>k2 u s hu (by rw[h.1];exact hs),λ j lb hl=>k3 j lb (by rw[h.2];exact hl)⟩
theorem q27 (h:Eqv S T):ciN C (pv G T.env) T.blk o=ciN C (pv G S.env) S.blk o:=by
 have hρ:pv G T.env=pv G S.env:=qxw λ t=>(h.1 t).symm
 unfold ciN;rw[hρ];simp only[qdd h.2]
theorem q26 (h:Eqv S T):ciT C (pv G T.env) T.blk o=ciT C (pv G S.env) S.blk o:=by
 have hρ:pv G T.env=pv G S.env:=qxw λ t=>(h.1 t).symm
 unfold ciT;rw[hρ];simp only[qdd h.2]
theorem StP0.eqv (h:Eqv S T) (k:StP0 tt C ops S o):StP0 tt C ops T o:=by
 intro h1 h2 h3 t ht s hs id hm;obtain ⟨k1,k2⟩:=k h1 h2 h3 t ht s (by rw[h.1];exact hs) id hm;exact ⟨λ u s' hu hs'=>k1 u s' hu (by rw[h.1];exact hs'),λ j lb hl=>k2 j lb (by rw[h.2];exact hl)⟩
theorem StP.eqv (h:Eqv S T) (k:StP tt G C ops S o):StP tt G C ops T o:=by
 refine ⟨k.1.eqv h,λ h1 h2=>?_⟩;obtain ⟨k1,k2⟩:=k.2 h1 h2;rw[q27 h,q26 h];refine ⟨λ id hid=>?_,λ u hu hn=>(k2 u hu (by rw[h.1];exact hn)).eqv h⟩;obtain ⟨q1,q2,q3⟩:=k1 id hid;exact ⟨q1,λ u s hu hs=>q2 u s hu (by rw[h.1];exact hs),λ j lb hj hl=>q3 j lb hj (by rw[h.2];exact hl)⟩
theorem q25 (h:ciOp C o=false):CiP tt G C ops S o:=λ q=>by rw[h] at q;cases q
theorem q1d (hi:isSt o=true):ciOp C o=false:=by
 obtain ⟨dst,op,type,pos,after,guard⟩:=o
 cases op with
 | store t p x=>rfl
 | _=>simp[isSt] at hi
theorem q5p (hi:apOp o=true):ciOp C o=false:=by
 obtain ⟨dst,op,type,pos,after,guard⟩:=o
 cases op with
 | call c=>
  obtain ⟨cal,args,ts⟩:=c
  cases cal with
  | builtin b=>cases dst <;> rfl
  | _=>simp[apOp] at hi
 | _=>simp[apOp] at hi
theorem qp1 (h:Eqv S T) {S':PS} (e:ExD tt G C ops S o S'):∃ T',ExD tt G C ops T o T'/\Eqv S' T':=by
 rcases e with ⟨hn,cs,s,news,h1,h2,h3,rfl⟩ | ⟨hn,⟨cs,h1,h2⟩,hap,hsp⟩
 ·have hloc:effN tt G C ops T o=effN tt G C ops S o:=qij (qlg λ t _=>(h.1 t).symm) (qwy λ t _ s _ id _=>(h.2 id).symm);exact ⟨_,.inl ⟨hn,cs,s,news,by rw[hloc];exact h1,h2,λ p hp=>(h3 p hp).eqv h,rfl⟩,(h.addRows news).put _ _⟩
 ·obtain ⟨T',h3,h4⟩:=qd8 h h1;exact ⟨T',.inr ⟨hn,⟨cs,h3,h2⟩,hap.eqv h,hsp.eqv h⟩,h4⟩
theorem qqp (h:Eqv S T) {S':PS} (e:StpD tt G C ops n i S S'):∃ T',StpD tt G C ops n i T T'/\Eqv S' T':=by
 obtain ⟨o,ho,hd,hs,e⟩:=e;rcases e with ⟨hg,e⟩ | ⟨j,want,d,b,hg,hj,hb,e⟩ | ⟨j,want,d,hg,hj,hb,rfl⟩
 ·obtain ⟨T',h1,h2⟩:=qp1 h e;exact ⟨T',⟨o,ho,hd,by rw[qg9 h];exact hs,.inl ⟨hg,h1⟩⟩,h2⟩
 ·rcases e with ⟨hw,e⟩ | ⟨hw,rfl⟩
  ·obtain ⟨T',h1,h2⟩:=qp1 h e;exact ⟨T',⟨o,ho,hd,by rw[qg9 h];exact hs,.inr (.inl ⟨j,want,d,b,hg,hj,by rw[<- h.1];exact hb,.inl ⟨hw,h1⟩⟩)⟩,h2⟩
  ·exact ⟨_,⟨o,ho,hd,by rw[qg9 h];exact hs,.inr (.inl ⟨j,want,d,b,hg,hj,by rw[<- h.1];exact hb,.inr ⟨hw,rfl⟩⟩)⟩,h.put _ _⟩
 ·exact ⟨_,⟨o,ho,hd,by rw[qg9 h];exact hs,.inr (.inr ⟨j,want,d,hg,hj,by rw[<- h.1];exact hb,rfl⟩)⟩,h.put _ _⟩
def SLe (b b':List (Nat × LB)):Prop:=∀ id,match lk b id with
 | some (.row et e xs)=>∃ ys,lk b' id=some (.row et e ys)/\ys.length=xs.length
 | some (.var _)=>∃ l',lk b' id=some (.var l')
 | some (.mp κ σ l)=>lk b' id=some (.mp κ σ l)
 | some (.iter l pos)=>lk b' id=some (.iter l pos)
 | none=>lk b' id=none
theorem SLe.st {b:List (Nat × LB)} {id:Nat} {lb:LB} (h:match lk b id with
 | some (.row et e xs)=>∃ ys,lb=.row et e ys/\ys.length=xs.length
 | some (.var _)=>∃ l',lb=.var l'
 | some (.mp κ σ l)=>lb=.mp κ σ l
 | some (.iter l pos)=>lb=.iter l pos
 | none=>False):SLe b (st b id lb)/\SLe (st b id lb) b:=by
 constructor
 ·intro j;rw[qan];by_cases hj:j=id
  ·subst hj;rw[if_pos rfl]
   cases e:lk b j with
   | none=>rw[e] at h;exact h.elim
   | some l=>
    rw[e] at h
    cases l with
    | row et e xs=>obtain ⟨ys,rfl,h2⟩:=h;exact ⟨ys,rfl,h2⟩
    | mp κ σ m=>simp only at h;subst h;rfl
    | iter l pos=>simp only at h;subst h;rfl
    | var l=>obtain ⟨l',rfl⟩:=h;exact ⟨l',rfl⟩
  ·rw[if_neg hj]
   cases lk b j with
   | none=>rfl
   | some l=>cases l with
    | mp κ σ m=>rfl
    | iter l pos=>rfl
    | row et e xs=>exact ⟨xs,rfl,rfl⟩
    | var l=>exact ⟨l,rfl⟩
 ·intro j;rw[qan];by_cases hj:j=id
  ·subst hj;rw[if_pos rfl]
   cases e:lk b j with
   | none=>rw[e] at h;exact h.elim
   | some l=>
    rw[e] at h
    cases l with
    | row et e xs=>obtain ⟨ys,rfl,h2⟩:=h;exact ⟨xs,rfl,h2.symm⟩
    | mp κ σ m=>simp only at h;subst h;rfl
    | iter l pos=>simp only at h;subst h;rfl
    | var l=>obtain ⟨l',rfl⟩:=h;exact ⟨l,rfl⟩
  ·rw[if_neg hj]
   cases lk b j with
   | none=>rfl
   | some l=>cases l with
    | mp κ σ m=>rfl
    | iter l pos=>rfl
    | row et e xs=>exact ⟨xs,rfl,rfl⟩
    | var l=>exact ⟨l,rfl⟩
theorem q1q {ρ:Operand->Option SV} {b:List (Nat × LB)} {d:Option Nat} {cs:List Prop} {r:Option SV} {a:Ac} (hi:isSt o=true) (h:pW tt ρ b d o=some (cs,(r,a))) :
  r=none/\∃ id lb,a=.turn id lb/\SLe b (st b id lb)/\SLe (st b id lb) b:=by
 obtain ⟨dst,op,type,pos,after,guard⟩:=o
 cases op with
 | store t p x=>
  simp only[pW] at h;split at h
  ·split at h
   ·cases h
   next hl _ _=>
    split at h
    ·split at h
     ·cases h;refine ⟨rfl,_,_,rfl,SLe.st ?_⟩;rw[hl];exact ⟨_,rfl⟩
     ·cases h
    ·cases h
   ·cases h
  ·split at h
   next hl=>
    split at h
    ·split at h
     next hee=>
      subst hee;split at h
      ·cases h
      ·split at h
       ·split at h
        ·cases h;refine ⟨rfl,_,_,rfl,SLe.st ?_⟩;rw[hl];exact ⟨_,rfl⟩
        ·cases h
       ·cases h
     ·cases h
    ·split at h
     ·split at h
      ·cases h;refine ⟨rfl,_,_,rfl,SLe.st ?_⟩;rw[hl];exact ⟨_,rfl⟩
      ·cases h
     ·cases h
    ·cases h
   ·cases h
  ·split at h
   next hl=>
    split at h
    next hee=>
     subst hee;split at h
     ·cases h
     ·split at h
      ·cases h;refine ⟨rfl,_,_,rfl,SLe.st ?_⟩;rw[hl];exact ⟨_,rfl,by simp⟩
      ·cases h
    ·cases h
   ·cases h
  ·cases h
 | _=>simp[isSt] at hi
theorem qf0 {ρ1 ρ2:Operand->Option SV} {b:List (Nat × LB)} {d:Option Nat} (hi:isSt o=true) (h:AgO ρ1 ρ2 o):pW tt ρ1 b d o=pW tt ρ2 b d o:=by
 obtain ⟨dst,op,type,pos,after,guard⟩:=o;unfold AgO at h
 cases op with
 | store t p x=>simp only[pW,h p (by simp[Op.operands]),h x (by simp[Op.operands])]
 | _=>simp[isSt] at hi
theorem q1b (hi:isSt o=true) (S:PS):pA tt (pv G S.env) o=none/\pR tt (pv G S.env) S.blk o=none/\o.dst=none/\o.guard=none/\nw C ops o=false:=by
 obtain ⟨dst,op,type,pos,after,guard⟩:=o
 cases op with
 | store t p x=>
  simp only[isSt,Bool.and_eq_true,Option.isNone_iff_eq_none] at hi;exact ⟨by simp only[pA],by simp only[pR],hi.2,hi.1,by simp[nw,nonW]⟩
 | _=>simp[isSt] at hi
theorem q1c (hi:isSt o=true):apOp o=false:=by
 obtain ⟨dst,op,type,pos,after,guard⟩:=o
 cases op with
 | store t p x=>rfl
 | _=>simp[isSt] at hi
def StR (tt:TT) (G:GV) (S:PS) (o:Oper) (id:Nat) (lb:LB):Prop:=∃ cs,pW tt (pv G S.env) S.blk none o=some (cs,(none,.turn id lb))/\∀ c∈cs,c
theorem qe4 (hi:isSt o=true) (ho:ops[i]?=some o):(∀ {S':PS},StpD tt G C ops n i S S'->StP tt G C ops S o/\∃ id lb,StR tt G S o id lb/\S'=⟨S.env,st S.blk id lb⟩)/\∀ {id lb},StP tt G C ops S o->StR tt G S o id lb->StpD tt G C ops n i S ⟨S.env,st S.blk id lb⟩:=by
 obtain ⟨e1,e2,e3,e4,e5⟩:=q1b (tt:=tt) (G:=G) (C:=C) (ops:=ops) hi S;have hx:∀ cs S',qbe tt G C S o=some (cs,S')↔∃ id lb,pW tt (pv G S.env) S.blk none o=some (cs,(none,.turn id lb))/\S'=⟨S.env,st S.blk id lb⟩:=by
  intro cs S';unfold qbe qe1 exO;simp only[e1,e2,e3];constructor
  ·intro h
   cases hw:pW tt (pv G S.env) S.blk none o with
   | none=>simp[hw] at h
   | some r=>
    obtain ⟨c0,r0,a0⟩:=r;obtain ⟨rfl,id,lb,rfl,_⟩:=q1q hi hw;simp only[hw] at h;cases h;exact ⟨id,lb,rfl,rfl⟩
  ·rintro ⟨id,lb,hw,rfl⟩;simp only[hw];rfl
 constructor
 ·rintro S' ⟨o',ho',hd,hs,h⟩;rw[ho] at ho';cases ho';rcases h with ⟨hg,h⟩ | ⟨j,want,d,b,hg,_⟩ | ⟨j,want,d,hg,_⟩
  ·rcases h with ⟨hn,_⟩ | ⟨_,⟨cs,h1,h2⟩,_,hsp⟩
   ·rw[e5] at hn;cases hn
   ·obtain ⟨id,lb,h3,rfl⟩:=(hx _ _).1 h1;exact ⟨hsp,id,lb,⟨cs,h3,h2⟩,rfl⟩
  ·rw[e4] at hg;cases hg
  ·rw[e4] at hg;cases hg
 ·rintro id lb hsp ⟨cs,h1,h2⟩;exact ⟨o,ho,by simp[e3],by simp[e5],.inl ⟨e4,.inr ⟨e5,⟨cs,(hx _ _).2 ⟨id,lb,h1,rfl⟩,h2⟩,(λ hq=>by rw[q1c hi] at hq;cases hq),hsp⟩⟩⟩
def LtR (tt:TT) (G:GV) (S:PS) (o:Oper) (s:SV):Prop:=∃ cs,(pA tt (pv G S.env) o=some (cs,s)\/(pA tt (pv G S.env) o=none/\pR tt (pv G S.env) S.blk o=some (cs,s)))/\∀ c∈cs,c
theorem ql2 (hl:qfh o=true) {cs:List Prop} {s:SV} {news:List (Nat × LB)}:effN tt G C ops S o=some (cs,(s,news))↔news=[]/\(pA tt (pv G S.env) o=some (cs,s)\/(pA tt (pv G S.env) o=none/\pR tt (pv G S.env) S.blk o=some (cs,s))):=by
 have hF:∀ d,pF tt (pv G S.env) d o=none/\exC C (pv G S.env) S.blk d o=none:=by
  intro d;obtain ⟨dst,op,type,pos,after,guard⟩:=o
  cases op with
  | move x=>exact ⟨by simp only[pF],by simp only[exC]⟩
  | slice t x lo hi m=>exact ⟨by simp only[pF],by simp only[exC]⟩
  | _=>simp[qfh] at hl
 have hsh:shO ops o=false:=by
  cases hq:shO ops o with
  | false=>rfl
  | true=>obtain ⟨t,n,ps,d,h1,_⟩:=qua hq;simp[qfh,h1] at hl
 rw[qgj hsh];unfold qe2
 cases e1:pA tt (pv G S.env) o with
 | some r=>
  obtain ⟨c,s0⟩:=r;simp only[Option.some.injEq,Prod.mk.injEq];constructor
  ·rintro ⟨rfl,rfl,rfl⟩;exact ⟨rfl,.inl ⟨rfl,rfl⟩⟩
  ·rintro ⟨rfl,⟨rfl,rfl⟩ | ⟨h,_⟩⟩
   ·exact ⟨rfl,rfl,rfl⟩
   ·cases h
 | none=>
  cases e2:pR tt (pv G S.env) S.blk o with
  | some r=>
   obtain ⟨c,s0⟩:=r;simp only[Option.some.injEq,Prod.mk.injEq];constructor
   ·rintro ⟨rfl,rfl,rfl⟩;exact ⟨rfl,.inr ⟨trivial,rfl,rfl⟩⟩
   ·rintro ⟨rfl,h | ⟨_,rfl,rfl⟩⟩
    ·cases h
    ·exact ⟨rfl,rfl,rfl⟩
  | none=>
   simp only
   cases o.dst with
   | none=>simp
   | some d=>simp[hF d]
theorem qia (hl:qfh o=true) (hn:nw C ops o=true) (ho:ops[i]?=some o):(∀ {S':PS},StpD tt G C ops n i S S'->((∀ d,o.dst=some d->d<n/\d<500000)/\qat S o=true)/\∃ s,LtR tt G S o s/\S'=S.put o.dst (some s))/\∀ {s},(∀ d,o.dst=some d->d<n/\d<500000)->qat S o=true->LtR tt G S o s->StpD tt G C ops n i S (S.put o.dst (some s)):=by
 have hg:o.guard=none:=by
  obtain ⟨dst,op,type,pos,after,guard⟩:=o
  cases op with
  | move x=>simpa [qfh] using hl
  | slice t x lo hi m=>cases m <;> simp[qfh] at hl;exact hl.1
  | _=>simp[qfh] at hl
 constructor
 ·intro S' h;obtain ⟨wd,r,h1,rfl⟩:=qee hn ho h;have hr:wd=true:=by
   rcases h1.sta with ⟨_,h⟩ | ⟨j,want,d,t,h,_⟩
   ·exact h
   ·rw[hg] at h;cases h
  subst hr
  cases r with
  | none=>exact h1.run.elim
  | some p=>
   obtain ⟨s,news⟩:=p;obtain ⟨cs,h5,h6,h7⟩:=h1.run;obtain ⟨rfl,h8⟩:=(ql2 hl).1 h5;exact ⟨⟨h1.dst,h1.slot⟩,s,⟨cs,h8,h6⟩,rfl⟩
 ·intro s hd hs ⟨cs,h8,h6⟩;exact qei (wd:=true) (r:=some (s,[])) hn ⟨ho,hd,hs,.inl ⟨hg,rfl⟩,cs,(ql2 hl).2 ⟨rfl,h8⟩,h6,by simp⟩
theorem LtR.le (hl:qfh o=true) {s:SV} {T:PS} (hA:AgO (pv G T.env) (pv G S.env) o) (hb:SLe S.blk T.blk) (h:LtR tt G S o s):LtR tt G T o s:=by
 obtain ⟨cs,h,hc⟩:=h;unfold LtR;rw[qmv hA];rcases h with h | ⟨h0,h⟩
 ·exact ⟨cs,.inl h,hc⟩
 ·rw[h0];obtain ⟨dst,op,type,pos,after,guard⟩:=o;unfold AgO at hA
  cases op with
  | slice t x lo hi m=>
   cases m with
   | some m=>simp[qfh] at hl
   | none=>
    have b1:bnd (pv G T.env) lo=bnd (pv G S.env) lo:=qh2 λ y hy=>hA y (by subst hy;simp[Op.operands])
    have b2:bnd (pv G T.env) hi=bnd (pv G S.env) hi:=qh2 λ y hy=>hA y (by subst hy;simp[Op.operands])
    simp only[pR,hA x (by simp[Op.operands]),b1,b2] at h |-;split at h
    next r e id w nn a b et g1 g2 g3 g4=>
     split at h
     next et' e' xs ti g5 g6=>
      have:=hb id;rw[g5] at this;obtain ⟨ys,g7,g8⟩:=this;split at h
      next hcond=>cases h;simp only[g7,g6,if_pos hcond];exact ⟨_,.inr ⟨trivial,rfl⟩,by rw[g8];exact hc⟩
      ·cases h
     ·cases h
    ·exact ⟨cs,.inr ⟨trivial,h⟩,hc⟩
    ·exact ⟨cs,.inr ⟨trivial,h⟩,hc⟩
    next g2 g3 _=>
     exfalso;simp only[qfh,Bool.and_eq_true,Bool.or_eq_true] at hl
     cases lo with
     | some l0=>
      simp only[bnd] at g2;split at g2
      ·cases g2
      ·cases g2
     | none=>
      cases hi with
      | some h0=>simp at hl
      | none=>simp only[bnd] at g3;cases g3
    ·cases h
  | move x=>simp only[pR] at h;cases h
  | _=>simp[qfh] at hl
theorem qr2 {d:Option Nat} {s:SV} (h:∀ t,d=some t->t ∉ o.looksAt ops):AgO (pv G (S.put d (some s)).env) (pv G S.env) o:=qlg λ t ht=>by
 cases d with
 | none=>rfl
 | some d=>
  simp only[PS.put,qan];rw[if_neg];rintro rfl;exact h t rfl (qai ht)
theorem qe8 (S:PS) (d:Option Nat) (s:SV):(S.put d (some s)).blk=S.blk:=by cases d <;> rfl
theorem qq5 (S:PS) (d:Option Nat) (s:SV) (b:List (Nat × LB)):(⟨(S.put d (some s)).env,b⟩:PS)=PS.put ⟨S.env,b⟩ d (some s):=by cases d <;> rfl
theorem qkw (hl:qdi tt o=true) {T:PS} (hA:AgO (pv G T.env) (pv G S.env) o):effN tt G C ops T o=effN tt G C ops S o/\o.guard=none:=by
 have hF:∀ (ρ:Operand->Option SV) d b,exC C ρ b d o=none:=by
  intro ρ d b;obtain ⟨dst,op,type,pos,after,guard⟩:=o
  cases op with
  | makeSlice t l c=>simp only[exC]
  | alloc t=>simp only[exC]
  | binOp op t x y z=>simp only[exC]
  | convert s t x=>simp only[exC]
  | _=>simp[qdi] at hl
 have hR:∀ (ρ:Operand->Option SV) b,pR tt ρ b o=none:=by
  intro ρ b;obtain ⟨dst,op,type,pos,after,guard⟩:=o
  cases op with
  | makeSlice t l c=>simp only[pR]
  | alloc t=>simp only[pR]
  | binOp op t x y z=>simp only[pR]
  | convert s t x=>
   simp only[qdi] at hl;split at hl
   next k hk=>simp only[pR,hk]
   ·cases hl
  | _=>simp[qdi] at hl
 have hsh:shO ops o=false:=by
  cases hq:shO ops o with
  | false=>rfl
  | true=>obtain ⟨t,n,ps,d,h1,_⟩:=qua hq;simp[qdi,h1] at hl
 constructor
 ·rw[qgj hsh,qgj hsh];unfold qe2;rw[qmv hA,hR,hR]
  cases pA tt (pv G S.env) o with
  | some r=>rfl
  | none=>
   cases o.dst with
   | none=>rfl
   | some d=>simp only[qmu hA,hF]
 ·obtain ⟨dst,op,type,pos,after,guard⟩:=o
  cases op with
  | makeSlice t l c=>simpa [qdi] using hl
  | alloc t=>simpa [qdi] using hl
  | binOp op t x y z=>simpa [qdi] using hl
  | convert s t x=>
   simp only[qdi] at hl;split at hl
   ·simpa using hl
   ·cases hl
  | _=>simp[qdi] at hl
theorem qzw {ρ:Operand->Option SV} {b1 b2:List (Nat × LB)} {cs:List Prop} {id:Nat} {lb:LB} (hi:isSt o=true) (h:pW tt ρ b1 none o=some (cs,(none,.turn id lb))) :
  (∃ x∈o.op.operands,∃ s,ρ x=some s/\ment id s=true)/\(lk b1 id).isSome=true/\(lk b2 id=lk b1 id->pW tt ρ b2 none o=some (cs,(none,.turn id lb))) /\
   ∀ i,(∀ l,lk b1 id=some l->qa8 i l=false)->(∀ x∈o.op.operands,∀ s,ρ x=some s->ment i s=false)->qa8 i lb=false:=by
 obtain ⟨dst,op,type,pos,after,guard⟩:=o
 cases op with
 | store t p x=>
  simp only[pW] at h;have hop:p∈(Op.store t p x).operands/\x∈(Op.store t p x).operands:=by simp[Op.operands]
  split at h
  next ti id' off s h1 h2 h3=>
   split at h
   ·cases h
   next l hl hnt=>
    split at h
    next hsz=>
     split at h
     next l' hsp=>
      cases h;refine ⟨⟨p,hop.1,_,h2,by simp[ment]⟩,by rw[hl];rfl,λ e=>?_,λ i hm hx=>?_⟩
      ·simp only[pW,h1,h2,h3,e,hl,if_pos hsz,hsp];rfl
      ·exact qdo (qb6 hsp).1 (hm _ hl) (qgu (hx x hop.2 _ h3))
     ·cases h
    ·cases h
   ·cases h
  next ti e id' base k off s h1 h2 h3=>
   split at h
   next l hl=>
    split at h
    next a n e' xs r hc=>
     split at h
     next hee=>
      subst hee;split at h
      ·cases h
      next hcond=>
       split at h
       next y hy=>
        split at h
        next l' hsp=>
         cases h;refine ⟨⟨p,hop.1,_,h2,by simp[ment]⟩,by rw[hl];rfl,λ e=>?_,λ i hm hx=>?_⟩
         ·simp only[pW,h1,h2,h3,e,hl,hc,dif_pos,if_neg hcond,hy,hsp]
         ·exact qdo (qb6 hsp).1 (hm _ hl) (by simp[qaf,ment])
        ·cases h
       ·cases h
     ·cases h
    next a n q j m0 r hc=>
     split at h
     next hcond=>
      split at h
      next l' hsp=>
       cases h;refine ⟨⟨p,hop.1,_,h2,by simp[ment]⟩,by rw[hl];rfl,λ e=>?_,λ i hm hx=>?_⟩
       ·simp only[pW,h1,h2,h3,e,hl,hc,if_pos hcond,hsp]
       ·exact qdo (qb6 hsp).1 (hm _ hl) (by simp[qaf,ment,hx x hop.2 _ h3])
      ·cases h
     ·cases h
    ·cases h
   ·cases h
  next ti e id' k off s h1 h2 h3=>
   split at h
   next et e' xs hl=>
    split at h
    next hee=>
     subst hee;split at h
     ·cases h
     next hcond=>
      split at h
      next y hy=>cases h;refine ⟨⟨p,hop.1,_,h2,by simp[ment]⟩,by rw[hl];rfl,λ e=>?_,λ i hm hx=>rfl⟩;simp only[pW,h1,h2,h3,e,hl,dif_pos,if_neg hcond,hy]
      ·cases h
    ·cases h
   ·cases h
  ·cases h
 | _=>simp[isSt] at hi
theorem qps {ρ:Operand->Option SV} {b:List (Nat × LB)} {d:Option Nat} (h:nonW C o=true):pW tt ρ b d o=none:=by
 obtain ⟨dst,op,type,pos,after,guard⟩:=o
 cases op with
 | store t p x=>simp[nonW] at h
 | mapUpdate t m k x=>simp[nonW] at h
 | insert t m k x=>simp[nonW] at h
 | next it s=>simp[nonW] at h
 | call c=>
  obtain ⟨cal,args,ts⟩:=c
  cases cal with
  | builtin b=>cases b <;> first | rfl | (simp[nonW] at h)
  | _=>rfl
 | _=>rfl
theorem qvw (ht:TTOK P tt) {S':PS} (hn:nonW C o=true) (hsh:shO ops o=false) (h:ExN tt G C ops S o S'):∃ S'',Ex tt G C S o S''/\Eqv S'' S':=by
 obtain ⟨cs,s,news,h1,h2,h3,rfl⟩:=h;rw[qgj hsh] at h1;unfold qe2 at h1;unfold Ex qe1 exO;split at h1
 next e=>cases h1;rw[e];exact ⟨_,⟨_,rfl,h2⟩,Eqv.refl _⟩
 next e1=>
  rw[e1];split at h1
  next e=>cases h1;simp only[e];exact ⟨_,⟨_,rfl,h2⟩,Eqv.refl _⟩
  next e2=>
   simp only[e2];split at h1
   next d hd=>
    simp only[hd];split at h1
    next lb e3=>cases h1;simp only[e3];refine ⟨_,⟨_,rfl,h2⟩,?_⟩;have hm:=(qhj (id:=d) ht e3 (qgz (h3 (d,_) (List.mem_singleton.2 rfl)))).2;rw[qem hm];exact Eqv.refl _
    next e3=>simp only[e3,qps hn,h1];exact ⟨_,⟨_,rfl,h2⟩,Eqv.refl _⟩
   ·cases h1
theorem qrl {S:PS}:∀ id,(qk3 S).contains id=false->Fre id S:=by
 intro id hid;have hid:id ∉ qk3 S:=by simpa using hid
 have hmem:∀ {α:Type} {l:List (Nat × α)} {k:Nat} {x:α},lk l k=some x->(k,x)∈l:=by
  intro α l
  induction l with
  | nil=>intro k x h;simp[lk] at h
  | cons a l ih=>
   intro k x h;obtain ⟨a,b⟩:=a;simp only[lk] at h;split at h
   next hk=>subst hk;cases h;simp
   ·exact List.mem_cons_of_mem _ (ih h)
 unfold qk3 at hid;rw[List.mem_append,not_or] at hid;obtain ⟨i1,i2⟩:=hid;have idm:(∀ s:SV,ment id s=true->id∈ids s)/\∀ l:List SV,qaf id l=true->id∈idsL l:=⟨λ s=>qm3 s,λ l=>qce l⟩;refine ⟨⟨?_,?_⟩,λ t s h=>?_,λ j lb h=>?_⟩
 ·cases e:lk S.blk id with
  | none=>rfl
  | some lb=>exact absurd (List.mem_flatMap.2 ⟨_,hmem e,by simp⟩) i2
 ·cases e:lk S.env id with
  | none=>rfl
  | some s=>exact absurd (List.mem_flatMap.2 ⟨_,hmem e,by simp⟩) i1
 ·cases e:ment id s with
  | false=>rfl
  | true=>exact absurd (List.mem_flatMap.2 ⟨_,hmem h,List.mem_cons_of_mem _ (idm.1 s e)⟩) i1
 ·cases lb with
  | row _ _ _=>rfl
  | mp _ _ _=>rfl
  | iter _ _=>rfl
  | var l=>
   cases e:qaf id l with
   | false=>exact e
   | true=>exact absurd (List.mem_flatMap.2 ⟨_,hmem h,List.mem_cons_of_mem _ (idm.2 l e)⟩) i2
theorem qa4 {α:Type}:∀ {l:List (Nat × α)} {k:Nat} {x:α},lk l k=some x->(k,x)∈l
 | [],_,_,h=>by simp[lk] at h
 | (a,b)::l,k,x,h=>by
  simp only[lk] at h;split at h
  next hk=>subst hk;cases h;simp
  ·exact List.mem_cons_of_mem _ (qa4 h)
theorem q5q (h:apB tt C ops S o=true):ApP tt C ops S o:=by
 intro h1 h2;unfold apB at h;rw[h1,h2] at h;simp only at h;split at h
 next d t hd ht=>
  simp only[Bool.and_eq_true,Bool.not_eq_true'] at h;obtain ⟨⟨ha,hs⟩,hn⟩:=h;refine ⟨d,t,hd,ht,qrl d ha,λ u hu hnu=>?_,λ r e g lo n hl=>?_⟩
  ·have:=List.all_eq_true.1 hn u hu;rw[hnu] at this;exact qrl u (by simpa using this)
  unfold q4o at hs;rw[hl] at hs;simp only[Bool.and_eq_true,Bool.not_eq_true'] at hs;obtain ⟨⟨h5,h3⟩,h4⟩:=hs;refine ⟨by simpa using h5,λ u s hu hs=>?_,λ j lb hl=>?_⟩
  ·have:=List.all_eq_true.1 h3 _ (qa4 hs);simp only[Bool.or_eq_true,Bool.not_eq_true'] at this;rcases this with q | q
   ·have:u ∉ wA C ops o:=by simpa using q
    exact absurd hu this
   ·exact q
  ·have:=List.all_eq_true.1 h4 _ (qa4 hl)
   cases lb with
   | var l=>simpa [qa8] using this
   | row _ _ _=>rfl
   | mp _ _ _=>rfl
   | iter _ _=>rfl
 ·cases h
theorem q1e (h:stB0 tt C ops S o=true):StP0 tt C ops S o:=by
 intro h1 h2 h3 t ht s hs id hm;unfold stB0 at h;have he:(wS C ops o).isEmpty=false:=by cases q:wS C ops o with | nil=>exact absurd q h3 | cons _ _=>rfl
 rw[h1,h2,he] at h;simp only[Bool.not_false,Bool.and_self] at h;obtain ⟨i,hi,hg⟩:=Array.mem_iff_getElem.1 ht;have:=(Array.all_eq_true.1 h) i hi;rw[hg] at this;simp only[hs] at this;have:=List.all_eq_true.1 this id (qm3 s hm);simp only[Bool.and_eq_true] at this;refine ⟨λ u s' hu hs'=>?_,λ j lb hl=>?_⟩
 ·have:=List.all_eq_true.1 this.1 u hu;rw[hs'] at this;simpa using this
 ·have:=List.all_eq_true.1 this.2 _ (qa4 hl)
  cases lb with
  | var l=>
   cases e:qaf id l with
   | false=>exact e
   | true=>
    have hm2:=qce l e;simp only[idsB,Bool.not_eq_true'] at this;have:id ∉ idsL l:=by simpa using this
    exact absurd hm2 this
  | row _ _ _=>rfl
  | mp _ _ _=>rfl
  | iter _ _=>rfl
theorem q4m (h:stB tt G C ops S o=true):StP tt G C ops S o:=by
 unfold stB at h;rw[Bool.and_eq_true] at h;refine ⟨q1e h.1,λ h1 h2=>?_⟩;have h:=h.2;unfold ciB at h;rw[h1,h2] at h;simp only[Bool.and_eq_true] at h;refine ⟨λ id hid=>?_,λ u hu hn=>?_⟩
 ·have:=List.all_eq_true.1 h.1 id hid;simp only[Bool.and_eq_true,Bool.not_eq_true'] at this;obtain ⟨⟨q1,q2⟩,q3⟩:=this;refine ⟨by simpa using q1,λ u s hu hs=>?_,λ j lb hj hl=>?_⟩
  ·have:=List.all_eq_true.1 q2 _ (qa4 hs);simp only[Bool.or_eq_true,Bool.not_eq_true'] at this;rcases this with q | q
   ·have:u ∉ wA C ops o:=by simpa using q
    exact absurd hu this
   ·exact q
  ·have:=List.all_eq_true.1 q3 _ (qa4 hl);have hjf:(ciT C (pv G S.env) S.blk o).contains j=false:=by simpa using hj
   simp only[hjf,Bool.false_or] at this
   cases lb with
   | var l=>simpa [qa8] using this
   | row _ _ _=>rfl
   | mp _ _ _=>rfl
   | iter _ _=>rfl
 ·have:=List.all_eq_true.1 h.2 u hu;rw[hn] at this;exact qrl u (by simpa using this)
theorem q0j {x y:Oper} {i u:Nat} (hy:ops[i]?=some y) (h:(nw C ops y&&qbj y&&x.apart ops y)=true) (hnl:qds tt y=false) (hu:y.dst=some u):u∈dA tt C ops x:=by
 refine List.mem_flatMap.2 ⟨y,Array.mem_toList_iff.2 (Array.mem_of_getElem? hy),?_⟩;rw[h,hnl];rw[hu];simp
theorem qqi {x y:Oper} {i u:Nat} (hy:ops[i]?=some y) (h:(nw C ops y&&qbj y&&x.apart ops y)=true) (hu:u∈y.looksAt ops\/y.dst=some u):u∈wA C ops x:=by
 refine List.mem_flatMap.2 ⟨y,Array.mem_toList_iff.2 (Array.mem_of_getElem? hy),?_⟩;rw[h];rcases hu with hu | hu
 ·exact List.mem_append_right _ hu
 ·rw[hu];simp
theorem qsp {b1 b2:List (Nat × LB)} {e:Sh} {s:SV} (h:∀ id,ment id s=true->lk b1 id=lk b2 id):newL b1 e s=newL b2 e s:=by
 cases s with
 | win r e' id lo n=>simp only[newL,h id (by simp[ment])]
 | _=>simp only[newL]
theorem qch (ha:apOp o=true):(∃ c,o.op=.call c/\c.callee=.builtin .append)/\o.guard=none/\∃ d,o.dst=some d:=by
 unfold apOp at ha;split at ha
 next c hc=>
  split at ha
  next hcal=>simp only[Bool.and_eq_true,Option.isNone_iff_eq_none,Option.isSome_iff_exists] at ha;exact ⟨⟨c,hc,hcal⟩,ha.1,ha.2⟩
  ·cases ha
 ·cases ha
theorem qwx {α:Type} {a:Option α} {l:List (Option α)} {s:α} {r:List α} (h:allS (a::l)=some (s::r)):a=some s:=by
 cases a with
 | none=>simp[allS] at h
 | some a=>
  simp only[allS] at h;split at h
  ·cases h;rfl
  ·cases h
theorem qu4 {ρ:Operand->Option SV} {b:List (Nat × LB)} {d:Nat} {cs:List Prop} {r:Option SV} {a:Ac} (ha:apOp o=true) (h:pW tt ρ b (some d) o=some (cs,(r,a))) :
  (∃ e n et gone xs,r=some (.win true e d 0 n)/\a=.fresh gone (.row et e xs)/\∀ g,gone=some g->(∃ et e xs,lk b g=some (.row et e xs))/\∀ t,argT o=some t->∃ r e lo n,ρ (.tmp t)=some (.win r e g lo n)) /\
  ∀ {b2:List (Nat × LB)},AgB ρ b2 b o->pW tt ρ b2 (some d) o=some (cs,(r,a)):=by
 obtain ⟨⟨c,hc,hcal⟩,_⟩:=qch ha;unfold pW at h |-;simp only[hc,hcal] at h |-;split at h
 next s x t0 t1 h1 h2 h3=>
  split at h
  next et h4=>
   split at h
   next h5=>
    split at h
    next ti h6=>
     split at h
     next cs0 ys h7=>
      split at h
      next h8=>
       have hmem:=qhi h1;have hx:∀ {b2:List (Nat × LB)},AgB ρ b2 b o->newL b2 ti.sh x=newL b ti.sh x:=λ hb=>qsp λ id hid=>by
        obtain ⟨y,hy,hyx⟩:=hmem x (by simp);exact hb y (by simp[hc,Op.operands,Call.operands,hy]) _ hyx id hid
       have harg:∀ t,argT o=some t->ρ (.tmp t)=some s:=by
        intro t ht;unfold argT at ht;rw[hc] at ht;simp only at ht;split at ht
        next t' l hl=>cases ht;unfold qbb at h1;rw[hl,List.map_cons] at h1;exact qwx h1
        ·cases ht
       split at h
       ·cases h;refine ⟨⟨_,_,_,_,_,rfl,rfl,λ g hg=>by cases hg⟩,fun {b2} hb=>?_⟩;simp only[h1,h2,h3,h4,h5,if_true,h6,hx hb,h7,if_pos h8]
       next r0 e0 id lo n0=>
        split at h
        next et' e' xs hl=>
         split at h
         next hee=>
          split at h
          next hcond=>
           cases h;refine ⟨⟨_,_,_,_,_,rfl,rfl,λ g hg=>by cases hg;exact ⟨⟨_,_,_,hl⟩,λ t ht=>⟨_,_,_,_,harg t ht⟩⟩⟩,fun {b2} hb=>?_⟩;have hl2:lk b2 id=lk b id:=by
            obtain ⟨y,hy,hyx⟩:=hmem (.win r0 e0 id lo n0) (by simp);exact hb y (by simp[hc,Op.operands,Call.operands,hy]) _ hyx id (by simp[ment])
           rw[hl] at hl2;simp only[h1,h2,h3,h4,h5,if_true,h6,hx hb,h7,if_pos h8,hl2,dif_pos hee,if_pos hcond]
          ·cases h
         ·cases h
        ·cases h
       ·cases h
      ·cases h
     ·cases h
    ·cases h
   ·cases h
  ·cases h
 ·cases h
def qhu (gone:Option Nat) (s:SV):SV:=match gone with
 | some g=>Px.kill g s
 | none=>s
theorem qy3 {d:Nat} {s:SV} {et:TypeId} {e:Sh} {xs:List e.D} {gone:Option Nat} (hf:Fre d S) (h2:∀ g,gone=some g->∀ j lb,lk S.blk j=some lb->qa8 g lb=false) :
  (∀ u,lk ((S.fresh gone d (.row et e xs)).with d s).env u=if u=d then some s else if gone=some u then none else (lk S.env u).map (qhu gone)) /\
  ∀ u,lk ((S.fresh gone d (.row et e xs)).with d s).blk u=if u=d then some (.row et e xs) else if gone=some u then none else lk S.blk u:=by
 obtain ⟨⟨f1,f0⟩,f2,f3⟩:=hf
 cases gone with
 | none=>
  constructor
  ·intro u;simp only[PS.with,PS.fresh,PS.kill,qan,qaq,qbu];by_cases hu:u=d
   ·rw[if_pos hu,if_pos hu]
   ·rw[if_neg hu,if_neg hu,if_neg hu,if_neg (by simp)]
    cases e':lk S.env u with
    | none=>rfl
    | some x=>simp[qel x (f2 u x e'),qhu]
  ·intro u;simp only[PS.with,PS.fresh,PS.kill,qan,qaq,qbu];by_cases hu:u=d
   ·rw[if_pos hu,if_pos hu]
   ·rw[if_neg hu,if_neg hu,if_neg hu,if_neg (by simp)]
    cases e':lk S.blk u with
    | none=>rfl
    | some x=>simp[qem (f3 u x e')]
 | some g=>
  have h2:=h2 g rfl;constructor
  ·intro u;simp only[PS.with,PS.fresh,PS.kill,qan,qaq,qbu];by_cases hu:u=d
   ·rw[if_pos hu,if_pos hu]
   ·rw[if_neg hu,if_neg hu,if_neg hu];by_cases hug:u=g
    ·subst hug;simp
    ·rw[if_neg hug,if_neg (by simp;exact λ q=>hug q.symm)]
     cases e':lk S.env u with
     | none=>rfl
     | some x=>simp[qel _ (qod x (f2 u x e')),qhu]
  ·intro u;simp only[PS.with,PS.fresh,PS.kill,qan,qaq,qbu];by_cases hu:u=d
   ·rw[if_pos hu,if_pos hu]
   ·rw[if_neg hu,if_neg hu,if_neg hu];by_cases hug:u=g
    ·subst hug;simp
    ·rw[if_neg hug,if_neg (by simp;exact λ q=>hug q.symm)]
     cases e':lk S.blk u with
     | none=>rfl
     | some x=>simp[qem (h2 u x e'),qem (f3 u x e')]
theorem qve (ha:apOp o=true) (ρ:Operand->Option SV) (b:List (Nat × LB)):pA tt ρ o=none/\pR tt ρ b o=none/\(∀ d,pF tt ρ d o=none)/\nw C ops o=false:=by
 obtain ⟨⟨c,hc,hcal⟩,_⟩:=qch ha;obtain ⟨dst,op,type,pos,after,guard⟩:=o;cases hc;refine ⟨?_,?_,λ d=>?_,?_⟩
 ·simp only[pA,hcal]
 ·simp only[pR]
 ·simp only[pF]
 ·simp only[nw,nonW,hcal,Bool.false_and]
theorem q3g (ha:apOp o=true):isSt o=false:=by
 obtain ⟨⟨c,hc,_⟩,_⟩:=qch ha;unfold isSt;rw[hc]
theorem qc3 {wd:Bool} (hl:qds tt o=true) (hc:qbj o=true) {cs:List Prop} {s:SV} {news:List (Nat × LB)} (h:effW tt G C ops S o wd=some (cs,(s,news))):news=[]:=by
 cases wd with
 | false=>cases h;rfl
 | true=>
  have h:effN tt G C ops S o=some (cs,(s,news)):=h
  cases hsh:shO ops o with
  | true=>exact (ql3 hsh h).2
  | false=>
  rw[qgj hsh] at h;unfold qe2 at h;split at h
  ·cases h;rfl
  ·split at h
   ·cases h;rfl
   ·split at h
    next d hd=>
     split at h
     next cs' s' lb e=>
      exfalso;unfold pF at e;unfold qds at hl;split at e <;> (rename_i hop;simp only[hop] at hl)
      all_goals first | cases hl | skip
      ·split at e
       next hk _ _=>rw[hk] at hl;cases hl
       ·cases e
      all_goals cases e
     ·exfalso;unfold exC at h;split at h
      next c hop=>
       split at h
       next fo hcal=>simp[qbj,hop,hcal] at hc
       ·cases h
      ·cases h
    ·cases h
theorem qmg (ha:apOp o=true) (hn:qhp tt C ops=true) (ho:ops[i]?=some o) {d:Nat} (hd:o.dst=some d):(∀ {S':PS},StpD tt G C ops n i S S'->(d<n/\d<500000)/\ApP tt C ops S o/\∃ cs s gone lb,pW tt (pv G S.env) S.blk (some d) o=some (cs,(some s,.fresh gone lb))/\(∀ c∈cs,c)/\S'=(S.fresh gone d lb).with d s) /\
  ∀ {cs s gone lb},(d<n/\d<500000)->ApP tt C ops S o->pW tt (pv G S.env) S.blk (some d) o=some (cs,(some s,.fresh gone lb))->(∀ c∈cs,c)->StpD tt G C ops n i S ((S.fresh gone d lb).with d s):=by
 obtain ⟨⟨c,hc,hcal⟩,hg,_⟩:=qch ha;obtain ⟨e1,e2,e3,e5⟩:=qve (tt:=tt) (C:=C) (ops:=ops) ha (pv G S.env) S.blk;have hno:∀ d',exC C (pv G S.env) S.blk d' o=none/\exI G.mt C (pv G S.env) S d' o=none:=λ d'=>⟨by simp only[exC,hc,hcal],by simp only[exI,hc,hcal]⟩
 constructor
 ·rintro S' ⟨o',ho',hdd,hs,h⟩;rw[ho] at ho';cases ho';have go:ExD tt G C ops S o S'->(d<n/\d<500000)/\ApP tt C ops S o/\∃ cs s gone lb,pW tt (pv G S.env) S.blk (some d) o=some (cs,(some s,.fresh gone lb))/\(∀ c∈cs,c)/\S'=(S.fresh gone d lb).with d s:=by
   rintro (⟨h,_⟩ | ⟨_,⟨cs,h1,h2⟩,hap,_⟩)
   ·rw[e5] at h;cases h
   ·refine ⟨hdd d hd,hap,?_⟩;unfold qbe qe1 exO at h1;simp only[e1,e2,hd,e3,(hno d).1,(hno d).2] at h1
    cases hw:pW tt (pv G S.env) S.blk (some d) o with
    | none=>simp[hw] at h1
    | some r=>
     obtain ⟨c0,r0,a0⟩:=r;obtain ⟨⟨_,_,_,gone,_,rfl,rfl,_⟩,_⟩:=qu4 ha hw;simp only[hw] at h1;cases h1;exact ⟨_,_,_,_,rfl,h2,rfl⟩
  rcases h with ⟨_,h⟩ | ⟨j,want,d,b,hgd,_⟩ | ⟨j,want,d,hgd,_⟩
  ·exact go h
  ·rw[hg] at hgd;cases hgd
  ·rw[hg] at hgd;cases hgd
 ·intro cs s gone lb hdn hap hw hc2;refine ⟨o,ho,λ d' hd'=>by rw[hd] at hd';cases hd';exact hdn,by simp[e5],.inl ⟨hg,.inr ⟨e5,⟨cs,?_,hc2⟩,hap,⟨(λ hq=>by rw[q3g ha] at hq;cases hq),q25 (q5p ha)⟩⟩⟩⟩;unfold qbe qe1 exO;simp only[e1,e2,hd,e3,hw]
theorem qgy {wd:Bool} (hc:qbj o=true) {cs:List Prop} {s:SV} {news:List (Nat × LB)} (h:effW tt G C ops S o wd=some (cs,(s,news))):∀ p∈news,o.dst=some p.1:=by
 cases wd with
 | false=>cases h;simp
 | true=>
  have h:effN tt G C ops S o=some (cs,(s,news)):=h
  cases hsh:shO ops o with
  | true=>rw[(ql3 hsh h).2];simp
  | false=>
  rw[qgj hsh] at h;unfold qe2 at h;split at h
  ·cases h;simp
  ·split at h
   ·cases h;simp
   ·split at h
    next d hd=>
     split at h
     ·cases h;simp[hd]
     ·exfalso;unfold exC at h;split at h
      next c hop=>
       split at h
       next fo hcal=>simp[qbj,hop,hcal] at hc
       ·cases h
      ·cases h
    ·cases h
theorem qd9 {wd:Bool} (ht:TTOK P tt) (hc:qbj o=true) {cs:List Prop} {s:SV} {news:List (Nat × LB)} {id:Nat} (h:effW tt G C ops S o wd=some (cs,(s,news))) (hcl:Cl id (pv G S.env) o) (hb:∀ j lb,lk S.blk j=some lb->qa8 id lb=false) (hn:o.dst≠some id):ment id s=false/\∀ p∈news,qa8 id p.2=false:=by
 cases wd with
 | false=>cases h;exact ⟨rfl,by simp⟩
 | true=>
  have hne:=qgy (wd:=true) hc h;have h:effN tt G C ops S o=some (cs,(s,news)):=h
  cases hsh:shO ops o with
  | true=>
   obtain ⟨h1,rfl⟩:=ql3 hsh h;obtain ⟨d,e0,et,e,xs,cs0,e1,l,_,_,_,_,rfl⟩:=qvx h1;exact ⟨rfl,by simp⟩
  | false=>
  rw[qgj hsh] at h;unfold qe2 at h;split at h
  next e=>cases h;exact ⟨qmw ht e hcl,by simp⟩
  ·split at h
   next e=>cases h;exact ⟨qmt e hcl hb,by simp⟩
   ·split at h
    next d hd=>
     split at h
     next e=>cases h;obtain ⟨a,b⟩:=qhj ht e hcl;exact ⟨a (λ q=>hn (by rw[hd,q])),by simpa using b⟩
     ·exfalso;unfold exC at h;split at h
      next c hop=>
       split at h
       next fo hcal=>simp[qbj,hop,hcal] at hc
       ·cases h
      ·cases h
    ·cases h
theorem ql1 {wd:Bool} {D:List Nat} (ht:TTOK P tt) (hc:qbj o=true) {cs:List Prop} {s:SV} {news:List (Nat × LB)} {id:Nat} (h:effW tt G C ops S o wd=some (cs,(s,news))) (hcl:Cl id (pv G S.env) o) (hD:∀ t,.tmp t∈o.op.operands->∀ s,lk S.env t=some s->∀ i,i∈D->ment i s=false) (hb:∀ j lb,j ∉ D->lk S.blk j=some lb->qa8 id lb=false) (hn:o.dst≠some id):ment id s=false/\∀ p∈news,qa8 id p.2=false:=by
 have h':effW tt G C ops ⟨S.env,rmL S.blk D⟩ o wd=some (cs,(s,news)):=by
  cases wd with
  | true=>
   refine (qij (S:=S) (T:=⟨S.env,rmL S.blk D⟩) (qlg λ t _=>rfl) (qwy λ t ht s hs i hm=>?_)).trans h
   show lk (rmL S.blk D) i=lk S.blk i
   rw[qkl,if_neg];intro hi;have:=hD t ht s hs i hi;rw[hm] at this;cases this
  | false=>exact h
 refine qd9 (S:=⟨S.env,rmL S.blk D⟩) ht hc h' hcl (λ j lb hl=>?_) hn;have hl:lk (rmL S.blk D) j=some lb:=hl;rw[qkl] at hl;split at hl
 ·cases hl
 next hj=>exact hb j lb hj hl
theorem qq6 {ρ1 ρ2:Operand->Option SV} {b:List (Nat × LB)} {d:Option Nat} (ha:apOp o=true) (h:AgO ρ1 ρ2 o):pW tt ρ1 b d o=pW tt ρ2 b d o:=by
 obtain ⟨⟨c,hc,hcal⟩,_⟩:=qch ha;have hp:qbb ρ1 c.args=qbb ρ2 c.args:=qb2 λ x hx=>h x (by simp[hc,Op.operands,Call.operands,hx])
 unfold pW;simp only[hc,hcal,hp]
theorem qo1 {S:PS} {o:Oper} {id:Nat} (h:∀ t s,.tmp t∈o.op.operands->lk S.env t=some s->ment id s=false):Cl id (pv G S.env) o:=by
 intro x hx s hs
 cases x with
 | tmp t=>exact h t s hx hs
 | const v=>
  simp only[pv] at hs;unfold cv at hs;split at hs <;> first | (cases hs;rfl) | cases hs
 | global g=>
  simp only[pv] at hs;rw[Option.map_eq_some_iff] at hs;obtain ⟨y,_,rfl⟩:=hs;rfl
 | func f=>simp only[pv,Option.some.injEq] at hs;subst hs;rfl
theorem qh4 {t:Nat} (h:argT o=some t):t∈o.looksAt ops:=by
 unfold argT at h;split at h
 next c hc=>
  split at h
  next t' l hl=>
   cases h;refine qai ?_;have hm:Operand.tmp t∈c.args:=by rw[<- Array.mem_toList_iff,hl];simp
   simp[hc,Op.operands,Call.operands,hm]
  ·cases h
 ·cases h
theorem qkm {α:Type} {l:List (Nat × α)} {u:Nat} (h:∀ p∈l,p.1≠u):lk l u=none:=by
 cases e:lk l u with
 | none=>rfl
 | some x=>exact absurd rfl (h _ (qa4 e))
theorem q4j (ht:TTOK P tt) {j:Nat} {oi oj:Oper} {x x1 x2:PS} (hi:ops[i]?=some oi) (hj:ops[j]?=some oj) (hs:swA tt C ops oj oi=true) (h1:StpD tt G C ops n j x x1) (h2:StpD tt G C ops n i x1 x2) :
  ∃ x3 x4,StpD tt G C ops n i x x3/\StpD tt G C ops n j x3 x4/\Eqv x2 x4:=by
 unfold swA at hs;split at hs
 rotate_left
 ·cases hs
 rename_i hc;simp only[Bool.and_eq_true] at hc;obtain ⟨⟨⟨⟨ha,n2⟩,nc⟩,hap⟩,harg⟩:=hc;obtain ⟨_,_,d,hd⟩:=qch ha;obtain ⟨hdn,hapP,cs,s,gone,lb,hw,hcs,rfl⟩:=(qmg ha hs hj hd).1 h1;obtain ⟨d',t,hd',hat,hfre,hNew,hW⟩:=hapP ha hs;rw[hd] at hd';cases hd';rw[hat] at harg;have harg:t ∉ oi.looksAt ops:=by simpa using harg
 obtain ⟨⟨e,m,et,gone',xs,hr,hacc,hgone⟩,hloc⟩:=qu4 ha hw
 cases hr;cases hacc
 have hq:(nw C ops oi&&qbj oi&&oj.apart ops oi)=true:=by simp[n2,nc,hap]
 have hG:∀ g,gone=some g->g ∉ wA C ops oj/\(∀ u s,u∈wA C ops oj->lk x.env u=some s->ment g s=false)/\∀ j lb,lk x.blk j=some lb->qa8 g lb=false:=λ g hg=>by
  obtain ⟨r,e,lo,n,h⟩:=(hgone g hg).2 t hat;exact hW _ _ _ _ _ h
 have hin:∀ u,(u∈oi.looksAt ops\/oi.dst=some u)->u∈wA C ops oj:=λ u hu=>qqi hi hq hu
 have hug:∀ u,u∈wA C ops oj->¬ gone=some u:=λ u hu q=>(hG u q).1 hu
 have hko:∀ u,u∈wA C ops oj->(lk x.env u).map (qhu gone)=lk x.env u:=λ u hu=>by
  cases hl:lk x.env u with
  | none=>rfl
  | some s=>
   cases hgo:gone with
   | none=>rfl
   | some g=>simp[qhu,qel s ((hG g hgo).2.1 u s hu hl)]
 obtain ⟨ex1,bx1⟩:=qy3 (s:=.win true e d 0 m) (et:=et) (e:=e) (xs:=xs) hfre λ g hg=>(hG g hg).2.2
 obtain ⟨a1,a2⟩:=qa2 hap;obtain ⟨a1,a1'⟩:=a1 d hd;have htl:t∈oj.looksAt ops:=qh4 hat;obtain ⟨wd,r,g2,rfl⟩:=qee n2 hi h2;have hE:∀ u,u∈oi.looksAt ops->lk x.env u=lk ((x.fresh gone d (.row et e xs)).with d (.win true e d 0 m)).env u:=λ u hu=>by
  have q1:u≠d:=λ q=>a1 (q ▸ hu)
  rw[ex1,if_neg q1,if_neg (hug u (hin u (.inl hu))),hko u (hin u (.inl hu))]
 cases r with
 | none=>exact g2.run.elim
 | some pr=>
  obtain ⟨sy,news⟩:=pr;obtain ⟨csy,h5,h6,h7⟩:=g2.run;have hdst:=qgy nc h5;have hdy:∀ u,oi.dst=some u->u≠d/\u≠t:=λ u hu=>⟨λ q=>a1' (q ▸ hu),λ q=>a2 u hu (q ▸ htl)⟩
  have hnd:∀ p∈news,p.1≠d/\p.1≠t:=λ p hp=>hdy p.1 (hdst p hp)
  have hnone:∀ u,oi.dst=some u->lk x.env u=none:=λ u hq=>by
   have hsl:=g2.slot;unfold qat at hsl;rw[hq] at hsl;obtain ⟨q1,q2⟩:=hdy u hq;simp only at hsl;rw[ex1,if_neg q1,if_neg (hug u (hin u (.inr hq))),hko u (hin u (.inr hq))] at hsl;simpa using hsl
  have g3:NS tt G C ops n i oi x wd (some (sy,news)):=by
   refine g2.move hE (λ u hu s' hs' id hm=>?_) ?_ (λ s' news' e' p hp=>?_)
   ·have hul:=qai (ops:=ops) hu;rw[<- hE u hul] at hs';have hid:id≠d:=λ q=>by
     have:=hfre.2.1 u s' hs';rw[<- q,hm] at this;cases this
    have hid2:¬ gone=some id:=λ q=>by
     have:=(hG id q).2.1 u s' (hin u (.inl hul)) hs';rw[hm] at this;cases this
    rw[bx1,if_neg hid,if_neg hid2]
   ·unfold qat
    cases hq:oi.dst with
    | none=>rfl
    | some u=>simp[hnone u hq]
   ·cases e'
    refine hNew p.1 (q0j hi hq ?_ (hdst p hp)) (hnone _ (hdst p hp))
    cases hnl:qds tt oi with
    | false=>rfl
    | true=>rw[qc3 hnl nc h5] at hp;cases hp
  obtain ⟨csz,k5,k6,k7⟩:=g3.run;obtain ⟨ey,by_⟩:=qcu ht g3;have hnn:∀ u,(u=d\/gone=some u)->lk news u=none:=λ u hu=>qkm λ p hp q=>by
   obtain ⟨q1,q2⟩:=hnd p hp;rcases hu with h | h
   ·exact q1 (q.trans h)
   ·exact hug u (q ▸ hin p.1 (.inr (hdst p hp))) h
  have hm1:=qd9 (id:=d) ht nc k5 (qgz hfre) hfre.2.2 a1';have hm2:∀ r e g lo n,lk x.env t=some (.win r e g lo n)->ment g sy=false/\∀ p∈news,qa8 g p.2=false:=λ r e g lo n hl=>by
   obtain ⟨w1,w2,w3⟩:=hW r e g lo n hl;exact qd9 (id:=g) ht nc k5 (qo1 λ u s' hu hs'=>w2 u s' (hin u (.inl (qai hu))) hs') w3 (λ q=>w1 (hin g (.inr q)))
  have hAO:AgO (pv G (fin x oi (some (sy,news))).env) (pv G x.env) oj:=qlg λ u hu=>by
   rw[ey];simp only;rw[if_neg λ q=>a2 u q (qai hu)]
  have hw3:pW tt (pv G (fin x oi (some (sy,news))).env) (fin x oi (some (sy,news))).blk (some d) oj=some (cs,(some (.win true e d 0 m),.fresh gone (.row et e xs))):=by
   rw[qq6 ha hAO];refine hloc λ y hy s' hs' id hm=>?_
   rw[by_];simp only;have:lk news id=none:=qkm λ p hp q=>by
    have:=qgz (k7 p hp) (o:=oj) (G:=G) y hy s' hs';rw[q,hm] at this;cases this
   rw[this];simp
  have f3:Fre d (fin x oi (some (sy,news))):=by
   refine ⟨⟨?_,?_⟩,λ u s' hs'=>?_,λ jj l hl=>?_⟩
   ·rw[by_];simp[hnn d (.inl rfl),hfre.1.1]
   ·rw[ey];simp only;rw[if_neg a1'];exact hfre.1.2
   ·rw[ey] at hs';simp only at hs';split at hs'
    ·cases hs';exact hm1.1
    ·exact hfre.2.1 u s' hs'
   ·rw[by_] at hl;simp only at hl
    cases hl2:lk news jj with
    | none=>rw[hl2] at hl;exact hfre.2.2 jj l (by simpa using hl)
    | some l'=>rw[hl2] at hl;simp at hl;subst hl;exact hm1.2 _ (qa4 hl2)
  have hNew3:∀ u,u∈dA tt C ops oj->lk (fin x oi (some (sy,news))).env u=none->Fre u (fin x oi (some (sy,news))):=λ u hu hn=>by
   rw[ey] at hn;simp only at hn;split at hn
   ·cases hn
   next hne=>
    have hf:=hNew u hu hn;have hm:=qd9 (id:=u) ht nc k5 (qgz hf) hf.2.2 hne;have hnu:lk news u=none:=qkm λ p hp q=>hne (q ▸ hdst p hp)
    refine ⟨⟨?_,?_⟩,λ v s' hs'=>?_,λ jj l hl=>?_⟩
    ·rw[by_];simp[hnu,hf.1.1]
    ·rw[ey];simp only;rw[if_neg hne];exact hn
    ·rw[ey] at hs';simp only at hs';split at hs'
     ·cases hs';exact hm.1
     ·exact hf.2.1 v s' hs'
    ·rw[by_] at hl;simp only at hl
     cases hl2:lk news jj with
     | none=>rw[hl2] at hl;exact hf.2.2 jj l (by simpa using hl)
     | some l'=>rw[hl2] at hl;simp at hl;subst hl;exact hm.2 _ (qa4 hl2)
  have hW3:∀ r e g lo n,lk (fin x oi (some (sy,news))).env t=some (.win r e g lo n)->g ∉ wA C ops oj/\(∀ u s,u∈wA C ops oj->lk (fin x oi (some (sy,news))).env u=some s->ment g s=false)/\∀ j lb,lk (fin x oi (some (sy,news))).blk j=some lb->qa8 g lb=false:=λ r e g lo n hl=>by
   rw[ey] at hl;simp only at hl;rw[if_neg λ q=>(hdy t q).2 rfl] at hl;obtain ⟨w1,w2,w3⟩:=hW r e g lo n hl;have hm:=hm2 r e g lo n hl;refine ⟨w1,λ u s' hu hs'=>?_,λ jj l hl=>?_⟩
   ·rw[ey] at hs';simp only at hs';split at hs'
    ·cases hs';exact hm.1
    ·exact w2 u s' hu hs'
   ·rw[by_] at hl;simp only at hl
    cases hl2:lk news jj with
    | none=>rw[hl2] at hl;exact w3 jj l (by simpa using hl)
    | some l'=>rw[hl2] at hl;simp at hl;subst hl;exact hm.2 _ (qa4 hl2)
  have hap3:ApP tt C ops (fin x oi (some (sy,news))) oj:=λ _ _=>⟨d,t,hd,hat,f3,hNew3,hW3⟩
  have hG3:∀ g,gone=some g->ment g sy=false/\∀ j lb,lk (fin x oi (some (sy,news))).blk j=some lb->qa8 g lb=false:=λ g hg=>by
   obtain ⟨r,e,lo,n,h⟩:=(hgone g hg).2 t hat;refine ⟨(hm2 _ _ _ _ _ h).1,(hW3 r e g lo n ?_).2.2⟩;rw[ey];simp only;rw[if_neg λ q=>(hdy t q).2 rfl];exact h
  obtain ⟨ex3,bx3⟩:=qy3 (s:=.win true e d 0 m) (et:=et) (e:=e) (xs:=xs) f3 λ g hg=>(hG3 g hg).2
  obtain ⟨ez,bz⟩:=qcu ht g2;refine ⟨_,_,qei n2 g3,(qmg ha hs hj hd).2 hdn hap3 hw3 hcs,λ u=>?_,λ u=>?_⟩
  ·rw[ez,ex3,ey,ex1];simp only;by_cases hu:oi.dst=some u
   ·obtain ⟨q1,q2⟩:=hdy u hu;rw[if_pos hu,if_neg q1,if_neg (hug u (hin u (.inr hu))),if_pos hu]
    cases hgo:gone with
    | none=>rfl
    | some g=>simp[qhu,qel sy (hG3 g hgo).1]
   ·rw[if_neg hu,if_neg hu]
  ·rw[bz,bx3,by_,bx1];simp only;by_cases hu:u=d
   ·rw[if_pos hu,if_pos hu,hnn u (.inl hu)];rfl
   ·rw[if_neg hu,if_neg hu];by_cases hgu:gone=some u
    ·rw[if_pos hgu,if_pos hgu,hnn u (.inr hgu)];rfl
    ·rw[if_neg hgu,if_neg hgu]
theorem qks {wd:Bool} {r:Rs} (ht:TTOK P tt) (h:NS tt G C ops n i o S wd r):(∀ t s,lk S.env t=some s->lk (fin S o r).env t=some s)/\∀ t s,lk S.blk t=some s->lk (fin S o r).blk t=some s:=by
 obtain ⟨ex,bx⟩:=qcu ht h;refine ⟨λ t s hs=>?_,λ t s hs=>?_⟩
 ·rw[ex]
  cases r with
  | none=>exact hs
  | some p=>
   simp only;rw[if_neg]
   ·exact hs
   ·intro hd;have:=h.slot;simp only[qat,hd,hs] at this;cases this
 ·rw[bx]
  cases r with
  | none=>exact hs
  | some p=>
   obtain ⟨sx,nx⟩:=p;obtain ⟨cs,h5,h6,h7⟩:=h.run;have:lk nx t=none:=qkm λ q hq e=>by
    have:=(h7 q hq).1.1;rw[e,hs] at this;cases this
   simp[this,hs]
theorem StP.sub (hi:isSt o=true) (h:StP tt G C ops T o) (he:∀ t s,lk S.env t=some s->lk T.env t=some s) (hb:∀ t s,lk S.blk t=some s->lk T.blk t=some s):StP tt G C ops S o:=by
 refine ⟨?_,q25 (q1d hi)⟩;intro h1 h2 h3 t ht s hs id hm;obtain ⟨k1,k2⟩:=h.1 h1 h2 h3 t ht s (he _ _ hs) id hm;exact ⟨λ u s' hu hs'=>k1 u s' hu (he _ _ hs'),λ j lb hl=>k2 j lb (hb _ _ hl)⟩
theorem qzk {x y:Oper} {i u:Nat} (hy:ops[i]?=some y) (h:(nw C ops y&&qbj y&&qjz ops x y)=true) (hu:u∈y.looksAt ops\/y.dst=some u):u∈wS C ops x:=by
 refine List.mem_flatMap.2 ⟨y,Array.mem_toList_iff.2 (Array.mem_of_getElem? hy),?_⟩;rw[h];rcases hu with hu | hu
 ·exact List.mem_append_right _ hu
 ·rw[hu];simp
theorem q4i (ht:TTOK P tt) {j:Nat} {oi oj:Oper} {x x1 x2:PS} (hi:ops[i]?=some oi) (hj:ops[j]?=some oj) (hs:swB tt C ops oj oi=true) (h1:StpD tt G C ops n j x x1) (h2:StpD tt G C ops n i x1 x2) :
  ∃ x3 x4,StpD tt G C ops n i x x3/\StpD tt G C ops n j x3 x4/\Eqv x2 x4:=by
 unfold swB at hs;split at hs
 rotate_left
 ·cases hs
 rename_i hc;simp only[Bool.and_eq_true] at hc;obtain ⟨⟨⟨⟨⟨⟨⟨ha,n1⟩,nc⟩,nl⟩,hap⟩,hap2⟩,harg⟩,hdj⟩:=hc;obtain ⟨_,_,d,hd⟩:=qch ha;obtain ⟨wd,r,g1,rfl⟩:=qee n1 hj h1;obtain ⟨hdn,hapP,cs,s,gone,lb,hw,hcs,rfl⟩:=(qmg ha hs hi hd).1 h2;obtain ⟨subE,subB⟩:=qks ht g1;obtain ⟨ex0,bx0⟩:=qcu ht g1
 cases r with
 | none=>exact g1.run.elim
 | some pr=>
  obtain ⟨sy,news⟩:=pr;obtain ⟨csy,h5,h6,h7⟩:=g1.run;have hnews:=qc3 nl nc h5;subst hnews;have bx:∀ t,lk (fin x oj (some (sy,[]))).blk t=lk x.blk t:=λ t=>by rw[bx0];simp[lk]
  obtain ⟨d',t,hd',hat,hfre,hNew,hW⟩:=hapP ha hs;rw[hd] at hd';cases hd';rw[hat] at harg;have harg:t ∉ oj.looksAt ops:=by simpa using harg
  obtain ⟨a1,a2⟩:=qa2 hap;have htl:t∈oi.looksAt ops:=qh4 hat;have hfx:Fre d x:=hfre.sub subE (λ t s h=>by rw[bx];exact h);have hNx:∀ u,u∈dA tt C ops oi->lk x.env u=none->Fre u x:=λ u hu hn=>by
   have hne:oj.dst≠some u:=λ q=>by
    rw[q] at hdj;have:u ∉ dA tt C ops oi:=by simpa using hdj
    exact this hu
   refine (hNew u hu ?_).sub subE (λ t s h=>by rw[bx];exact h);rw[ex0];simp only;rw[if_neg hne];exact hn
  have hWx:∀ r e g lo n,lk x.env t=some (.win r e g lo n)->g ∉ wA C ops oi/\(∀ u s,u∈wA C ops oi->lk x.env u=some s->ment g s=false)/\∀ j lb,lk x.blk j=some lb->qa8 g lb=false:=λ r e g lo n hl=>by
   obtain ⟨w1,w2,w3⟩:=hW r e g lo n (subE _ _ hl);exact ⟨w1,λ u s hu hs'=>w2 u s hu (subE _ _ hs'),λ j lb hl=>w3 j lb (by rw[bx];exact hl)⟩
  have hAO:AgO (pv G (fin x oj (some (sy,[]))).env) (pv G x.env) oi:=qlg λ u hu=>by
   rw[ex0];simp only;rw[if_neg λ q=>(a1 u q).1 (qai hu)]
  have hwx:pW tt (pv G x.env) x.blk (some d) oi=some (cs,(some s,.fresh gone lb)):=by
   rw[<- qq6 ha hAO,<- hw];exact q4z λ t=>(bx t).symm
  have hapx:ApP tt C ops x oi:=λ _ _=>⟨d,t,hd,hat,hfx,hNx,hWx⟩
  obtain ⟨⟨e,m,et,gone',xs,hr,hacc,hgone⟩,hloc⟩:=qu4 ha hwx
  cases hr;cases hacc
  have hq:(nw C ops oj&&qbj oj&&oi.apart ops oj)=true:=by simp[n1,nc,hap2]
  have hG:∀ g,gone=some g->g ∉ wA C ops oi/\(∀ u s,u∈wA C ops oi->lk x.env u=some s->ment g s=false)/\∀ j lb,lk x.blk j=some lb->qa8 g lb=false:=λ g hg=>by
   obtain ⟨r,e,lo,n,h⟩:=(hgone g hg).2 t hat;exact hWx _ _ _ _ _ h
  have hin:∀ u,(u∈oj.looksAt ops\/oj.dst=some u)->u∈wA C ops oi:=λ u hu=>qqi hj hq hu
  have hug:∀ u,u∈wA C ops oi->¬ gone=some u:=λ u hu q=>(hG u q).1 hu
  have hko:∀ u,u∈wA C ops oi->(lk x.env u).map (qhu gone)=lk x.env u:=λ u hu=>by
   cases hl:lk x.env u with
   | none=>rfl
   | some s=>
    cases hgo:gone with
    | none=>rfl
    | some g=>simp[qhu,qel s ((hG g hgo).2.1 u s hu hl)]
  obtain ⟨ex1,bx1⟩:=qy3 (s:=.win true e d 0 m) (et:=et) (e:=e) (xs:=xs) hfx λ g hg=>(hG g hg).2.2
  obtain ⟨ex2,bx2⟩:=qy3 (s:=.win true e d 0 m) (et:=et) (e:=e) (xs:=xs) hfre λ g hg j lb hl=>(hG g hg).2.2 j lb (by rw[<- bx];exact hl)
  have hdy:∀ u,oj.dst=some u->u≠d:=λ u hu q=>(a1 u hu).2 (by rw[hd,q])
  have hdl:d ∉ oj.looksAt ops:=a2 d hd;have hE:∀ u,u∈oj.looksAt ops->lk ((x.fresh gone d (.row et e xs)).with d (.win true e d 0 m)).env u=lk x.env u:=λ u hu=>by
   rw[ex1,if_neg (λ q:u=d=>hdl (q ▸ hu)),if_neg (hug u (hin u (.inl hu))),hko u (hin u (.inl hu))]
  have g3:NS tt G C ops n j oj ((x.fresh gone d (.row et e xs)).with d (.win true e d 0 m)) wd (some (sy,[])):=by
   refine g1.move hE (λ u hu s' hs' id hm=>?_) ?_ (λ s' news' e' p hp=>by cases e';cases hp)
   ·have hul:=qai (ops:=ops) hu;have hid:id≠d:=λ q=>by
     have:=hfx.2.1 u s' hs';rw[<- q,hm] at this;cases this
    have hid2:¬ gone=some id:=λ q=>by
     have:=(hG id q).2.1 u s' (hin u (.inl hul)) hs';rw[hm] at this;cases this
    rw[bx1,if_neg hid,if_neg hid2]
   ·have hsl:=g1.slot;unfold qat at hsl |-
    cases hq:oj.dst with
    | none=>rfl
    | some u=>
     rw[hq] at hsl;simp only at hsl |-;rw[ex1,if_neg (hdy u hq),if_neg (hug u (hin u (.inr hq))),hko u (hin u (.inr hq))];exact hsl
  obtain ⟨ez,bz⟩:=qcu ht g3;have hms:∀ g,gone=some g->ment g sy=false:=λ g hg=>by
   refine (qd9 (id:=g) ht nc h5 (qo1 λ u s' hu hs'=>(hG g hg).2.1 u s' (hin u (.inl (qai hu))) hs') (hG g hg).2.2 (λ q=>?_)).1;exact (hG g hg).1 (hin g (.inr q))
  refine ⟨_,_,(qmg ha hs hi hd).2 hdn hapx hwx hcs,qei n1 g3,λ u=>?_,λ u=>?_⟩
  ·rw[ez,ex2,ex1,ex0];simp only;by_cases hu:oj.dst=some u
   ·rw[if_pos hu,if_neg (hdy u hu),if_neg (hug u (hin u (.inr hu))),if_pos hu]
    cases hgo:gone with
    | none=>rfl
    | some g=>simp[qhu,qel sy (hms g hgo)]
   ·rw[if_neg hu,if_neg hu]
  ·rw[bz,bx2,bx1,bx];simp[lk]
theorem q4f (ht:TTOK P tt) {j:Nat} {oi oj:Oper} {x x1 x2:PS} (hi:ops[i]?=some oi) (hj:ops[j]?=some oj) (hs:swS tt C ops oj oi=true) (h1:StpD tt G C ops n j x x1) (h2:StpD tt G C ops n i x1 x2) :
  ∃ x3 x4,StpD tt G C ops n i x x3/\StpD tt G C ops n j x3 x4/\Eqv x2 x4:=by
 unfold swS at hs;split at hs
 rotate_left
 ·cases hs
 rename_i hc;simp only[Bool.and_eq_true] at hc;obtain ⟨⟨⟨⟨s2,n1⟩,nc⟩,hap⟩,hun⟩:=hc;obtain ⟨a1,a2⟩:=qa2 hap;obtain ⟨wd,r,g1,rfl⟩:=qee n1 hj h1;obtain ⟨subE,subB⟩:=qks ht g1;obtain ⟨ex,bx⟩:=qcu ht g1;obtain ⟨hsp,id,lb,⟨cs,q2,q3⟩,rfl⟩:=(qe4 s2 hi).1 h2;have hspx:StP tt G C ops x oi:=StP.sub s2 hsp subE subB
 cases r with
 | none=>exact g1.run.elim
 | some pr=>
  obtain ⟨s,news⟩:=pr;obtain ⟨cs1,h5,h6,h7⟩:=g1.run;have hag:AgO (pv G (fin x oj (some (s,news))).env) (pv G x.env) oi:=qlg λ t htt=>by
   rw[ex];simp only;rw[if_neg λ hd=>(a1 t hd).1 (qai htt)]
  rw[qf0 s2 hag] at q2;obtain ⟨⟨xo,hxo,so,hso,hmo⟩,hsm,hmv,hml⟩:=qzw (b2:=x.blk) s2 q2;have hids:∀ p∈news,p.1≠id:=λ p hp e=>by
   have:=qgz (h7 p hp) (o:=oi) (G:=G) xo hxo so hso;rw[e,hmo] at this;cases this
  have hnone:lk news id=none:=qkm hids;have hbl:lk (fin x oj (some (s,news))).blk id=lk x.blk id:=by rw[bx];simp[hnone]
  have hst:StR tt G x oi id lb:=⟨cs,hmv hbl.symm,q3⟩;have hd3:=(qe4 (C:=C) (n:=n) s2 hi).2 hspx hst;have hw:∀ u,u∈oj.looksAt ops->u∈wS C ops oi:=λ u hu=>qzk hj (by simp[n1,nc,hun]) (.inl hu)
  have hfree:∀ u s',u∈oj.looksAt ops->lk x.env u=some s'->ment id s'=false:=λ u s' hu hs'=>by
   cases xo with
   | tmp t=>
    exact (hspx.1 s2 hs (λ q=>by have:=hw u hu;rw[q] at this;cases this) t hxo so hso id hmo).1 u s' (hw u hu) hs'
   | const v=>
    simp only[pv] at hso;unfold cv at hso;split at hso <;> first | (cases hso;simp[ment] at hmo;done) | cases hso
   | global g=>
    simp only[pv] at hso;rw[Option.map_eq_some_iff] at hso;obtain ⟨y,_,rfl⟩:=hso;simp[ment] at hmo
   | func f=>simp only[pv,Option.some.injEq] at hso;subst hso;simp[ment,qaf] at hmo
  have g3:NS tt G C ops n j oj ⟨x.env,st x.blk id lb⟩ wd (some (s,news)):=by
   refine g1.move (λ _ _=>rfl) (λ u hu s' hs' id' hm=>?_) g1.slot (λ s' news' e' p hp=>?_)
   ·show lk (st x.blk id lb) id'=_
    rw[qan,if_neg λ q=>?_];rw[q,hfree u s' (qai hu) hs'] at hm;cases hm
   ·cases e'
    obtain ⟨⟨f1,f0⟩,f2,f3⟩:=h7 p hp;refine ⟨⟨?_,f0⟩,f2,λ jj l hl=>?_⟩
    ·show lk (st x.blk id lb) p.1=none
     rw[qan,if_neg (hids p hp)];exact f1
    ·have hl:lk (st x.blk id lb) jj=some l:=hl;rw[qan] at hl;split at hl
     ·cases hl;exact hml p.1 (λ l hl=>f3 id l (by rw[<- hbl];exact hl)) (qgz (h7 p hp) (o:=oi) (G:=G))
     ·exact f3 jj l hl
  obtain ⟨ey,by_⟩:=qcu ht g3;refine ⟨_,_,hd3,qei n1 g3,λ t=>?_,λ t=>?_⟩
  ·rw[ey]
   show lk (fin x oj (some (s,news))).env t=_
   rw[ex]
  ·rw[by_]
   show lk (st (fin x oj (some (s,news))).blk id lb) t=(lk news t).or (lk (st x.blk id lb) t)
   rw[qan,qan];by_cases e:t=id
   ·subst e;simp[hnone]
   ·rw[if_neg e,if_neg e,bx]
theorem qik (h:ciOp C o=true):∃ c f d ct,o.op=.call c/\c.callee=.value (.func f)/\o.dst=some d/\o.guard=none/\lk C f=some (.inr ct):=by
 unfold ciOp at h;split at h
 next c d hop hd=>
  split at h
  next f hcal=>
   split at h
   next ct hl=>exact ⟨c,f,d,ct,hop,hcal,hd,by simpa using h,hl⟩
   ·cases h
  ·cases h
 ·cases h
theorem q24 (h:ciOp C o=true):nw C ops o=false:=by
 obtain ⟨c,f,d,ct,h1,h2,h3,h4,h5⟩:=qik h
 cases hq:nw C ops o with
 | false=>rfl
 | true=>
  have hq:=qmz hq;unfold nonW at hq;rw[h1] at hq;simp only[h2] at hq;have:=List.all_eq_true.1 hq _ (qa4 h5);simp at this
theorem q5k (h:ciOp C o=true):qe1 tt G C S o=none:=by
 obtain ⟨c,f,d,ct,h1,h2,h3,h4,h5⟩:=qik h;obtain ⟨dst,op,type,pos,after,guard⟩:=o;simp only at h1 h3;subst h1;subst h3;obtain ⟨cal,args,ts⟩:=c;simp only at h2;subst h2;have e:exC C (pv G S.env) S.blk d ⟨some d,.call ⟨.value (.func f),args,ts⟩,type,pos,after,guard⟩=none:=by
  unfold exC;simp only[pv,h5];split <;> first | rfl | (split <;> first | rfl | simp_all)
 unfold qe1 exO;simp only[pA,pR,pF,pW,e]
theorem qyz (h:ciOp C o=true) {d:Nat} (hd:o.dst=some d) {cs:List Prop} {S':PS}:qbe tt G C S o=some (cs,S') ↔
  ∃ c f l ct cs0 ns x,o.op=.call c/\c.callee=.value (.func f)/\qbb (pv G S.env) c.args=some l/\qcz f S.blk l C=some ⟨ct,(cs0,(ns,x))⟩ /\
   (okI d (cntL ct.args) ns (ct.out x) (ct.blk x)&&decide (d<500000))=true/\cs=cs0++[ct.pre x]/\S'=(qbx S d ns (ct.blk x)).with d (one (renSL (rnI d ns) (ct.out x))):=by
 obtain ⟨c,f,d',ct,h1,h2,h3,h4,h5⟩:=qik h;rw[hd] at h3;cases h3;unfold qbe;rw[q5k h];simp only[hd];unfold exI;simp only[h1,h2,pv,List.nil_append,List.append_nil,List.all_nil,Bool.true_and];constructor
 ·intro q;split at q
  next f' a k l e1 e2=>
   cases e1;split at q
   next ct' cs0 ns x e3=>
    simp only[List.nil_append,List.append_nil] at e3;split at q
    next hc=>cases q;simp only[List.all_nil,Bool.true_and] at hc;exact ⟨c,f,l,ct',cs0,ns,x,rfl,h2,e2,e3,hc,rfl,rfl⟩
    ·cases q
   ·cases q
  ·cases q
 ·rintro ⟨c',f',l,ct',cs0,ns,x,e1,e2,e3,e4,e5,rfl,rfl⟩;cases e1;rw[h2] at e2;cases e2;rw[e3];simp only[List.nil_append,List.append_nil,e4,List.all_nil,Bool.true_and];rw[if_pos e5]
theorem ci_N {d:Nat} {c:Call} {f:FuncId} {l:List SV} {ct:CtrI} {cs0:List Prop} {ns:List (Option Nat)} {x:DI ct.args} {ρ:Operand->Option SV} {b:List (Nat × LB)} (hd:o.dst=some d) (h1:o.op=.call c) (h2:c.callee=.value (.func f)) (h3:qbb ρ c.args=some l) (h4:qcz f b l C=some ⟨ct,(cs0,(ns,x))⟩) :
  ciN C ρ b o=ns.filterMap id++newN d ns (ct.blk x):=by
 unfold ciN;simp only[h1,hd,h2,h3,h4]
theorem ci_T {c:Call} {f:FuncId} {l:List SV} {ct:CtrI} {cs0:List Prop} {ns:List (Option Nat)} {x:DI ct.args} {ρ:Operand->Option SV} {b:List (Nat × LB)} (h1:o.op=.call c) (h2:c.callee=.value (.func f)) (h3:qbb ρ c.args=some l) (h4:qcz f b l C=some ⟨ct,(cs0,(ns,x))⟩) :
  ciT C ρ b o=ns.filterMap id:=by
 unfold ciT;simp only[h1,h2,h3,h4]
theorem qmf (hci:ciOp C o=true) (ho:ops[i]?=some o) {d:Nat} (hd:o.dst=some d):(∀ {S':PS},StpD tt G C ops n i S S'->(d<n/\d<500000)/\CiP tt G C ops S o/\∃ cs,qbe tt G C S o=some (cs,S')/\∀ c∈cs,c) /\
  ∀ {S':PS} {cs},(d<n/\d<500000)->CiP tt G C ops S o->qbe tt G C S o=some (cs,S')->(∀ c∈cs,c)->StpD tt G C ops n i S S':=by
 obtain ⟨c,f,d',ct,h1,h2,h3,hg,h5⟩:=qik hci;constructor
 ·rintro S' ⟨o',ho',hdd,hs,h⟩;rw[ho] at ho';cases ho';have go:ExD tt G C ops S o S'->(d<n/\d<500000)/\CiP tt G C ops S o/\∃ cs,qbe tt G C S o=some (cs,S')/\∀ c∈cs,c:=by
   rintro (⟨h,_⟩ | ⟨_,⟨cs,h1,h2⟩,_,hsp⟩)
   ·rw[q24 hci] at h;cases h
   ·exact ⟨hdd d hd,hsp.2,cs,h1,h2⟩
  rcases h with ⟨_,h⟩ | ⟨j,want,d,b,hgd,_⟩ | ⟨j,want,d,hgd,_⟩
  ·exact go h
  ·rw[hg] at hgd;cases hgd
  ·rw[hg] at hgd;cases hgd
 ·intro S' cs hdn hP hx hc2;have nap:apOp o=false:=by
   cases q:apOp o with
   | false=>rfl
   | true=>rw[q5p q] at hci;cases hci
  have nst:isSt o=false:=by
   cases q:isSt o with
   | false=>rfl
   | true=>rw[q1d q] at hci;cases hci
  exact ⟨o,ho,λ d' hd'=>by rw[hd] at hd';cases hd';exact hdn,by simp[q24 hci],.inl ⟨hg,.inr ⟨q24 hci,⟨cs,hx,hc2⟩,(λ q=>by rw[nap] at q;cases q),⟨(λ q=>by rw[nst] at q;cases q),hP⟩⟩⟩⟩
def qkn:List Nat->SV->SV
 | [],s=>s
 | i::l,s=>qkn l (kill i s)
theorem qfi:∀ (D:List Nat) {s:SV},(∀ i∈D,ment i s=false)->qkn D s=s
 | [],_,_=>rfl
 | i::D,s,h=>by
  rw[qkn,qel s (h i (by simp))];exact qfi D λ j hj=>h j (by simp[hj])
theorem qrf:∀ (D:List Nat) {S:PS},(∀ i∈D,∀ j lb,lk S.blk j=some lb->qa8 i lb=false) ->
  (∀ t,lk (killA D S).env t=if t∈D then none else (lk S.env t).map (qkn D))/\∀ t,lk (killA D S).blk t=if t∈D then none else lk S.blk t
 | [],S,_=>⟨λ t=>by simp only[killA,List.not_mem_nil,if_false];cases lk S.env t <;> rfl,λ t=>by simp[killA]⟩
 | i::D,S,h=>by
  have hb:∀ t,lk (S.kill i).blk t=if t=i then none else lk S.blk t:=λ t=>by
   simp only[PS.kill,qaq,qbu];by_cases e:t=i
   ·simp[e]
   ·rw[if_neg e]
    cases hl:lk S.blk t with
    | none=>simp[e]
    | some lb=>simp[e,qem (h i (by simp) t lb hl)]
  obtain ⟨k1,k2⟩:=qrf D (S:=S.kill i) λ j hj t lb hl=>by
   rw[hb] at hl;split at hl
   ·cases hl
   ·exact h j (by simp[hj]) t lb hl
  constructor
  ·intro t;rw[killA,k1];simp only[PS.kill,qaq,qbu,List.mem_cons];by_cases e1:t∈D
   ·simp[e1]
   ·by_cases e2:t=i
    ·simp[e2]
    ·simp only[e1,e2,or_self,if_false]
     cases lk S.env t <;> rfl
  ·intro t;rw[killA,k2,hb];simp only[List.mem_cons];by_cases e1:t∈D
   ·simp[e1]
   ·by_cases e2:t=i
    ·simp[e2]
    ·simp[e1,e2]
theorem qjv {d:Nat} {ns:List (Option Nat)} {blk:List (Nat × LB)} {v:SV} (h:∀ i∈qea d ns blk,∀ j lb,j ∉ ns.filterMap id->lk S.blk j=some lb->qa8 i lb=false) :
  (∀ t,lk ((qbx S d ns blk).with d v).env t=if t=d then some v else if t∈qea d ns blk then none else (lk S.env t).map (qkn (qea d ns blk))) /\
  ∀ t,lk ((qbx S d ns blk).with d v).blk t=match lk (qgr (rnI d ns) blk) t with
   | some b=>some b
   | none=>if t∈qea d ns blk then none else if t∈ns.filterMap id then none else lk S.blk t:=by
 obtain ⟨k1,k2⟩:=qrf (qea d ns blk) (S:=⟨S.env,rmL S.blk (ns.filterMap id)⟩) λ i hi j lb hl=>by
  rw[qkl] at hl;split at hl
  ·cases hl
  next hj=>exact h i hi j lb hj hl
 constructor
 ·intro t
  show lk (st (killA _ _).env d v) t=_
  rw[qan];split
  ·rfl
  ·exact k1 t
 ·intro t
  show lk (stL _ (killA _ _).blk) t=_
  rw[qiz,k2,qkl]
  cases lk (qgr (rnI d ns) blk) t <;> rfl
theorem qru {d:Nat} {ns:List (Option Nat)} {blk:List (Nat × LB)} {i:Nat} (h:i∈qea d ns blk):i∈ns.filterMap id++newN d ns blk:=by
 unfold qea at h;rw[List.mem_append] at h |-;rcases h with h | h
 ·exact .inl (List.mem_filter.1 h).1
 ·exact .inr h
theorem qmn {d:Nat} {ns:List (Option Nat)} {blk:List (Nat × LB)} {i:Nat} {b:LB} (h:lk (qgr (rnI d ns) blk) i=some b):i∈ns.filterMap id++newN d ns blk:=by
 have hm:=qa4 h;have hx:∀ (l:List (Nat × LB)),(i,b)∈qgr (rnI d ns) l->∃ p∈l,i=rnI d ns p.1:=by
  intro l
  induction l with
  | nil=>intro h;simp[qgr] at h
  | cons p l ih=>
   obtain ⟨k,bb⟩:=p;intro h;simp only[qgr,List.mem_cons,Prod.mk.injEq] at h;rcases h with ⟨h,_⟩ | h
   ·exact ⟨(k,bb),by simp,h⟩
   ·obtain ⟨q,hq,e⟩:=ih h;exact ⟨q,by simp[hq],e⟩
 obtain ⟨p,hp,rfl⟩:=hx blk hm
 cases hn:qfj ns p.1 with
 | true=>exact List.mem_append_right _ (List.mem_map.2 ⟨p,List.mem_filter.2 ⟨hp,hn⟩,rfl⟩)
 | false=>
  refine List.mem_append_left _ ?_;unfold qfj at hn;unfold rnI
  cases hb:decide (BIG<=p.1) with
  | false=>rw[hb] at hn;cases hn
  | true=>
   rw[hb] at hn;simp only at hn |-
   cases hj:qle ns p.1 with
   | none=>rw[hj] at hn;cases hn
   | some o=>
    simp only;unfold qle at hj;split at hj
    next o' ho=>cases hj;exact List.mem_filterMap.2 ⟨some o,List.mem_of_getElem? ho,rfl⟩
    ·cases hj
theorem qlj        {l r:List SV} {s:SV} {c0:List Prop} (h:(match l with
   | s::r=>if qbi s then some (([]:List Prop),(s,r)) else none
   | []=>none)=some (c0,(s,r))):(∀ i,ment i s=true->qaf i l=true)/\∀ i,qaf i r=true->qaf i l=true:=by
 split at h
 ·split at h
  ·cases h;exact ⟨λ i hi=>by simp[qaf,hi],λ i hi=>by simp[qaf,hi]⟩
  ·cases h
 ·cases h
theorem qsb {a:AK} {l r:List SV} {s:SV} {c0:List Prop} (h:qns a l=some (c0,(s,r))):((∀ σ,a≠.dat σ)->∀ i,ment i s=true->qaf i l=true)/\∀ i,qaf i r=true->qaf i l=true:=by
 cases a with
 | dat σ=>
  simp only[qns] at h;split at h
  next e=>cases h;exact ⟨λ q=>absurd rfl (q σ),λ i hi=>qq3 σ e hi⟩
  ·cases h
 | pta n b=>
  simp only[qns] at h;split at h
  ·cases h;exact ⟨λ _ i hi=>by simp[qaf,hi],λ i hi=>by simp[qaf,hi]⟩
  ·cases h
 | _=>
  simp only[qns] at h;exact ⟨λ _=>(qlj h).1,(qlj h).2⟩
mutual
theorem quk {b1 b2:List (Nat × LB)} (hb:∀ j lb,lk b1 j=some lb->∀ id,qa8 id lb=true->lk b2 id=lk b1 id):∀ (a:AK) (s:SV),(∀ id,ment id s=true->lk b2 id=lk b1 id)->rdK b2 a s=rdK b1 a s
 | .dat _,s,h=>by simp only[rdK]
 | .row et e,s,h=>by
  cases s <;> simp only[rdK]
  rename_i r e' id lo n;have:=h id (by simp[ment])
  cases r <;> cases lo <;> simp only[this]
 | .win et e,s,h=>by
  cases s <;> simp only[rdK]
  rename_i r e' id lo n;rw[h id (by simp[ment])]
 | .ptr l,s,h=>by
  cases s <;> simp only[rdK]
  rename_i id o;have hi:=h id (by simp[ment])
  cases o with
  | zero=>
   simp only[hi]
   cases hl:lk b1 id with
   | none=>rfl
   | some lb=>
    cases lb with
    | var cs=>
     simp only;rw[qul hb l cs λ i hi=>hb id _ hl i (by simpa [qa8] using hi)]
    | _=>rfl
  | succ o=>rfl
 | .fn f a c,s,h=>by
  cases s <;> simp only[rdK]
  rename_i g p q;rw[qmo hb a p λ i hi=>h i (by simp[ment,hi]),qmo hb c q λ i hi=>h i (by simp[ment,hi])]
 | .map _ _,s,h=>by
  cases s <;> simp only[rdK]
  rename_i id;rw[h id (by simp[ment])]
 | .yl _,s,h=>by
  cases s <;> simp only[rdK]
 | .nl,s,h=>by
  cases s <;> simp only[rdK]
 | .agg l,s,h=>by
  cases s <;> simp only[rdK]
  rename_i cs;rw[qul hb l cs λ i hi=>h i (by simpa [ment] using hi)]
 | .pta _ a,s,h=>by
  cases s <;> simp only[rdK]
  rename_i n' l j q
  match q,h with
  | [],_=>rfl
  | [m],h=>simp only[quk hb a m λ i hi=>h i (by simp[ment,qaf,hi])]
  | _::_::_,_=>rfl
 | .np,s,h=>by
  cases s <;> simp only[rdK]
theorem qmo {b1 b2:List (Nat × LB)} (hb:∀ j lb,lk b1 j=some lb->∀ id,qa8 id lb=true->lk b2 id=lk b1 id):∀ (as:List AK) (l:List SV),(∀ id,qaf id l=true->lk b2 id=lk b1 id)->rdKL b2 as l=rdKL b1 as l
 | [],l,_=>by simp only[rdKL]
 | a::as,[],_=>by simp only[rdKL]
 | a::as,s::l,h=>by
  simp only[rdKL];rw[quk hb a s λ i hi=>h i (by simp[qaf,hi]),qmo hb as l λ i hi=>h i (by simp[qaf,hi])]
theorem qul {b1 b2:List (Nat × LB)} (hb:∀ j lb,lk b1 j=some lb->∀ id,qa8 id lb=true->lk b2 id=lk b1 id):∀ (as:List AK) (l:List SV),(∀ id,qaf id l=true->lk b2 id=lk b1 id)->rdC b2 as l=rdC b1 as l
 | [],l,_=>by simp only[rdC]
 | a::as,l,h=>by
  simp only[rdC]
  cases ht:qns a l with
  | none=>rfl
  | some r=>
   obtain ⟨c0,s,r⟩:=r;simp only;obtain ⟨k1,k2⟩:=qsb ht;have e1:rdK b2 a s=rdK b1 a s:=by
    cases a with
    | dat σ=>simp only[rdK]
    | _=>exact quk hb _ s λ i hi=>h i (k1 (λ σ e=>by cases e) i hi)
   rw[e1,qul hb as r λ i hi=>h i (k2 i hi)]
end
theorem qms {b1 b2:List (Nat × LB)} (hb:∀ j lb,lk b1 j=some lb->∀ id,qa8 id lb=true->lk b2 id=lk b1 id) {f:Nat} {l:List SV} (h:∀ id,qaf id l=true->lk b2 id=lk b1 id):∀ (C:CV),qcz f b2 l C=qcz f b1 l C
 | []=>rfl
 | (g,.inl c)::C=>by simp only[qcz,qms hb h C]
 | (g,.inr c)::C=>by simp only[qcz,qmo hb _ _ h,qms hb h C]
theorem q4h (ht:TTOK P tt) {j:Nat} {oi oj:Oper} {x x1 x2:PS} (hi:ops[i]?=some oi) (hj:ops[j]?=some oj) (hs:swI tt C ops oj oi=true) (h1:StpD tt G C ops n j x x1) (h2:StpD tt G C ops n i x1 x2) :
  ∃ x3 x4,StpD tt G C ops n i x x3/\StpD tt G C ops n j x3 x4/\Eqv x2 x4:=by
 unfold swI at hs;split at hs
 rotate_left
 ·cases hs
 rename_i hc;simp only[Bool.and_eq_true] at hc;obtain ⟨⟨⟨ha,n2⟩,nc⟩,hap⟩:=hc;obtain ⟨_,_,d,_,_,_,hd,_,_⟩:=qik ha;obtain ⟨hdn,hP,cs,hx,hcs⟩:=(qmf ha hj hd).1 h1;obtain ⟨c,f,l,ct,cs0,ns,z,e1,e2,e3,e4,e5,rfl,rfl⟩:=(qyz ha hd).1 hx;have hN:=ci_N hd e1 e2 e3 e4;have hT:=ci_T e1 e2 e3 e4;obtain ⟨hNam,hNew⟩:=hP ha hs;rw[hN,hT] at hNam;have hq:(nw C ops oi&&qbj oi&&oj.apart ops oi)=true:=by simp[n2,nc,hap]
 have hin:∀ u,(u∈oi.looksAt ops\/oi.dst=some u)->u∈wA C ops oj:=λ u hu=>qqi hi hq hu
 have hD:∀ i,i∈qea d ns (ct.blk z)->i∈ns.filterMap id++newN d ns (ct.blk z):=λ i hi=>qru hi
 obtain ⟨ex1,bx1⟩:=qjv (d:=d) (ns:=ns) (blk:=ct.blk z) (S:=x) (v:=one (renSL (rnI d ns) (ct.out z))) λ i hi=>(hNam i (hD i hi)).2.2
 have hug:∀ u,u∈wA C ops oj->u ∉ qea d ns (ct.blk z):=λ u hu q=>(hNam u (hD u q)).1 hu
 have hko:∀ u,u∈wA C ops oj->(lk x.env u).map (qkn (qea d ns (ct.blk z)))=lk x.env u:=λ u hu=>by
  cases hl:lk x.env u with
  | none=>rfl
  | some s=>simp only[Option.map_some,qfi _ λ i hi=>(hNam i (hD i hi)).2.1 u s hu hl]
 obtain ⟨a1,a2⟩:=qa2 hap;obtain ⟨a1,a1'⟩:=a1 d hd;obtain ⟨wd,r,g2,rfl⟩:=qee n2 hi h2;have hE:∀ u,u∈oi.looksAt ops->lk x.env u=lk ((qbx x d ns (ct.blk z)).with d (one (renSL (rnI d ns) (ct.out z)))).env u:=λ u hu=>by
  have q1:u≠d:=λ q=>a1 (q ▸ hu)
  rw[ex1,if_neg q1,if_neg (hug u (hin u (.inl hu))),hko u (hin u (.inl hu))]
 have bout:∀ t,t ∉ ns.filterMap id++newN d ns (ct.blk z)->lk ((qbx x d ns (ct.blk z)).with d (one (renSL (rnI d ns) (ct.out z)))).blk t=lk x.blk t:=λ t htn=>by
  rw[bx1]
  cases hl:lk (qgr (rnI d ns) (ct.blk z)) t with
  | some b=>exact absurd (qmn hl) htn
  | none=>
   simp only;rw[if_neg λ q=>htn (hD t q),if_neg λ q=>htn (List.mem_append_left _ q)]
 cases r with
 | none=>exact g2.run.elim
 | some pr=>
  obtain ⟨sy,news⟩:=pr;obtain ⟨csy,h5,h6,h7⟩:=g2.run;have hdst:=qgy nc h5;have hdy:∀ u,oi.dst=some u->u≠d:=λ u hu q=>a1' (q ▸ hu)
  have hnone:∀ u,oi.dst=some u->lk x.env u=none:=λ u hq=>by
   have hsl:=g2.slot;unfold qat at hsl;rw[hq] at hsl;simp only at hsl;rw[ex1,if_neg (hdy u hq),if_neg (hug u (hin u (.inr hq))),hko u (hin u (.inr hq))] at hsl;simpa using hsl
  have g3:NS tt G C ops n i oi x wd (some (sy,news)):=by
   refine g2.move hE (λ u hu s' hs' id hm=>?_) ?_ (λ s' news' e' p hp=>?_)
   ·have hul:=qai (ops:=ops) hu;rw[<- hE u hul] at hs'
    exact (bout id λ q=>by
     have:=(hNam id q).2.1 u s' (hin u (.inl hul)) hs'
     rw[hm] at this;cases this).symm
   ·unfold qat
    cases hq:oi.dst with
    | none=>rfl
    | some u=>simp[hnone u hq]
   ·cases e'
    refine hNew p.1 (q0j hi hq ?_ (hdst p hp)) (hnone _ (hdst p hp))
    cases hnl:qds tt oi with
    | false=>rfl
    | true=>rw[qc3 hnl nc h5] at hp;cases hp
  obtain ⟨csz,k5,k6,k7⟩:=g3.run;obtain ⟨ey,by_⟩:=qcu ht g3;have hnn:∀ u,u∈ns.filterMap id++newN d ns (ct.blk z)->lk news u=none:=λ u hu=>qkm λ p hp q=>(hNam u hu).1 (q ▸ hin p.1 (.inr (hdst p hp)))
  have hms:∀ g,g∈ns.filterMap id++newN d ns (ct.blk z)->ment g sy=false/\∀ p∈news,qa8 g p.2=false:=λ g hg=>
   ql1 (D:=ns.filterMap id) (id:=g) ht nc k5 (qo1 λ u s' hu hs'=>(hNam g hg).2.1 u s' (hin u (.inl (qai hu))) hs') (λ t ht' s hs' i hi=>(hNam i (List.mem_append_left _ hi)).2.1 t s (hin t (.inl (qai ht'))) hs') (hNam g hg).2.2 (λ q=>(hNam g hg).1 (hin g (.inr q)))
  -- the call still finds what it found
  have hag:AgO (pv G (fin x oi (some (sy,news))).env) (pv G x.env) oj:=qlg λ t htt=>by
   rw[ey];simp only;rw[if_neg λ q=>a2 t q (qai htt)]
  have e3':qbb (pv G (fin x oi (some (sy,news))).env) c.args=some l:=by
   rw[<- e3];exact qb2 λ y hy=>hag y (by simp[e1,Op.operands,Call.operands,hy])
  have hnm:∀ id,lk news id≠none->∀ y∈oj.op.operands,∀ s,pv G x.env y=some s->ment id s=false:=λ id hid=>by
   cases hl:lk news id with
   | none=>exact absurd hl hid
   | some lb=>exact qgz (h:=k7 _ (qa4 hl))
  have hbl:∀ id,(lk news id=none)->lk (fin x oi (some (sy,news))).blk id=lk x.blk id:=λ id h=>by rw[by_];simp[h]
  have e4':qcz f (fin x oi (some (sy,news))).blk l C=some ⟨ct,(cs0,(ns,z))⟩:=by
   rw[<- e4];refine qms (λ j' lb hl id hm=>?_) (λ id hm=>?_) C
   ·refine hbl id ?_
    cases hl2:lk news id with
    | none=>rfl
    | some lb2=>
     have:=(k7 _ (qa4 hl2)).2.2 j' lb hl;rw[hm] at this;cases this
   ·refine hbl id ?_
    cases hl2:lk news id with
    | none=>rfl
    | some lb2=>
     obtain ⟨s,hsm,hms2⟩:=qde.1 hm;obtain ⟨y,hy,hys⟩:=qhi e3 s hsm;have:=hnm id (by rw[hl2];simp) y (by simp[e1,Op.operands,Call.operands,hy]) s hys;rw[hms2] at this;cases this
  have hN':=ci_N hd e1 e2 e3' e4';have hT':=ci_T e1 e2 e3' e4';have hP3:CiP tt G C ops (fin x oi (some (sy,news))) oj:=λ _ _=>by
   rw[hN',hT'];refine ⟨λ g hg=>⟨(hNam g hg).1,λ u s hu hs'=>?_,λ jj lb hjj hl=>?_⟩,λ u hu hn=>?_⟩
   ·rw[ey] at hs';simp only at hs';split at hs'
    ·cases hs';exact (hms g hg).1
    ·exact (hNam g hg).2.1 u s hu hs'
   ·rw[by_] at hl;simp only at hl
    cases hl2:lk news jj with
    | none=>rw[hl2] at hl;exact (hNam g hg).2.2 jj lb hjj (by simpa using hl)
    | some l'=>rw[hl2] at hl;simp at hl;subst hl;exact (hms g hg).2 _ (qa4 hl2)
   ·rw[ey] at hn;simp only at hn;split at hn
    ·cases hn
    next hne=>
     have hf:=hNew u hu hn;have hm:=qd9 (id:=u) ht nc k5 (qgz hf) hf.2.2 hne;have hnu:lk news u=none:=qkm λ p hp q=>hne (q ▸ hdst p hp)
     refine ⟨⟨?_,?_⟩,λ v s' hs'=>?_,λ jj l hl=>?_⟩
     ·rw[by_];simp[hnu,hf.1.1]
     ·rw[ey];simp only;rw[if_neg hne];exact hn
     ·rw[ey] at hs';simp only at hs';split at hs'
      ·cases hs';exact hm.1
      ·exact hf.2.1 v s' hs'
     ·rw[by_] at hl;simp only at hl
      cases hl2:lk news jj with
      | none=>rw[hl2] at hl;exact hf.2.2 jj l (by simpa using hl)
      | some l'=>rw[hl2] at hl;simp at hl;subst hl;exact hm.2 _ (qa4 hl2)
  have hP3':=hP3 ha hs;rw[hN',hT'] at hP3';obtain ⟨ex3,bx3⟩:=qjv (d:=d) (ns:=ns) (blk:=ct.blk z) (S:=fin x oi (some (sy,news))) (v:=one (renSL (rnI d ns) (ct.out z))) λ i hi=>(hP3'.1 i (hD i hi)).2.2
  obtain ⟨ez,bz⟩:=qcu ht g2;refine ⟨_,_,qei n2 g3,(qmf ha hj hd).2 hdn hP3 ((qyz ha hd).2 ⟨c,f,l,ct,cs0,ns,z,e1,e2,e3',e4',e5,rfl,rfl⟩) hcs,λ u=>?_,λ u=>?_⟩
  ·rw[ez,ex3,ey,ex1];simp only;by_cases hu:oi.dst=some u
   ·rw[if_pos hu,if_neg (hdy u hu),if_neg (hug u (hin u (.inr hu))),if_pos hu];simp only[Option.map_some,qfi _ λ i hi=>(hms i (hD i hi)).1]
   ·rw[if_neg hu,if_neg hu]
  ·rw[bz,bx3,by_,bx1];simp only
   cases hl:lk (qgr (rnI d ns) (ct.blk z)) u with
   | some b=>simp only;rw[hnn u (qmn hl)];rfl
   | none=>
    simp only;by_cases hu:u∈qea d ns (ct.blk z)
    ·rw[if_pos hu,if_pos hu,hnn u (hD u hu)];rfl
    ·rw[if_neg hu,if_neg hu];by_cases hgu:u∈ns.filterMap id
     ·rw[if_pos hgu,if_pos hgu,hnn u (List.mem_append_left _ hgu)];rfl
     ·rw[if_neg hgu,if_neg hgu]
theorem q4g (ht:TTOK P tt) {j:Nat} {oi oj:Oper} {x x1 x2:PS} (hi:ops[i]?=some oi) (hj:ops[j]?=some oj) (hs:swJ tt C ops oj oi=true) (h1:StpD tt G C ops n j x x1) (h2:StpD tt G C ops n i x1 x2) :
  ∃ x3 x4,StpD tt G C ops n i x x3/\StpD tt G C ops n j x3 x4/\Eqv x2 x4:=by
 unfold swJ at hs;split at hs
 rotate_left
 ·cases hs
 rename_i hc;simp only[Bool.and_eq_true] at hc;obtain ⟨⟨⟨⟨⟨⟨ha,n1⟩,nc⟩,nl⟩,hap⟩,hap2⟩,hdj⟩:=hc;obtain ⟨_,_,d,_,_,_,hd,_,_⟩:=qik ha;obtain ⟨wd,r,g1,rfl⟩:=qee n1 hj h1;obtain ⟨hdn,hP,cs,hx,hcs⟩:=(qmf ha hi hd).1 h2;obtain ⟨c,f,l,ct,cs0,ns,z,e1,e2,e3,e4,e5,rfl,rfl⟩:=(qyz ha hd).1 hx;have hN:=ci_N hd e1 e2 e3 e4;have hT:=ci_T e1 e2 e3 e4;obtain ⟨hNam1,hNew1⟩:=hP ha hs;rw[hN,hT] at hNam1;obtain ⟨subE,subB⟩:=qks ht g1;obtain ⟨ex0,bx0⟩:=qcu ht g1
 cases r with
 | none=>exact g1.run.elim
 | some pr=>
  obtain ⟨sy,news⟩:=pr;obtain ⟨csy,h5,h6,h7⟩:=g1.run;have hnews:=qc3 nl nc h5;subst hnews;have bx:∀ t,lk (fin x oj (some (sy,[]))).blk t=lk x.blk t:=λ t=>by rw[bx0];simp[lk]
  obtain ⟨a1,a2⟩:=qa2 hap;have hq:(nw C ops oj&&qbj oj&&oi.apart ops oj)=true:=by simp[n1,nc,hap2]
  have hin:∀ u,(u∈oj.looksAt ops\/oj.dst=some u)->u∈wA C ops oi:=λ u hu=>qqi hj hq hu
  have hNam:∀ g,g∈ns.filterMap id++newN d ns (ct.blk z)->g ∉ wA C ops oi/\(∀ u s,u∈wA C ops oi->lk x.env u=some s->ment g s=false)/\∀ j lb,j ∉ ns.filterMap id->lk x.blk j=some lb->qa8 g lb=false:=λ g hg=>by
   obtain ⟨w1,w2,w3⟩:=hNam1 g hg;exact ⟨w1,λ u s hu hs'=>w2 u s hu (subE _ _ hs'),λ j lb hj hl=>w3 j lb hj (by rw[bx];exact hl)⟩
  have hNew:∀ u,u∈dA tt C ops oi->lk x.env u=none->Fre u x:=λ u hu hn=>by
   have hne:oj.dst≠some u:=λ q=>by
    rw[q] at hdj;have:u ∉ dA tt C ops oi:=by simpa using hdj
    exact this hu
   refine (hNew1 u hu ?_).sub subE (λ t s h=>by rw[bx];exact h);rw[ex0];simp only;rw[if_neg hne];exact hn
  have hAO:AgO (pv G (fin x oj (some (sy,[]))).env) (pv G x.env) oi:=qlg λ u hu=>by
   rw[ex0];simp only;rw[if_neg λ q=>(a1 u q).1 (qai hu)]
  have e3':qbb (pv G x.env) c.args=some l:=by
   rw[<- e3];exact (qb2 λ y hy=>hAO y (by simp[e1,Op.operands,Call.operands,hy])).symm
  have e4':qcz f x.blk l C=some ⟨ct,(cs0,(ns,z))⟩:=by
   rw[<- e4];exact qdd (λ t=>(bx t).symm) C
  have hN':=ci_N hd e1 e2 e3' e4';have hT':=ci_T e1 e2 e3' e4';have hPx:CiP tt G C ops x oi:=λ _ _=>by
   rw[hN',hT'];exact ⟨hNam,hNew⟩
  have hD:∀ i,i∈qea d ns (ct.blk z)->i∈ns.filterMap id++newN d ns (ct.blk z):=λ i hi=>qru hi
  obtain ⟨ex1,bx1⟩:=qjv (d:=d) (ns:=ns) (blk:=ct.blk z) (S:=x) (v:=one (renSL (rnI d ns) (ct.out z))) λ i hi=>(hNam i (hD i hi)).2.2
  obtain ⟨ex2,bx2⟩:=qjv (d:=d) (ns:=ns) (blk:=ct.blk z) (S:=fin x oj (some (sy,[]))) (v:=one (renSL (rnI d ns) (ct.out z))) λ i hi=>(hNam1 i (hD i hi)).2.2
  have hug:∀ u,u∈wA C ops oi->u ∉ qea d ns (ct.blk z):=λ u hu q=>(hNam u (hD u q)).1 hu
  have hko:∀ u,u∈wA C ops oi->(lk x.env u).map (qkn (qea d ns (ct.blk z)))=lk x.env u:=λ u hu=>by
   cases hl:lk x.env u with
   | none=>rfl
   | some s=>simp only[Option.map_some,qfi _ λ i hi=>(hNam i (hD i hi)).2.1 u s hu hl]
  have hdy:∀ u,oj.dst=some u->u≠d:=λ u hu q=>(a1 u hu).2 (by rw[hd,q])
  have hdl:d ∉ oj.looksAt ops:=a2 d hd;have hE:∀ u,u∈oj.looksAt ops->lk ((qbx x d ns (ct.blk z)).with d (one (renSL (rnI d ns) (ct.out z)))).env u=lk x.env u:=λ u hu=>by
   rw[ex1,if_neg (λ q:u=d=>hdl (q ▸ hu)),if_neg (hug u (hin u (.inl hu))),hko u (hin u (.inl hu))]
  have bout:∀ t,t ∉ ns.filterMap id++newN d ns (ct.blk z)->lk ((qbx x d ns (ct.blk z)).with d (one (renSL (rnI d ns) (ct.out z)))).blk t=lk x.blk t:=λ t htn=>by
   rw[bx1]
   cases hl:lk (qgr (rnI d ns) (ct.blk z)) t with
   | some b=>exact absurd (qmn hl) htn
   | none=>
    simp only;rw[if_neg λ q=>htn (hD t q),if_neg λ q=>htn (List.mem_append_left _ q)]
  have hsy:∀ g,g∈ns.filterMap id++newN d ns (ct.blk z)->ment g sy=false:=λ g hg=>
   (ql1 (D:=ns.filterMap id) (id:=g) ht nc h5 (qo1 λ u s' hu hs'=>(hNam g hg).2.1 u s' (hin u (.inl (qai hu))) hs') (λ t ht' s hs' i hi=>(hNam i (List.mem_append_left _ hi)).2.1 t s (hin t (.inl (qai ht'))) hs') (hNam g hg).2.2 (λ q=>(hNam g hg).1 (hin g (.inr q)))).1
  have g3:NS tt G C ops n j oj ((qbx x d ns (ct.blk z)).with d (one (renSL (rnI d ns) (ct.out z)))) wd (some (sy,[])):=by
   refine g1.move hE (λ u hu s' hs' id hm=>?_) ?_ (λ s' news' e' p hp=>by cases e';cases hp)
   ·have hul:=qai (ops:=ops) hu;exact bout id λ q=>by
     have:=(hNam id q).2.1 u s' (hin u (.inl hul)) hs';rw[hm] at this;cases this
   ·have hsl:=g1.slot;unfold qat at hsl |-
    cases hq2:oj.dst with
    | none=>rfl
    | some u=>
     rw[hq2] at hsl;simp only at hsl |-;rw[ex1,if_neg (hdy u hq2),if_neg (hug u (hin u (.inr hq2))),hko u (hin u (.inr hq2))];exact hsl
  obtain ⟨ez,bz⟩:=qcu ht g3;refine ⟨_,_,(qmf ha hi hd).2 hdn hPx ((qyz ha hd).2 ⟨c,f,l,ct,cs0,ns,z,e1,e2,e3',e4',e5,rfl,rfl⟩) hcs,qei n1 g3,λ u=>?_,λ u=>?_⟩
  ·rw[ez,ex2,ex0,ex1];simp only;by_cases hu:oj.dst=some u
   ·rw[if_pos hu,if_pos hu,if_neg (hdy u hu),if_neg (hug u (hin u (.inr hu)))];simp only[Option.map_some,qfi _ λ i hi=>hsy i (hD i hi)]
   ·rw[if_neg hu,if_neg hu]
  ·rw[bz,bx2,bx1,bx];simp[lk]
theorem qoi (h:qfh o=true):qbj o=true:=by
 unfold qfh at h;unfold qbj;split at h <;> (rename_i hop;first | (simp only[hop];done) | (cases h;done))
theorem sw_ok (ht:TTOK P tt):Sw ops (StpD tt G C ops n) Eqv (swN tt C ops) where
 refl:=Eqv.refl
 trans _ _ _:=Eqv.trans
 cong i x x' y h e:=qqp h e
 swap i j oi oj x x1 x2 hi hj hs h1 h2:=by
  rw[swN,Bool.or_eq_true,Bool.or_eq_true,Bool.or_eq_true,Bool.or_eq_true,Bool.or_eq_true] at hs;rcases hs with hs | hs | hs | hs | hs | hs
  rotate_left
  ·exact q4j ht hi hj hs h1 h2
  ·exact q4i ht hi hj hs h1 h2
  ·exact q4f ht hi hj hs h1 h2
  ·exact q4h ht hi hj hs h1 h2
  ·exact q4g ht hi hj hs h1 h2
  rw[Bool.and_eq_true,Bool.or_eq_true] at hs;obtain ⟨hs,hun⟩:=hs;have unE:∀ {st y:Oper},(st=oj/\y=oi\/st=oi/\y=oj)->isSt st=true->qhp tt C ops=true->qjz ops st y=true:=λ h h2 h3=>by
   rcases hun with hun | hun
   ·simp only[unS,Bool.and_eq_true,Bool.or_eq_true,Bool.not_eq_true'] at hun;rcases h with ⟨rfl,rfl⟩ | ⟨rfl,rfl⟩
    ·rcases hun.1 with q | q
     ·rw[h2] at q;cases q
     ·exact q
    ·rcases hun.2 with q | q
     ·rw[h2] at q;cases q
     ·exact q
   ·rw[h3] at hun;cases hun
  simp only[swN0,Bool.and_eq_true,Bool.or_eq_true] at hs;obtain ⟨hap,((⟨n1,n2⟩ | ⟨⟨n1,l1⟩,s2⟩) | ⟨⟨s1,n2⟩,l2⟩) | ⟨⟨n1,l1⟩,s2⟩⟩:=hs
  ·obtain ⟨wx,rx,g1,rfl⟩:=qee n1 hj h1;obtain ⟨wy,ry,g2,rfl⟩:=qee n2 hi h2;obtain ⟨k1,k2,k3⟩:=q12 ht hap g1 g2;exact ⟨_,_,qei n2 k1,qei n1 k2,k3⟩
  ·obtain ⟨a1,a2⟩:=qa2 hap;obtain ⟨⟨hd,hsl⟩,s,q1,rfl⟩:=(qia l1 n1 hj).1 h1;obtain ⟨hsp,id,lb,⟨cs,q2,q3⟩,rfl⟩:=(qe4 s2 hi).1 h2;rw[qf0 s2 (qr2 λ t h=>(a1 t h).1),qe8] at q2;obtain ⟨_,_,_,e,b1,b2⟩:=q1q s2 q2;cases e
   have hspx:StP tt G C ops x oi:=StP.sub s2 hsp (λ t s' hs'=>by
    cases hdj:oj.dst with
    | none=>exact hs'
    | some d=>
     simp only[PS.put,qan];rw[if_neg λ q=>?_]
     ·exact hs'
     ·have:=hsl;simp only[qat,hdj] at this
      rw[<- q,hs'] at this;cases this) (λ t s' hs'=>by rw[qe8];exact hs')
   refine ⟨_,_,(qe4 s2 hi).2 hspx ⟨cs,q2,q3⟩,(qia l1 n1 hj).2 hd hsl (q1.le (S:=x) (T:=⟨x.env,st x.blk id lb⟩) l1 (λ _ _=>rfl) b1),?_⟩;rw[qe8,qq5];exact Eqv.refl _
  ·obtain ⟨a1,a2⟩:=qa2 hap;obtain ⟨hsp,id,lb,⟨cs,q2,q3⟩,rfl⟩:=(qe4 s1 hj).1 h1;obtain ⟨⟨hd,hsl⟩,s,q1,rfl⟩:=(qia l2 n2 hi).1 h2;obtain ⟨_,_,_,e,b1,b2⟩:=q1q s1 q2;cases e;have q1x:=q1.le (S:=⟨x.env,st x.blk id lb⟩) (T:=x) l2 (λ _ _=>rfl) b2;have hspx:StP tt G C ops (x.put oi.dst (some s)) oj:=by
    refine ⟨?_,q25 (q1d s1)⟩;intro k1 k2 k3 t htt s' hs' id' hm;have hun2:=unE (.inl ⟨rfl,rfl⟩) k1 k2;have hqq:(nw C ops oi&&qbj oi&&qjz ops oj oi)=true:=by simp[n2,qoi l2,hun2]
    have hne:∀ u,oi.dst=some u->u≠t:=λ u hu q=>a2 u hu (q ▸ qai htt)
    have hs0:lk x.env t=some s':=by
     cases hdi:oi.dst with
     | none=>rw[hdi] at hs';exact hs'
     | some d=>
      rw[hdi] at hs';simp only[PS.put,qan] at hs';rw[if_neg λ q=>hne d hdi q.symm] at hs';exact hs'
    obtain ⟨w1,w2⟩:=hsp.1 k1 k2 k3 t htt s' hs0 id' hm;refine ⟨λ u s2 hu hs2=>?_,λ jj l hl=>w2 jj l (by rw[qe8] at hl;exact hl)⟩
    cases hdi:oi.dst with
    | none=>rw[hdi] at hs2;exact w1 u s2 hu hs2
    | some d=>
     rw[hdi] at hs2;simp only[PS.put,qan] at hs2;split at hs2
     ·cases hs2;obtain ⟨cs',h,_⟩:=q1x
      have hcl:Cl id' (pv G x.env) oi:=qo1 λ v s3 hv hs3=>w1 v s3 (qzk hi hqq (.inl (qai hv))) hs3
      rcases h with h | ⟨_,h⟩
      ·exact qmw ht h hcl
      ·exact qmt h hcl w2
     ·exact w1 u s2 hu hs2
   refine ⟨_,_,(qia l2 n2 hi).2 hd hsl q1x,(qe4 s1 hj).2 (id:=id) (lb:=lb) hspx ⟨cs,?_,q3⟩,?_⟩
   ·rw[qf0 s1 (qr2 λ t h=>a2 t h),qe8];exact q2
   ·rw[qe8,qq5];exact Eqv.refl _
  ·obtain ⟨a1,a2⟩:=qa2 hap;obtain ⟨wd,r,g1,rfl⟩:=qee n1 hj h1;have hg:=(qkw (C:=C) (ops:=ops) (G:=G) l1 (S:=x) (T:=x) (λ _ _=>rfl)).2;obtain rfl:wd=true:=by
    rcases g1.sta with ⟨_,h⟩ | ⟨j,want,d,t,h,_⟩
    ·exact h
    ·rw[hg] at h;cases h
   cases r with
   | none=>exact g1.run.elim
   | some pr=>
    obtain ⟨s,news⟩:=pr;obtain ⟨cs1,h5,h6,h7⟩:=g1.run;obtain ⟨ex,bx⟩:=qcu ht g1;obtain ⟨hsp,id,lb,⟨cs,q2,q3⟩,rfl⟩:=(qe4 s2 hi).1 h2;have hspx:StP tt G C ops x oi:=StP.sub s2 hsp (qks ht g1).1 (qks ht g1).2;have hag:AgO (pv G (fin x oj (some (s,news))).env) (pv G x.env) oi:=qlg λ t htt=>by
     rw[ex];simp only;rw[if_neg λ hd=>(a1 t hd).1 (qai htt)]
    rw[qf0 s2 hag] at q2;obtain ⟨⟨xo,hxo,so,hso,hmo⟩,hsm,hmv,hml⟩:=qzw (b2:=x.blk) s2 q2;have hids:∀ p∈news,p.1≠id:=λ p hp e=>by
     have:=qgz (h7 p hp) (o:=oi) (G:=G) xo hxo so hso;rw[e,hmo] at this;cases this
    have hnone:lk news id=none:=by
     cases e:lk news id with
     | none=>rfl
     | some l=>
      exfalso;have hm:=qht e;rw[List.mem_map] at hm;obtain ⟨p,hp,he⟩:=hm;exact hids p hp he
    have hbl:lk (fin x oj (some (s,news))).blk id=lk x.blk id:=by rw[bx];simp[hnone]
    have hst:StR tt G x oi id lb:=⟨cs,hmv hbl.symm,q3⟩;have hd3:=(qe4 (C:=C) (n:=n) s2 hi).2 hspx hst;have g3:NS tt G C ops n j oj ⟨x.env,st x.blk id lb⟩ true (some (s,news)):=by
     refine ⟨g1.at_,g1.dst,g1.slot,.inl ⟨hg,rfl⟩,cs1,?_,h6,λ p hp=>?_⟩
     ·exact ((qkw (C:=C) l1 (S:=x) (T:=⟨x.env,st x.blk id lb⟩) (λ _ _=>rfl)).1).trans h5
     ·obtain ⟨⟨f1,f0⟩,f2,f3⟩:=h7 p hp;refine ⟨⟨?_,f0⟩,f2,λ jj l hl=>?_⟩
      ·show lk (st x.blk id lb) p.1=none
       rw[qan,if_neg (hids p hp)];exact f1
      ·have hl:lk (st x.blk id lb) jj=some l:=hl;rw[qan] at hl;split at hl
       ·cases hl;exact hml p.1 (λ l hl=>f3 id l (by rw[<- hbl];exact hl)) (qgz (h7 p hp) (o:=oi) (G:=G))
       ·exact f3 jj l hl
    obtain ⟨ey,by_⟩:=qcu ht g3;refine ⟨_,_,hd3,qei n1 g3,λ t=>?_,λ t=>?_⟩
    ·rw[ey]
     show lk (fin x oj (some (s,news))).env t=_
     rw[ex]
    ·rw[by_]
     show lk (st (fin x oj (some (s,news))).blk id lb) t=(lk news t).or (lk (st x.blk id lb) t)
     rw[qan,qan];by_cases e:t=id
     ·subst e;simp[hnone]
     ·rw[if_neg e,if_neg e,bx]
theorem qvz (ht:TTOK P tt) {S':PS} (hn:nonW C o=true) (hsh:shO ops o=false) (h:Ex tt G C S o S') (hc:qrv tt G C S o=true):∃ S'',ExN tt G C ops S o S''/\Eqv S'' S':=by
 obtain ⟨cs,h1,h2⟩:=h;have hfre:=@qrl S;have hfr:∀ cs' s news,qe2 tt G C S o=some (cs',(s,news))->∀ p∈news,Fre p.1 S:=by
  intro cs' s news he p hp;unfold qrv at hc;rw[he] at hc;simp only at hc;have:=List.all_eq_true.1 hc p hp;exact hfre _ (by simpa using this)
 unfold qe1 exO at h1;unfold ExN;rw[qgj hsh];unfold qe2 at hfr |-;split at h1
 next r0 hr=>
  cases h1;split at hr
  next e1=>cases hr;rw[e1];exact ⟨_,⟨_,_,[],rfl,h2,by simp,rfl⟩,Eqv.refl _⟩
  next e1=>
   rw[e1] at hfr;rw[e1];split at hr
   next e2=>cases hr;simp only[e2];exact ⟨_,⟨_,_,[],rfl,h2,by simp,rfl⟩,Eqv.refl _⟩
   next e2=>
    simp only[e2] at hfr;simp only[e2];split at hr
    next d hd=>
     simp only[hd] at hfr |-;split at hr
     next cs' s lb e3=>cases hr;simp only[e3] at hfr |-;have hff:=hfr _ _ _ rfl;have hm:=(qhj (id:=d) ht e3 (qgz (hff (d,lb) (List.mem_singleton.2 rfl)))).2;rw[qem hm];exact ⟨_,⟨_,_,[(d,lb)],rfl,h2,hff,rfl⟩,Eqv.refl _⟩
     ·rw[qps hn] at hr;cases hr
    ·rw[qps hn] at hr;cases hr
 next hr=>
  split at hr
  ·cases hr
  next e1=>
   rw[e1] at hfr;rw[e1];split at hr
   ·cases hr
   next e2=>
    simp only[e2] at hfr |-;split at h1
    next d hd=>
     simp only[hd] at hfr hr |-;split at h1
     next cs' s news e4=>
      cases h1;split at hr
      ·cases hr
      next e3=>simp only[e3,e4] at hfr |-;exact ⟨_,⟨_,_,news,rfl,h2,hfr _ _ _ rfl,rfl⟩,Eqv.refl _⟩
     ·cases h1
    ·cases h1
end
section
variable {P:Program} {tt:TT} {G:GV} {C:CV} {f:FuncId} {n:Nat} {rd:Rd} {Y:Yp} {K:AExit->Nat × Bool->PS->Prop} {g:Nat × Bool} {base:Prot}
theorem q5b {S S':PS} {o:Oper} (h:Ex tt G C S o S'):ExI tt G C S o S':=by
 obtain ⟨cs,h1,h2⟩:=h;exact ⟨cs,by simp only[qbe,h1],h2⟩
theorem q5d {S S':PS} {o:Oper} (hn:nonW C o=true) (h:ExI tt G C S o S'):Ex tt G C S o S':=by
 obtain ⟨cs,h1,h2⟩:=h;refine ⟨cs,?_,h2⟩;unfold qbe at h1;split at h1
 next r hr=>cases h1;exact hr
 ·exfalso;split at h1
  next d hd=>
   unfold exI at h1;split at h1
   next c hop=>
    split at h1
    next xo nm hcal=>simp only[nonW,hop,hcal] at hn;cases hn
    next fo hcal=>
     split at h1
     next f fa fk l hf hl=>
      split at h1
      next ct cs0 ns x hpk=>
       have hmem:=(qhh hpk).1;simp only[nonW,hop,hcal] at hn
       cases fo with
       | tmp t=>cases hn
       | func g=>
        simp only[pv,Option.some.injEq,SV.fn.injEq] at hf;obtain ⟨rfl,_,_⟩:=hf;have:=List.all_eq_true.1 hn _ hmem;simp at this
       | const v=>
        simp only[pv] at hf;unfold cv at hf;split at hf <;> cases hf
       | global g=>
        simp only[pv,Option.map_eq_some_iff] at hf;obtain ⟨x,_,hf⟩:=hf;cases hf
      ·cases h1
     ·cases h1
    ·cases h1
   ·cases h1
  ·cases h1
theorem qzu {ops:Array Oper} {o:Oper} (h:shO ops o=true):nw C ops o=true:=by
 obtain ⟨t,m,ps,d,h1,h2⟩:=qua h;simp[nw,nonW,early,h1]
theorem q5e (ht:TTOK P tt) {ops:Array Oper} {S S':PS} {o:Oper} (hsh:shO ops o=false) (h:ExD tt G C ops S o S'):∃ S'',ExI tt G C S o S''/\Eqv S'' S':=by
 rcases h with ⟨hn,h⟩ | ⟨_,h,_⟩
 ·obtain ⟨S'',h1,h2⟩:=qvw ht (qmz hn) hsh h;exact ⟨S'',q5b h1,h2⟩
 ·exact ⟨S',h,Eqv.refl _⟩
theorem FC.eqv {Z Z':Nat->Option ABlk} {ν ν':Nu} {S S' S'':PS} {H H':AHeap} (h:FC Z ν S H Z' ν' S' H') (e:Eqv S' S''):FC Z ν S H Z' ν' S'' H':=
 ⟨h.z,h.zn,h.le,h.old,λ b ⟨id,lb,ni,g1,g2,g3⟩=>h.own b ⟨id,lb,ni,by rw[e.2];exact g1,g2,g3⟩,λ id hb h'=>h.big id hb (by rw[e.2];exact h')⟩
theorem PR.eqv {Z:Nat->Option ABlk} {ν:Nu} {S S':PS} {E:T Value} {H:AHeap} (h:PR Z ν S E H) (e:Eqv S S'):PR Z ν S' E H:=h.ext (λ t=>(e.1 t).symm) λ t=>(e.2 t).symm
theorem qxe (hx:CxOK P tt G C) {M:Map} {Z:Nat->Option ABlk} {ν:Nu} {S:PS} {E:T Value} {H:AHeap} {a:Act} {w:World} {ops:Array Oper} {i:Nat} {rest:List Nat} {o:Oper} (ho:ops[i]?=some o) (hd:∀ d,o.dst=some d->d<n/\d<500000) (hw:qak ops o E=some true) {cs0:List Prop} {s:SV} (h:exS tt G S o=some (cs0,s)) (hc:∀ c∈cs0,c) (her:ER M n E a.tmps) (hrel:Rel base M H w) (hp:PR Z ν S E H) (hg:GZ Z G) (b:Frame) (k:List Item) (cs:List Frame) :
  ∃ M' Z' ν' E' H' a' w',Ext M M'/\ER M' n E' a'.tmps/\a'.defers=a.defers/\Rel base M' H' w'/\Below base w w'/\PR Z' ν' (S.put o.dst (some s)) E' H'/\FC Z ν S H Z' ν' (S.put o.dst (some s)) H' /\
   Steps P (lone (Fr b a (.inRegion ops (i::rest)::k)) cs w) (lone (Fr b a' (.inRegion ops rest::k)) cs w'):=by
 obtain ⟨d,e0,et,e,xs,cs1,e1,l,hdd,hpf,hfz,rfl,rfl⟩:=qvx h;have hρ:=qbr hp hg;have hdom:=hrel.dom;obtain ⟨v,x,ni,hv,hnb,hvs,hbr⟩:=qq8 (H:=H) (F:=λ f=>(lk C f).isSome) hx.ty hρ hpf λ c hc1=>hc c (List.mem_append_right _ hc1)
 have hbr:BR Z (Upd ν d (some ni)) (H.add x) d (.row et e xs):=hbr;have hga:(H.add x).t.get H.next=some x:=AHeap.get_add (Nat.zero_le _);have hcell:isCells x:=by
  rcases hbr.2 with ⟨h1,_⟩ | ⟨ni',cs',tl,kk,h1,h2,_⟩
  ·rw[qal] at h1;cases h1
  ·rw[qal] at h1;cases h1;rw[hnb,hga] at h2;cases h2;trivial
 let Z':Nat->Option ABlk:=λ c=>if c=H.next then some x else Z c
 have hlt:∀ c y,Z c=some y->c≠H.next:=λ c y hc=>by
  have:=hdom _ _ (hp.zh c y hc).1;omega
 have hz:ZLe Z Z':=λ c y hc=>by
  show (if c=H.next then some x else Z c)=some y
  rw[if_neg (hlt c y hc)];exact hc
 have hz2:∀ ni' y,Upd ν d (some ni) d=some ni'->(H.add x).t.get ni'.b=some y->Z' ni'.b=some y:=λ ni' y h1 h2=>by
  rw[qal] at h1;cases h1;rw[hnb,hga] at h2;cases h2
  show (if ni.b=H.next then some x else Z ni.b)=some x
  rw[if_pos hnb]
 have hvs2:=VS.frz hbr hz hz2 (qwj e0 λ c hc1=>hc c (List.mem_append_left _ hc1)) hvs;rw[hfz] at hvs2;have hvs3:VS Z' ν (.sl e1 l) v:=by
  simp only[VS,V1,CR] at hvs2 |-;exact hvs2
 have hold:∀ c y,H.t.get c=some y->(H.add x).t.get c=some y:=λ c y hc=>by
  have:=hdom _ _ hc;rw[AHeap.get_add_other (by omega)];exact hc
 have hown:∀ c,Own ν S c->c≠H.next:=λ c ⟨id,lb,ni',h1,h2,h3⟩=>by
  obtain ⟨y,hy⟩:=(hp.blk id lb h1).at h2;have:=hdom _ _ hy;omega
 have hp2:PR Z' ν S E (H.add x):=(hp.grow hold).zmono hz (λ c y hc=>by
   have hc:(if c=H.next then some x else Z c)=some y:=hc;split at hc
   next hq=>cases hc;rw[hq];exact ⟨hga,hcell⟩
   ·exact ⟨hold _ _ (hp.zh c y hc).1,(hp.zh c y hc).2⟩) λ c hc=>by
   show (if c=H.next then some x else Z c)=none
   rw[if_neg (hown c hc)];exact hp.zo c hc
 have hfc:FC Z ν S H Z' ν S (H.add x):=⟨hz,λ c hc=>by
   have hc:(if c=H.next then some x else Z c)≠none:=hc;split at hc
   next hq=>exact .inr (.inl (by omega))
   ·exact .inl hc,by simp[AHeap.add],λ c y hc _ _=>hold c y hc,λ c hc=>.inl hc,λ id _ h=>⟨h,rfl⟩⟩
 obtain ⟨E',hE⟩:∃ E',putE n o.dst v E=some E':=by rw[hdd];exact ⟨_,by simp only[putE];rw[if_pos (hd d hdd)]⟩
 have hst:qbm P (λ f=>(lk C f).isSome) noEv n ops i (E,H)=some (E',H.add x):=by simp[qbm,ho,qhm,hw,hv,hE]
 have hF:∀ f,(λ f=>(lk C f).isSome) f=true->∀ args w,(callFunc f args).run P w=.ok (.enter f args) w:=by
  intro f hf;exact hx.enter f hf
 obtain ⟨M',a',w',x1,x2,x3,x4,x5,x6⟩:=qa0 (base:=base) hF (λ r res h=>by cases h) (rest:=rest) hst her hrel b k cs;exact ⟨M',Z',ν,E',_,a',w',x1,x2,x3,x4,x5,hp2.put' hE (by rintro s' hs;cases hs;exact hvs3),hfc.put' _ _,x6⟩
theorem qxd (hx:CxOK P tt G C) {M:Map} {Z:Nat->Option ABlk} {ν:Nu} {S S':PS} {E:T Value} {H:AHeap} {a:Act} {w:World} {ops:Array Oper} {i:Nat} {rest:List Nat} (h:StpD tt G C ops n i S S') (her:ER M n E a.tmps) (hrel:Rel base M H w) (hp:PR Z ν S E H) (hg:GZ Z G) (b:Frame) (k:List Item) (cs:List Frame) :
  ∃ M' Z' ν' E' H' a' w',Ext M M'/\ER M' n E' a'.tmps/\a'.defers=a.defers/\Rel base M' H' w'/\Below base w w'/\PR Z' ν' S' E' H'/\FC Z ν S H Z' ν' S' H' /\
   Steps P (lone (Fr b a (.inRegion ops (i::rest)::k)) cs w) (lone (Fr b a' (.inRegion ops rest::k)) cs w'):=by
 obtain ⟨o,ho,hd,hs,h⟩:=h;have go:ExD tt G C ops S o S'->qak ops o E=some true->∃ M' Z' ν' E' H' a' w',Ext M M'/\ER M' n E' a'.tmps/\a'.defers=a.defers/\Rel base M' H' w'/\Below base w w'/\PR Z' ν' S' E' H'/\FC Z ν S H Z' ν' S' H' /\
   Steps P (lone (Fr b a (.inRegion ops (i::rest)::k)) cs w) (lone (Fr b a' (.inRegion ops rest::k)) cs w'):=by
  intro e hw
  cases hsh:shO ops o with
  | true=>
   rcases e with ⟨_,cs1,s,news,h1,h2,_,rfl⟩ | ⟨hn,_⟩
   ·obtain ⟨h3,rfl⟩:=ql3 hsh h1;exact qxe hx ho hd hw h3 h2 her hrel hp hg b k cs
   ·rw[qzu hsh] at hn;cases hn
  | false=>
  obtain ⟨S'',h1,h2⟩:=q5e hx.ty hsh e;obtain ⟨M',Z',ν',E',H',a',w',x1,x2,x3,x4,x5,x6,x7,x8⟩:=qd7 hx (rest:=rest) ho hd hw h1 her hrel hp hg b k cs;exact ⟨M',Z',ν',E',H',a',w',x1,x2,x3,x4,x5,x6.eqv h2,x7.eqv h2,x8⟩
 rcases h with ⟨hgd,h⟩ | ⟨j,want,d,bb,hgd,hj,hb,h⟩ | ⟨j,want,d,hgd,hj,hb,rfl⟩
 ·exact go h (by simp[qak,hgd])
 ·have hget:E.get d=some (.bool bb):=by
   obtain ⟨v,h1,h2⟩:=hp.env d _ hb;rw[h2.bool] at h1;exact h1
  have hw:qak ops o E=some (some bb == some want):=by simp[qak,hgd,qi6,hj,hget]
  rcases h with ⟨rfl,h⟩ | ⟨rfl,rfl⟩
  ·exact go h (by rw[hw];simp)
  ·have hput:∃ E',putE n o.dst undef E=some E':=by
    cases hdd:o.dst with
    | none=>exact ⟨E,rfl⟩
    | some d=>exact ⟨_,by simp only[putE];rw[if_pos (hd d hdd)]⟩
   obtain ⟨E',hE⟩:=hput;have hf:(some (!want) == some want)=false:=by cases want <;> rfl
   rw[hf] at hw;have hst:qbm P (λ f=>(lk C f).isSome) noEv n ops i (E,H)=some (E',H):=by simp[qbm,ho,qhm,hw,hE]
   have hF:∀ f,(λ f=>(lk C f).isSome) f=true->∀ args w,(callFunc f args).run P w=.ok (.enter f args) w:=by
    intro f hf;exact hx.enter f hf
   obtain ⟨M',a',w',x1,x2,x3,x4,x5,x6⟩:=qa0 (base:=base) hF (λ r res h=>by cases h) (rest:=rest) hst her hrel b k cs;exact ⟨M',Z,ν,E',H,a',w',x1,x2,x3,x4,x5,hp.put' hE (by intro s' h;cases h;exact VS.und),(FC.refl _ _ _ _).put' _ _,x6⟩
 ·have hget:E.get d=some (.tuple #[]):=by
   obtain ⟨v,h1,h2⟩:=hp.env d _ hb;rw[h2.isUnd] at h1;exact h1
  have hw:qak ops o E=some false:=by simp[qak,hgd,qi6,hj,hget]
  have hput:∃ E',putE n o.dst undef E=some E':=by
   cases hdd:o.dst with
   | none=>exact ⟨E,rfl⟩
   | some d=>exact ⟨_,by simp only[putE];rw[if_pos (hd d hdd)]⟩
  obtain ⟨E',hE⟩:=hput;have hst:qbm P (λ f=>(lk C f).isSome) noEv n ops i (E,H)=some (E',H):=by simp[qbm,ho,qhm,hw,hE]
  have hF:∀ f,(λ f=>(lk C f).isSome) f=true->∀ args w,(callFunc f args).run P w=.ok (.enter f args) w:=by
   intro f hf;exact hx.enter f hf
  obtain ⟨M',a',w',x1,x2,x3,x4,x5,x6⟩:=qa0 (base:=base) hF (λ r res h=>by cases h) (rest:=rest) hst her hrel b k cs;exact ⟨M',Z,ν,E',H,a',w',x1,x2,x3,x4,x5,hp.put' hE (by intro s' h;cases h;exact VS.und),(FC.refl _ _ _ _).put' _ _,x6⟩
theorem qq9 {S T:PS} {o:Oper} (h:Eqv S T) {cs:List Prop} {S':PS} (e:opnX tt G S o=some (cs,S')):∃ T',opnX tt G T o=some (cs,T')/\Eqv S' T':=by
 have hρ:pv G T.env=pv G S.env:=qxw λ t=>(h.1 t).symm
 unfold opnX at e;split at e
 next t p x hop=>
  split at e
  next hdd=>
   split at e
   next ti e0 id i off v hti hpp hxx=>
    split at e
    next l hl=>
     split at e
     next m s hol=>
      split at e
      next hcnd=>
       split at e
       next s' hsp=>cases e;refine ⟨_,?_,h.blk id (.var (l.take 2++s'))⟩;unfold opnX;simp only[hop,hdd,hti,hρ,hpp,hxx,<- h.2,hl,hol,hcnd,hsp]
       ·cases e
      ·cases e
     ·cases e
    ·cases e
   ·cases e
  ·cases e
 next c hop=>
  split at e
  next hcal=>
   split at e
   next d hdd=>
    split at e
    next s r2 e2 id2 t0 t1 hargs h0 h1=>
     split at e
     next et k0=>
      split at e
      next hseq=>
       split at e
       next ti s2 hti hl2=>
        split at e
        next hcnd=>
         split at e
         ·cases e;refine ⟨_,?_,(h.fresh none d _).with d _⟩
          unfold opnX;simp only[hop,hcal,hdd,hρ,hargs,h0,h1,k0,hseq,hti,<- h.2,hl2,hcnd]
         next e1 id n0=>
          split at e
          next et' u0 m e' xs s' hl1=>
           split at e
           next y hcnd2 hy=>cases e;refine ⟨_,?_,(h.fresh (some id) d _).with d _⟩;unfold opnX;simp only[hop,hcal,hdd,hρ,hargs,h0,h1,k0,hseq,hti,<- h.2,hl2,hcnd,hl1,hcnd2,hy]
           ·cases e
          ·cases e
         ·cases e
        ·cases e
       ·cases e
      ·cases e
     ·cases e
    ·cases e
   ·cases e
  ·cases e
 ·cases e
def StpX (tt:TT) (G:GV) (C:CV) (ops:Array Oper) (n i:Nat) (S S':PS):Prop:=
 ∃ o cs,ops[i]?=some o/\(∀ d,o.dst=some d->d<n/\d<500000)/\o.guard=none/\(qjh tt=true/\qya tt C ops o=true)/\(opnX tt G S o=some (cs,S')\/((isSt o || ciOp C o)=true/\qbe tt G C S o=some (cs,S')))/\∀ c∈cs,c
def ApM (ops:Array Oper) (S:PS) (o:Oper):Prop:=∃ t,argT o=some t/\((∃ r e g lo n,lk S.env t=some (.win r e g lo n)/\g ∉ wM ops o)\/lk S.env t=some .nils)
def StpY (tt:TT) (G:GV) (C:CV) (ops:Array Oper) (n i:Nat) (S S':PS):Prop:=
 ∃ o,ops[i]?=some o/\(∀ d,o.dst=some d->d<n/\d<500000)/\o.guard=none/\apOp o=true/\noM tt C ops o=false/\ExI tt G C S o S'/\ApM ops S o
def StpE (tt:TT) (G:GV) (C:CV) (ops:Array Oper) (n i:Nat) (S S':PS):Prop:=
 (StpD tt G C ops n i S S'/\∀ o,ops[i]?=some o->noM tt C ops o=true)\/StpX tt G C ops n i S S'\/StpY tt G C ops n i S S'
theorem ApM.eqv {ops:Array Oper} {S T:PS} {o:Oper} (h:Eqv S T) (k:ApM ops S o):ApM ops T o:=by
 obtain ⟨t,h1,h2⟩:=k;refine ⟨t,h1,?_⟩;rw[<- h.1];exact h2
theorem qr0 {ops:Array Oper} {S:PS} {o:Oper} {d:Nat} (ha:apOp o=true) (hd:o.dst=some d):(∀ {S':PS},ExI tt G C S o S'->∃ cs s gone lb,pW tt (pv G S.env) S.blk (some d) o=some (cs,(some s,.fresh gone lb))/\(∀ c∈cs,c)/\S'=(S.fresh gone d lb).with d s) /\
  ∀ {cs s gone lb},pW tt (pv G S.env) S.blk (some d) o=some (cs,(some s,.fresh gone lb))->(∀ c∈cs,c)->ExI tt G C S o ((S.fresh gone d lb).with d s):=by
 obtain ⟨⟨c,hc,hcal⟩,hg,_⟩:=qch ha;obtain ⟨e1,e2,e3,e5⟩:=qve (tt:=tt) (C:=C) (ops:=ops) ha (pv G S.env) S.blk;have hno:∀ d',exC C (pv G S.env) S.blk d' o=none/\exI G.mt C (pv G S.env) S d' o=none:=λ d'=>⟨by simp only[exC,hc,hcal],by simp only[exI,hc,hcal]⟩
 constructor
 ·rintro S' ⟨cs,h1,h2⟩;unfold qbe qe1 exO at h1;simp only[e1,e2,hd,e3,(hno d).1,(hno d).2] at h1
  cases hw:pW tt (pv G S.env) S.blk (some d) o with
  | none=>simp[hw] at h1
  | some r=>
   obtain ⟨c0,r0,a0⟩:=r;obtain ⟨⟨_,_,_,gone,_,rfl,rfl,_⟩,_⟩:=qu4 ha hw;simp only[hw] at h1;cases h1;exact ⟨_,_,_,_,rfl,h2,rfl⟩
 ·intro cs s gone lb hw hc2;refine ⟨cs,?_,hc2⟩;unfold qbe qe1 exO;simp only[e1,e2,hd,e3,hw]
theorem qfm {S:PS} {gone:Option Nat} {d:Nat} {lb:LB} (u:Nat):lk (S.fresh gone d lb).env u=if u=d then none else if gone=some u then none else (lk S.env u).map λ v=>kill d (qhu gone v):=by
 cases gone with
 | none=>
  simp only[PS.fresh,PS.kill,qaq,qbu,qhu];by_cases hu:u=d
  ·simp[hu]
  ·rw[if_neg hu,if_neg hu,if_neg (by simp)]
 | some g=>
  simp only[PS.fresh,PS.kill,qaq,qbu,qhu];by_cases hu:u=d
  ·simp[hu]
  ·rw[if_neg hu,if_neg hu];by_cases hug:u=g
   ·subst hug;simp
   ·rw[if_neg hug,if_neg (by simp;exact λ q=>hug q.symm)]
    cases lk S.env u <;> rfl
theorem qlr {S:PS} {gone:Option Nat} {d u:Nat} {lb:LB} {s v:SV} (h1:u≠d) (h2:gone≠some u):Eqv (((S.put (some u) (some v)).fresh gone d lb).with d s) (((S.fresh gone d lb).with d s).put (some u) (some (kill d (qhu gone v)))):=by
 constructor
 ·intro k
  show lk (st ((S.put (some u) (some v)).fresh gone d lb).env d s) k=lk (st (st (S.fresh gone d lb).env d s) u _) k
  simp only[qan,qfm,PS.put];by_cases hk:k=u
  ·subst hk;simp[h1,h2]
  ·by_cases hd:k=d
   ·subst hd;simp[hk]
   ·simp[hk,hd]
 ·intro k
  cases gone <;> rfl
theorem qjq {o:Oper} (h:mvO o=true):∃ t u,o.op=.move (.tmp t)/\o.guard=none/\o.dst=some u:=by
 unfold mvO at h;split at h
 next t hop=>simp only[Bool.and_eq_true,Option.isNone_iff_eq_none] at h;obtain ⟨h1,h2⟩:=h;obtain ⟨u,hu⟩:=Option.isSome_iff_exists.1 h2;exact ⟨t,u,hop,h1,hu⟩
 ·cases h
theorem qm2 {ops:Array Oper} {i:Nat} {o:Oper} {S:PS} (h:mvO o=true) (ho:ops[i]?=some o) {t u:Nat} (hop:o.op=.move (.tmp t)) (hu:o.dst=some u) :
  (∀ {S':PS},StpE tt G C ops n i S S'->(u<n/\u<500000)/\lk S.env u=none/\∃ v,lk S.env t=some v/\S'=S.put (some u) (some v)) /\
  ∀ {v:SV},(u<n/\u<500000)->lk S.env u=none->lk S.env t=some v->StpE tt G C ops n i S (S.put (some u) (some v)):=by
 obtain ⟨t',u',hop',hg,hu'⟩:=qjq h;have hl:qfh o=true:=by unfold qfh;rw[hop];simp[hg]
 have hnW:nonW C o=true:=by unfold nonW;rw[hop]
 have hn:nw C ops o=true:=by simp[nw,hnW,early,hop]
 have hap:apOp o=false:=by unfold apOp;rw[hop]
 have hpA:∀ {cs:List Prop} {s:SV},pA tt (pv G S.env) o=some (cs,s)↔cs=[]/\lk S.env t=some s:=by
  intro cs s;simp only[pA,hop,pv]
  cases lk S.env t with
  | none=>simp
  | some v=>simp[ok]
 constructor
 ·rintro S' (⟨h1,_⟩ | ⟨o',cs,ho',_,_,_,hx,_⟩ | ⟨o',ho',_,_,ha,_⟩)
  ·obtain ⟨⟨hd,hs⟩,s,⟨cs,hq,_⟩,rfl⟩:=(qia hl hn ho).1 h1;refine ⟨hd u hu,by simpa [qat,hu] using hs,s,?_,by rw[hu]⟩;rcases hq with hq | ⟨hq0,hq⟩
   ·exact (hpA.1 hq).2
   ·exfalso;simp only[pR,hop] at hq;cases hq
  ·rw[ho] at ho';cases ho';rcases hx with hx | ⟨hst,_⟩
   ·simp only[opnX,hop] at hx;cases hx
   ·simp[isSt,ciOp,hop] at hst
  ·rw[ho] at ho';cases ho';rw[hap] at ha;cases ha
 ·intro v hd hs hv;refine .inl ⟨?_,λ o' ho'=>by rw[ho] at ho';cases ho';simp only[noM,hap];cases qjh tt <;> rfl⟩
  have:=(qia (tt:=tt) (G:=G) (C:=C) (n:=n) (S:=S) hl hn ho).2 (s:=v) (λ d hd'=>by rw[hu] at hd';cases hd';exact hd) (by simp[qat,hu,hs]) ⟨[],.inl (hpA.2 ⟨rfl,hv⟩),by simp⟩;rw[hu] at this;exact this
theorem qqh {ops:Array Oper} {o p:Oper} {i u:Nat} (hp:ops[i]?=some p) (h:mvP ops o p=true) (hu:u∈p.looksAt ops\/p.dst=some u):u∈wM ops o:=by
 unfold wM;rw[List.mem_flatMap];refine ⟨p,?_,?_⟩
 ·rw[Array.mem_toList_iff];exact Array.mem_of_getElem? hp
 ·rw[h];simp only[List.mem_append];rcases hu with hu | hu
  ·exact .inr (by simpa using hu)
  ·exact .inl (by rw[hu];simp)
theorem qqo (ht:TTOK P tt) {ops:Array Oper}:Sw ops (StpE tt G C ops n) Eqv (swE tt C ops) where
 refl:=Eqv.refl
 trans _ _ _:=Eqv.trans
 cong i x x' y h e:=by
  rcases e with ⟨e,hn⟩ | ⟨o,cs,ho,hd,hg,hl,hx,hc⟩ | ⟨o,ho,hd,hg,ha,hl,⟨cs,hx,hc⟩,hm⟩
  ·obtain ⟨y',h1,h2⟩:=qqp h e;exact ⟨y',.inl ⟨h1,hn⟩,h2⟩
  ·rcases hx with hx | ⟨hst,hx⟩
   ·obtain ⟨y',h1,h2⟩:=qq9 h hx;exact ⟨y',.inr (.inl ⟨o,cs,ho,hd,hg,hl,.inl h1,hc⟩),h2⟩
   ·obtain ⟨y',h1,h2⟩:=qd8 h hx;exact ⟨y',.inr (.inl ⟨o,cs,ho,hd,hg,hl,.inr ⟨hst,h1⟩,hc⟩),h2⟩
  ·obtain ⟨y',h1,h2⟩:=qd8 h hx;exact ⟨y',.inr (.inr ⟨o,ho,hd,hg,ha,hl,⟨cs,h1,hc⟩,hm.eqv h⟩),h2⟩
 swap i j oi oj x x1 x2 hi hj hs h1 h2:=by
  have hmi:oi∈ops:=Array.mem_of_getElem? hi;have hmj:oj∈ops:=Array.mem_of_getElem? hj;have lateN:∀ {a b:Oper},b∈ops->(qjh tt=true/\qya tt C ops a=true)->swF tt C ops a b=false/\swF tt C ops b a=false/\mvP ops a b=false:=fun {a b} hb ⟨_,h⟩=>by
   obtain ⟨k,hk,rfl⟩:=Array.mem_iff_getElem.1 hb;have:=Array.all_eq_true.1 h k hk;simp only[Bool.and_eq_true,Bool.not_eq_true'] at this;exact this
  have lateMN:∀ {a b:Oper},b∈ops->qlb tt C ops a=true->apOp a=true/\(mvP ops a b=true\/(swF tt C ops a b=false/\swF tt C ops b a=false)):=fun {a b} hb h=>by
   unfold qlb at h;split at h
   next ha=>obtain ⟨k,hk,rfl⟩:=Array.mem_iff_getElem.1 hb;have:=Array.all_eq_true.1 h k hk;simp only[Bool.or_eq_true,Bool.and_eq_true,Bool.not_eq_true'] at this;exact ⟨ha,this⟩
   ·cases h
  have noMN:∀ {a:Oper},noM tt C ops a=false->qjh tt=true/\qlb tt C ops a=true:=fun {a} h=>by
   unfold noM at h;split at h
   next hfl=>
    split at h
    ·simp only[Bool.not_eq_false',Bool.and_eq_true] at h;exact ⟨hfl,h.2⟩
    ·cases h
   ·cases h
  have noMY:∀ {a b:Oper},qjh tt=true->b∈ops->qlb tt C ops a=true->mvP ops a b=true->noM tt C ops a=true->False:=fun {a b} hfl hb h1 h2 h3=>by
   unfold noM at h3;rw[hfl,(lateMN hb h1).1,h1] at h3;simp only[Bool.and_true,Bool.not_eq_true'] at h3;obtain ⟨k,hk,rfl⟩:=Array.mem_iff_getElem.1 hb;have:ops.any (λ p=>mvP ops a p)=true:=Array.any_eq_true.2 ⟨k,hk,h2⟩;rw[this] at h3;cases h3
  have mvF:∀ {a b:Oper},mvP ops a b=true->mvO b=true/\a.apart ops b=true/\b.apart ops a=true:=λ h=>by
   simp only[mvP,Bool.and_eq_true] at h;exact ⟨h.1,h.2.1,h.2.2.1⟩
  have mvap:∀ {a:Oper},mvO a=true->apOp a=false:=fun {a} h=>by
   obtain ⟨t,u,h1,_⟩:=qjq h;unfold apOp;rw[h1]
  -- the steps of a pair of a move and one that appends
  have key:qjh tt=true->∀ {a b:Oper},a∈ops->b∈ops->qlb tt C ops a=true->mvP ops a b=true->∀ {k:Nat} {y y':PS},ops[k]?=some a->StpE tt G C ops n k y y'->∃ d cs s gone lb,a.dst=some d/\(d<n/\d<500000)/\a.guard=none/\noM tt C ops a=false/\pW tt (pv G y.env) y.blk (some d) a=some (cs,(some s,.fresh gone lb))/\(∀ c∈cs,c)/\y'=(y.fresh gone d lb).with d s/\(∀ g,gone=some g->g ∉ wM ops a)/\ApM ops y a:=by
   intro hfl a b hma hmb hl hp k y y' hk h;rcases h with ⟨_,hn⟩ | ⟨o,cs,ho,hd,hg,hl2,hx,hc⟩ | ⟨o,ho,hd,hg,ha,hl2,hx,hm⟩
   ·exact (noMY hfl hmb hl hp (hn a hk)).elim
   ·rw[hk] at ho;cases ho;have:=(lateN hmb hl2).2.2;rw[hp] at this;cases this
   ·rw[hk] at ho;cases ho;obtain ⟨_,_,d,hdd⟩:=qch ha;obtain ⟨cs,s,gone,lb,hw,hc,hS⟩:=(qr0 (ops:=ops) ha hdd).1 hx;refine ⟨d,cs,s,gone,lb,hdd,hd d hdd,hg,hl2,hw,hc,hS,λ g hgo=>?_,hm⟩;obtain ⟨⟨_,_,_,gone',_,_,hacc,hgone⟩,_⟩:=qu4 ha hw;cases hacc;obtain ⟨t,ht1,ht2⟩:=hm;obtain ⟨r,e,lo,m,hq⟩:=(hgone g hgo).2 t ht1;have hq:lk y.env t=some (.win r e g lo m):=hq;rcases ht2 with ⟨r',e',g',lo',n',h3,h4⟩ | h3
    ·rw[hq] at h3;cases h3;exact h4
    ·rw[hq] at h3;cases h3
  have ymk:∀ {a:Oper} {k:Nat} {y:PS} {d:Nat} {cs:List Prop} {s:SV} {gone:Option Nat} {lb:LB},ops[k]?=some a->apOp a=true->a.dst=some d->(d<n/\d<500000)->a.guard=none->noM tt C ops a=false->ApM ops y a->pW tt (pv G y.env) y.blk (some d) a=some (cs,(some s,.fresh gone lb))->(∀ c∈cs,c)->StpE tt G C ops n k y ((y.fresh gone d lb).with d s):=
   λ hk ha hd hdn hg hno hm hw hc=>.inr (.inr ⟨_,hk,λ d' hd'=>by rw[hd] at hd';cases hd';exact hdn,hg,ha,hno,(qr0 (ops:=ops) ha hd).2 hw hc,hm⟩)
  have caseA:qjh tt=true->qlb tt C ops oi=true->mvP ops oi oj=true->∃ x3 x4,StpE tt G C ops n i x x3/\StpE tt G C ops n j x3 x4/\Eqv x2 x4:=by
   intro hfl hl hp;obtain ⟨q1,q2,q3⟩:=mvF hp;obtain ⟨t,u,hop,_,hu⟩:=qjq q1;obtain ⟨⟨hun,hux,v,hv,rfl⟩⟩:=And.intro ((qm2 q1 hj hop hu).1 h1) trivial;obtain ⟨d,cs,s,gone,lb,hd,hdn,hg,hno,hw,hc,rfl,hgo,hm⟩:=key hfl hmi hmj hl hp hi h2;have ha:=(lateMN hmj hl).1;obtain ⟨a1,a2⟩:=qa2 q2;obtain ⟨a1,a1'⟩:=a1 d hd;have a2:=a2 u hu;have htl:t∈oj.looksAt ops:=qai (by rw[hop];simp[Op.operands]);have hud:u≠d:=λ e=>a1' (e ▸ hu)
   have htd:t≠d:=λ e=>a1 (e ▸ htl)
   have hgu:gone≠some u:=λ e=>hgo u e (qqh hj hp (.inr hu))
   have hgt:¬ gone=some t:=λ e=>hgo t e (qqh hj hp (.inl htl))
   rw[qq6 ha (qr2 (ops:=ops) λ t' h=>by cases h;exact a2),qe8] at hw;have hmx:ApM ops x oi:=by
    obtain ⟨t',ht1,ht2⟩:=hm;refine ⟨t',ht1,?_⟩;have:t'≠u:=λ e=>a2 (e ▸ qh4 ht1)
    simpa [PS.put,qan,this] using ht2
   refine ⟨_,_,ymk hi ha hd hdn hg hno hmx hw hc,(qm2 q1 hj hop hu).2 (v:=kill d (qhu gone v)) hun ?_ ?_,qlr hud hgu⟩
   ·show lk (st (x.fresh gone d lb).env d s) u=none
    rw[qan,if_neg hud,qfm,if_neg hud,if_neg hgu,hux];rfl
   ·show lk (st (x.fresh gone d lb).env d s) t=_
    rw[qan,if_neg htd,qfm,if_neg htd,if_neg hgt,hv];rfl
  have caseB:qjh tt=true->qlb tt C ops oj=true->mvP ops oj oi=true->∃ x3 x4,StpE tt G C ops n i x x3/\StpE tt G C ops n j x3 x4/\Eqv x2 x4:=by
   intro hfl hl hp;obtain ⟨q1,q2,q3⟩:=mvF hp;obtain ⟨t,u,hop,_,hu⟩:=qjq q1;obtain ⟨d,cs,s,gone,lb,hd,hdn,hg,hno,hw,hc,rfl,hgo,hm⟩:=key hfl hmj hmi hl hp hj h1;obtain ⟨⟨hun,hux,v,hv,rfl⟩⟩:=And.intro ((qm2 q1 hi hop hu).1 h2) trivial;have ha:=(lateMN hmi hl).1;obtain ⟨a1,a2⟩:=qa2 q2;obtain ⟨a1,a1'⟩:=a1 d hd;have a2:=a2 u hu;have htl:t∈oi.looksAt ops:=qai (by rw[hop];simp[Op.operands]);have hud:u≠d:=λ e=>a1' (e ▸ hu)
   have htd:t≠d:=λ e=>a1 (e ▸ htl)
   have hgu:gone≠some u:=λ e=>hgo u e (qqh hi hp (.inr hu))
   have hgt:¬ gone=some t:=λ e=>hgo t e (qqh hi hp (.inl htl))
   have hux:lk (st (x.fresh gone d lb).env d s) u=none:=hux;have hv:lk (st (x.fresh gone d lb).env d s) t=some v:=hv;rw[qan,if_neg hud,qfm,if_neg hud,if_neg hgu,Option.map_eq_none_iff] at hux;rw[qan,if_neg htd,qfm,if_neg htd,if_neg hgt,Option.map_eq_some_iff] at hv;obtain ⟨v0,hv0,rfl⟩:=hv;have hmx:ApM ops (x.put (some u) (some v0)) oj:=by
    obtain ⟨t',ht1,ht2⟩:=hm;refine ⟨t',ht1,?_⟩;have:t'≠u:=λ e=>a2 (e ▸ qh4 ht1)
    simpa [PS.put,qan,this] using ht2
   rw[<- qq6 ha (qr2 (S:=x) (d:=some u) (s:=v0) (ops:=ops) λ t' h=>by cases h;exact a2),<- qe8 x (some u) v0] at hw;exact ⟨_,_,(qm2 q1 hi hop hu).2 (v:=v0) hun hux hv0,ymk hj ha hd hdn hg hno hmx hw hc,(qlr hud hgu).symm⟩
  have main:swN tt C ops oj oi=true->(qjh tt=true->swF tt C ops oj oi=true)->∃ x3 x4,StpE tt G C ops n i x x3/\StpE tt G C ops n j x3 x4/\Eqv x2 x4:=by
   intro hs hs2;rcases h1 with ⟨h1',n1⟩ | ⟨o,cs,ho,hd,hg,hl,hx,hc⟩ | ⟨o,ho,hd,hg,ha,hl,hx,hm⟩
   ·rcases h2 with ⟨h2',n2⟩ | ⟨o,cs,ho,hd,hg,hl,hx,hc⟩ | ⟨o,ho,hd,hg,ha,hl,hx,hm⟩
    ·obtain ⟨x3,x4,k1,k2,k3⟩:=(sw_ok ht).swap i j oi oj x x1 x2 hi hj hs h1' h2';exact ⟨x3,x4,.inl ⟨k1,n2⟩,.inl ⟨k2,n1⟩,k3⟩
    ·rw[hi] at ho;cases ho;have:=hs2 hl.1;rw[(lateN hmj hl).2.1] at this;cases this
    ·rw[hi] at ho;cases ho;obtain ⟨hf,hl⟩:=noMN hl;rcases (lateMN hmj hl).2 with hq | hq
     ·exact caseA hf hl hq
     ·have:=hs2 hf;rw[hq.2] at this;cases this
   ·rw[hj] at ho;cases ho;have:=hs2 hl.1;rw[(lateN hmi hl).1] at this;cases this
   ·rw[hj] at ho;cases ho;obtain ⟨hf,hl⟩:=noMN hl;rcases (lateMN hmi hl).2 with hq | hq
    ·exact caseB hf hl hq
    ·have:=hs2 hf;rw[hq.1] at this;cases this
  unfold swE at hs;split at hs
  next hf=>
   split at hs
   next hs2=>
    refine main ?_ λ _=>hs2
    unfold swF at hs2;split at hs2
    next h=>exact h
    ·cases hs2
   ·unfold swM at hs;split at hs
    ·simp only[Bool.and_eq_true] at hs;exact caseA hf hs.2 hs.1
    ·split at hs
     ·simp only[Bool.and_eq_true] at hs;exact caseB hf hs.2 hs.1
     ·cases hs
  next hf=>exact main hs λ h=>by rw[h] at hf;cases hf
theorem qu6 (hx:CxOK P tt G C) {M:Map} {Z:Nat->Option ABlk} {ν:Nu} {S S':PS} {E:T Value} {H:AHeap} {a:Act} {w:World} {ops:Array Oper} {i:Nat} {rest:List Nat} {o:Oper} {conds:List Prop} (ho:ops[i]?=some o) (hd:∀ d,o.dst=some d->d<n/\d<500000) (hw:qak ops o E=some true) (h:opnX tt G S o=some (conds,S')) (hc:∀ c∈conds,c) (her:ER M n E a.tmps) (hrel:Rel base M H w) (hp:PR Z ν S E H) (hg:GZ Z G) (b:Frame) (k:List Item) (cs:List Frame) :
  ∃ M' Z' ν' E' H' a' w',Ext M M'/\ER M' n E' a'.tmps/\a'.defers=a.defers/\Rel base M' H' w'/\Below base w w'/\PR Z' ν' S' E' H'/\FC Z ν S H Z' ν' S' H' /\
   Steps P (lone (Fr b a (.inRegion ops (i::rest)::k)) cs w) (lone (Fr b a' (.inRegion ops rest::k)) cs w'):=by
 obtain ⟨v,H',E',ν',hop,hput,q1,q2⟩:=qsm (F:=λ f=>(lk C f).isSome) hx.ty hp hg hrel.dom h hc hd;have hF:∀ f,(λ f=>(lk C f).isSome) f=true->∀ args w,(callFunc f args).run P w=.ok (.enter f args) w:=by
  intro f hf;exact hx.enter f hf
 have hst:qbm P (λ f=>(lk C f).isSome) noEv n ops i (E,H)=some (E',H'):=by
  rcases hop with hop | ⟨hop,rfl⟩
  ·simp[qbm,ho,qhm,hw,hop,hput]
  ·simp[qbm,ho,qhm,hw,hop,hput]
 obtain ⟨M',a',w',x1,x2,x3,x4,x5,x6⟩:=qa0 (base:=base) hF (λ r res h=>by cases h) (rest:=rest) hst her hrel b k cs;exact ⟨M',Z,ν',E',H',a',w',x1,x2,x3,x4,x5,q1,q2,x6⟩
theorem qqq (hx:CxOK P tt G C) {M:Map} {Z:Nat->Option ABlk} {ν:Nu} {S S':PS} {E:T Value} {H:AHeap} {a:Act} {w:World} {ops:Array Oper} {i:Nat} {rest:List Nat} (h:StpE tt G C ops n i S S') (her:ER M n E a.tmps) (hrel:Rel base M H w) (hp:PR Z ν S E H) (hg:GZ Z G) (b:Frame) (k:List Item) (cs:List Frame) :
  ∃ M' Z' ν' E' H' a' w',Ext M M'/\ER M' n E' a'.tmps/\a'.defers=a.defers/\Rel base M' H' w'/\Below base w w'/\PR Z' ν' S' E' H'/\FC Z ν S H Z' ν' S' H' /\
   Steps P (lone (Fr b a (.inRegion ops (i::rest)::k)) cs w) (lone (Fr b a' (.inRegion ops rest::k)) cs w'):=by
 rcases h with ⟨h,_⟩ | ⟨o,cs1,ho,hd,hgd,_,h,hc⟩ | ⟨o,ho,hd,hgd,_,_,h,_⟩
 ·exact qxd hx h her hrel hp hg b k cs
 ·rcases h with h | ⟨_,h⟩
  ·exact qu6 hx ho hd (by simp[qak,hgd]) h hc her hrel hp hg b k cs
  ·exact qd7 hx (rest:=rest) ho hd (by simp[qak,hgd]) ⟨cs1,h,hc⟩ her hrel hp hg b k cs
 ·exact qd7 hx (rest:=rest) ho hd (by simp[qak,hgd]) h her hrel hp hg b k cs
theorem qhb (hx:CxOK P tt G C) {ops:Array Oper}:∀ (l:List Nat) {M:Map} {Z:Nat->Option ABlk} {ν:Nu} {S S':PS} {E:T Value} {H:AHeap} {a:Act} {w:World},Runs (StpE tt G C ops n) l S S'->ER M n E a.tmps->Rel base M H w->PR Z ν S E H->GZ Z G->∀ (b:Frame) (k:List Item) (cs:List Frame),
  ∃ M' Z' ν' E' H' a' w',Ext M M'/\ER M' n E' a'.tmps/\a'.defers=a.defers/\Rel base M' H' w'/\Below base w w'/\PR Z' ν' S' E' H'/\FC Z ν S H Z' ν' S' H'/\Steps P (lone (Fr b a (.inRegion ops l::k)) cs w) (lone (Fr b a' k) cs w')
 | [],M,Z,ν,S,S',E,H,a,w,h,her,hrel,hp,hg,b,k,cs=>by
  cases h;exact ⟨M,Z,ν,E,H,a,w,Ext.refl M,her,rfl,hrel,Below.refl _ _,hp,FC.refl _ _ _ _,.one qg7⟩
 | i::l,M,Z,ν,S,S',E,H,a,w,⟨S1,h1,h2⟩,her,hrel,hp,hg,b,k,cs=>by
  obtain ⟨M1,Z1,ν1,E1,H1,a1,w1,x1,x2,x3,x4,x5,x6,x7,x8⟩:=qqq hx (rest:=l) h1 her hrel hp hg b k cs;obtain ⟨M2,Z2,ν2,E2,H2,a2,w2,y1,y2,y3,y4,y5,y6,y7,y8⟩:=qhb hx l h2 x2 x4 x6 (hg.mono x7.z) b k cs;exact ⟨M2,Z2,ν2,E2,H2,a2,w2,x1.trans y1,y2,y3.trans x3,y4,x5.trans y5,y6,x7.trans y7,x8.trans y8⟩
theorem GoodE.drawD (hx:CxOK P tt G C) {id:Nat} {ops:Array Oper} {k:List Item} {S S1:PS} (hd:qgc (swE tt C ops) ops=true) (hr:Runs (StpE tt G C ops n) (List.range ops.size) S S1) (h:GoodE P G f n rd Y K k g S1):GoodE P G f n rd Y K (.code (.region id ops true)::k) g S:=by
 refine .on (k:=k) λ base Yd J lr b cs M a w Z ν E H A B ds st=>?_
 obtain ⟨S2,hr2,he⟩:=qa9 hx.mix (qqo hx.ty) (w.tape w.drawn (.order b.fn id)) hd hr;obtain ⟨M1,Z1,ν1,E1,H1,a1,w1,y1,y2,y3,y4,y5,y6,y7,y8⟩:=qhb hx _ hr2 st.er (st.rel.of_heap (w':={ w with drawn:=w.drawn+1 }) rfl) st.pr st.gz b k cs;have y7':=y7.eqv he.symm;exact ⟨g,S1,M1,a1,w1,Z1,ν1,E1,H1,A,B,ds,st.next y1 y2 y3 y4 (y6.eqv he.symm) y7',y1,(show Below base w { w with drawn:=w.drawn+1 } from ⟨rfl,rfl,rfl,Nat.le_refl _,λ _ _=>rfl⟩).trans y5,.of y7',λ _ h=>.inl h,λ _=>rfl,.head qcq y8,h⟩
theorem qqf {S:PS} {d:Nat} {b:Bool} (h:lk S.env d=some (.bool b)):Eqv (S.with d (.bool b)) S:=
 ⟨λ t=>by
  simp only[PS.with,qan];split
  next e=>subst e;exact h.symm
  ·rfl,λ _=>rfl⟩
theorem qsw (ht:TTOK P tt) {ops:Array Oper} {S:PS} {o:Oper} {K:PS->Prop} (hap:ApP tt C ops S o/\StP tt G C ops S o) (h:exKO tt G C ops true S o K):∃ S' S'',ExD tt G C ops S o S''/\Eqv S'' S'/\K S':=by
 unfold exKO at h
 cases hsh:shO ops o with
 | true=>
  simp only[hsh,Bool.and_self] at h;split at h
  next cs s he=>rw[qbn] at h;exact ⟨_,_,.inl ⟨qzu hsh,cs,s,[],by unfold effN;rw[hsh];simp only[he],h.1,by simp,rfl⟩,Eqv.refl _,h.2⟩
  ·exact h.elim
 | false=>
 simp only[hsh,Bool.and_false] at h;obtain ⟨S',h1,h2,h3⟩:=qv0 h
 cases hn:nw C ops o with
 | true=>
  obtain ⟨S'',g1,g2⟩:=qvz ht (qmz hn) hsh (q5d (qmz hn) h1) (h2 rfl);exact ⟨S',S'',.inl ⟨hn,g1⟩,g2,h3⟩
 | false=>exact ⟨S',S',.inr ⟨hn,h1,hap⟩,Eqv.refl _,h3⟩
theorem qyb {ops:Array Oper} {i:Nat} {o:Oper} {S T:PS} {cs:List Prop} {S1:PS} (h:q2m tt G C true n ops S o=some (cs,S1)) (hc:∀ c∈cs,c) (he:Eqv T S) (ho:ops[i]?=some o):∃ T1,StpE tt G C ops n i T T1/\Eqv S1 T1:=by
 unfold q2m at h;split at h
 ·cases h
 rename_i hfl;rw[Bool.true_and] at hfl;split at h
 ·cases h
 next hg=>
  split at h
  next r hx=>
   split at h
   next hcnd=>cases h;simp only[Bool.and_eq_true] at hcnd;obtain ⟨T1,h1,h2⟩:=qq9 he.symm hx;exact ⟨T1,.inr (.inl ⟨o,cs,ho,qeq hcnd.1,hg,⟨hfl,hcnd.2⟩,.inl h1,hc⟩),h2⟩
   ·cases h
  ·split at h
   ·split at h
    next hcnd=>simp only[Bool.and_eq_true] at hcnd;obtain ⟨T1,h1,h2⟩:=qd8 he.symm h;exact ⟨T1,.inr (.inl ⟨o,cs,ho,qeq hcnd.2.1,hg,⟨hfl,hcnd.2.2⟩,.inr ⟨hcnd.1,h1⟩,hc⟩),h2⟩
    ·cases h
   next hap=>
    split at h
    next hcnd=>
     simp only[Bool.and_eq_true,Bool.not_eq_true'] at hcnd;obtain ⟨hd,hno,hso⟩:=hcnd;split at h
     next r hx=>
      cases h;obtain ⟨T1,h1,h2⟩:=qd8 he.symm hx;have hm:ApM ops S o:=by
       unfold q4n at hso;split at hso
       next t ht=>
        refine ⟨t,ht,?_⟩;split at hso
        next r e g lo m hl=>exact .inl ⟨r,e,g,lo,m,hl,by simpa using hso⟩
        next hl=>exact .inr hl
        ·cases hso
       ·cases hso
      exact ⟨T1,.inr (.inr ⟨o,ho,qeq hd,hg,hap,hno,⟨cs,h1,hc⟩,hm.eqv he.symm⟩),h2⟩
     ·cases h
    ·cases h
theorem qbg (ht:TTOK P tt) {ops:Array Oper}:∀ (l:List Nat) {S T:PS} {K:PS->Prop},Eqv T S->runO tt G C true n ops l S K->∃ S' S'',Runs (StpE tt G C ops n) l T S''/\Eqv S'' S'/\K S'
 | [],S,T,K,he,h=>⟨S,T,rfl,he,h⟩
 | i::l,S,T,K,he,h=>by
  simp only[runO] at h;split at h
  ·exact h.elim
  next o ho=>
   split at h
   next cs1 S1 hlt=>rw[qbn] at h;obtain ⟨hc1,h⟩:=h;obtain ⟨T1,hT1,hE1⟩:=qyb hlt hc1 he ho;obtain ⟨S',S'',g2,g3,g4⟩:=qbg ht l hE1.symm h;exact ⟨S',S'',⟨T1,hT1,g2⟩,g3,g4⟩
   rename_i hlt;split at h
   ·exact h.elim
   next hd=>
    simp only[Bool.and_eq_true,Bool.not_true,Bool.false_or,Bool.or_eq_true,Bool.not_eq_true'] at hd;obtain ⟨⟨hd,hs⟩,hnoM,hab⟩:=hd;have hnoM:∀ o',ops[i]?=some o'->noM tt C ops o'=true:=λ o' ho'=>by rw[ho] at ho';cases ho';exact hnoM
    have hd:=qeq hd;have hapS:ApP tt C ops S o/\StP tt G C ops S o:=⟨q5q hab.1,q4m hab.2⟩;have hsT:nw C ops o=true->qat T o=true:=by
     intro hn;rw[qg9 he.symm];rcases hs with hs | hs
     ·rw[hn] at hs;cases hs
     ·exact hs
    have ex:∀ {S0:PS},Eqv T S0->exKO tt G C ops true S0 o (λ S'=>runO tt G C true n ops l S' K)->∃ T1,ExD tt G C ops T o T1/\∃ S' S'',Runs (StpE tt G C ops n) l T1 S''/\Eqv S'' S'/\K S':=by
     intro S0 he0 h0;obtain ⟨S1,S2,g1,g2,g3⟩:=qsw (ops:=ops) ht ⟨hapS.1.eqv (he.symm.trans he0),hapS.2.eqv (he.symm.trans he0)⟩ h0;obtain ⟨T1,g4,g5⟩:=qp1 he0.symm g1;exact ⟨T1,g4,qbg ht l (g5.symm.trans g2) g3⟩
    have skip:∀ {S0:PS},Eqv T S0->runO tt G C true n ops l (S0.put o.dst (some (.tup []))) K->∃ S' S'',Runs (StpE tt G C ops n) l (T.put o.dst (some (.tup []))) S''/\Eqv S'' S'/\K S':=
     λ he0 h0=>qbg ht l (he0.put o.dst _) h0
    split at h
    next hg=>obtain ⟨T1,g1,S',S'',g2,g3,g4⟩:=ex he h;exact ⟨S',S'',⟨T1,.inl ⟨⟨o,ho,hd,hsT,.inl ⟨hg,g1⟩⟩,hnoM⟩,g2⟩,g3,g4⟩
    next j want hg=>
     split at h
     ·exact h.elim
     next d hj=>
      split at h
      next b hb=>
       have hbT:lk T.env d=some (.bool b):=by rw[he.1];exact hb
       rw[ql6] at h;obtain ⟨ht',hf⟩:=h
       cases b with
       | true=>
        have ht':=ht' rfl;have hw:Eqv T (S.with d (.bool true)):=he.trans (qqf hb).symm
        cases want with
        | true=>
         obtain ⟨T1,g1,S',S'',g2,g3,g4⟩:=ex hw ht';exact ⟨S',S'',⟨T1,.inl ⟨⟨o,ho,hd,hsT,.inr (.inl ⟨j,true,d,true,hg,hj,hbT,.inl ⟨rfl,g1⟩⟩)⟩,hnoM⟩,g2⟩,g3,g4⟩
        | false=>
         obtain ⟨S',S'',g2,g3,g4⟩:=skip hw ht';exact ⟨S',S'',⟨_,.inl ⟨⟨o,ho,hd,hsT,.inr (.inl ⟨j,false,d,true,hg,hj,hbT,.inr ⟨rfl,rfl⟩⟩)⟩,hnoM⟩,g2⟩,g3,g4⟩
       | false=>
        have hf:=hf rfl;have hw:Eqv T (S.with d (.bool false)):=he.trans (qqf hb).symm
        cases want with
        | true=>
         obtain ⟨S',S'',g2,g3,g4⟩:=skip hw hf;exact ⟨S',S'',⟨_,.inl ⟨⟨o,ho,hd,hsT,.inr (.inl ⟨j,true,d,false,hg,hj,hbT,.inr ⟨rfl,rfl⟩⟩)⟩,hnoM⟩,g2⟩,g3,g4⟩
        | false=>
         obtain ⟨T1,g1,S',S'',g2,g3,g4⟩:=ex hw hf;exact ⟨S',S'',⟨T1,.inl ⟨⟨o,ho,hd,hsT,.inr (.inl ⟨j,false,d,false,hg,hj,hbT,.inl ⟨rfl,g1⟩⟩)⟩,hnoM⟩,g2⟩,g3,g4⟩
      next hb=>
       have hbT:lk T.env d=some (.tup []):=by rw[he.1];exact hb
       obtain ⟨S',S'',g2,g3,g4⟩:=skip he h;exact ⟨S',S'',⟨_,.inl ⟨⟨o,ho,hd,hsT,.inr (.inr ⟨j,want,d,hg,hj,hbT,rfl⟩)⟩,hnoM⟩,g2⟩,g3,g4⟩
      ·exact h.elim
theorem q2x (hx:CxOK P tt G C) {id:Nat} {ops:Array Oper} {k:List Item} {S:PS} (hd:qgc (swE tt C ops) ops=true) {K':PS->Prop} (h:runO tt G C true n ops (List.range ops.size) (loses C S ops) K') (hk:∀ S',K' S'->GoodE P G f n rd Y K k g S'):GoodE P G f n rd Y K (.code (.region id ops true)::k) g S:=by
 obtain ⟨S',S'',h1,h2,h3⟩:=qbg hx.ty _ (Eqv.refl _) h;exact GoodE.less (qjr C S ops) (λ t s h=>h) (GoodE.drawD hx hd h1 ((hk S' h3).eqv h2.symm))
end
section
variable {P:Program} {tt:TT} {Z Z':Nat->Option ABlk} {ν:Nu} {S S':PS} {E:T Value} {H:AHeap}
theorem qni {k2 k3:IntKind} {b c:Int} {len cap:Nat} (h1:0<=b) (h2:b<=c) (h3:c<=(cap:Int)) :
  qaa P (Instr.sliceBounds true len cap none (some (.int k2 b)) (some (.int k3 c)))=some (0,b.toNat,c.toNat):=by
 have h4:0<=c:=by omega
 have h6:b<=max c 0:=by omega
 simp[Instr.sliceBounds,Instr.sliceBound,asIntOf,qac,h1,h3,h4,h6]
theorem q2o (ht:TTOK P tt) (hp:PR Z' ν S' E H) {t et:TypeId} {ti:TI} (hk:kOf tt t=some (.slice et)) (hti:lk tt et=some ti) {e:Sh} (hsz:ti.size=e.size) {id n:Nat} {xs:List e.D} {vx:Value} (hw:WinR true ν e id 0 n vx) (hs:SlR Z' (λ x u=>RV Z' e x u) e.size xs vx) (hn:xs.length=n) (hb:n<1099511627776) (k2 k3:IntKind) :
  ∃ res,qbv P H t vx none (some (.int k2 (n:Int))) (some (.int k3 (n:Int)))=some res/\VS Z' ν (.sl e xs) res:=by
 have hkk:=ht.kind hk;have htt:=ht _ _ hti;simp only[KOK] at hkk;have nil:vx=.slice none 0 0->n=0->∃ res,qbv P H t vx none (some (.int k2 (n:Int))) (some (.int k3 (n:Int)))=some res/\VS Z' ν (.sl e xs) res:=by
  rintro rfl rfl;have hx:=List.eq_nil_of_length_eq_zero hn;subst hx;have h1:=qni (P:=P) (k2:=k2) (k3:=k3) (b:=((0:Nat):Int)) (c:=((0:Nat):Int)) (len:=0) (cap:=0) (by omega) (by omega) (by omega);have:qaa P (Instr.sliceAt t (.slice none 0 0) none (some (.int k2 ((0:Nat):Int))) (some (.int k3 ((0:Nat):Int))))=some (.slice none 0 0):=by
   simp only[Instr.sliceAt,Instr.slice,qad,hkk,Option.bind_some,h1,htt.size,qac];rfl
  refine ⟨.slice none 0 0,?_,VS.mkSl (.inl ⟨rfl,.inl rfl⟩)⟩;simp only[qbv,this];rfl
 unfold WinR at hw;split at hw
 ·obtain ⟨_,h0,hv⟩:=hw;rcases hv with hv | ⟨hr,_⟩
  ·exact nil hv h0
  ·cases hr
 next ni hni=>
  rcases hw with ⟨hr,_⟩ | ⟨cap,rfl,hcap⟩
  ·cases hr
  ·rcases hs with ⟨_,hv | hv⟩ | ⟨x,off,cap',cs',et',k,hv,hz,hl,hrv,hc2⟩
   ·cases hv
   ·simp[emptySlice] at hv
   ·rw[Value.slice.injEq] at hv;obtain ⟨ha,hln,rfl⟩:=hv;rw[Option.some.injEq,Addr.mk.injEq] at ha;obtain ⟨rfl,hoff,_⟩:=ha;have hoff:off=0:=by rw[<- hoff,Nat.zero_mul]
    subst hoff;subst hn;have n0:(((xs.length:Nat):Int)).toNat=xs.length:=Int.toNat_natCast _;have res:VS Z' ν (.sl e xs) (.slice (some ⟨ni.b,0,none⟩) xs.length xs.length):=
     VS.mkSl (.inr ⟨_,_,_,_,_,_,rfl,hz,hl,hrv,.inr ⟨Nat.le_refl _,by omega⟩⟩)
    have no:¬ (xs.length-0=qae):=by unfold qae;omega
    have fin:(if xs.length=0 then (⟨ni.b,0*e.size,none⟩:Addr) else (⟨ni.b,0*e.size,none⟩:Addr).add (0*ti.size))=⟨ni.b,0,none⟩:=by
     rw[Nat.zero_mul,Nat.zero_mul];split <;> rfl
    rcases hc2 with ⟨rfl,rfl,hmod⟩ | ⟨h1,h2⟩
    ·have hb3:=qni (P:=P) (k2:=k2) (k3:=k3) (b:=(xs.length:Int)) (c:=(xs.length:Int)) (len:=xs.length) (cap:=xs.length) (by omega) (by omega) (by omega);rw[n0] at hb3;refine ⟨_,?_,res⟩;simp only[qbv,hkk];rw[if_neg (by simp),if_pos trivial];have hx0:=(hp.zh _ _ hz).1;simp only[hx0,htt.size,hb3];rw[if_pos ⟨by rw[hsz],by rw[Nat.zero_mul,Nat.zero_mod],by rw[hsz,Nat.zero_mul];exact hl,trivial,no⟩,fin];rfl
    ·have n1:cap≠qae:=by unfold qae;omega
     have hb3:=qni (P:=P) (k2:=k2) (k3:=k3) (b:=(xs.length:Int)) (c:=(xs.length:Int)) (len:=xs.length) (cap:=cap) (by omega) (by omega) (by omega);rw[n0] at hb3;refine ⟨_,?_,res⟩;simp only[qbv,hkk];rw[if_neg (by simp),if_neg n1];simp only[htt.size,hb3];rw[if_pos ⟨trivial,no⟩,fin];rfl
end
def fulC (tt:TT) (G:GV) (S:PS) (o:Oper):Option (Nat × Nat × SV × List Prop):=
 match o.op with
 | .slice t (.tmp j) none (some hi) (some mx)=>match o.dst,lk S.env j,pv G S.env hi,pv G S.env mx,kOf tt t with
  | some d,some (.win true e id 0 n),some (.int _ a),some (.int _ b),some (.slice et)=>match lk S.blk id,lk tt et with
   | some (.row _ e' xs),some ti=>if h:e'=e then if ti.size=e.size then some (d,id,.sl e (h ▸ xs),[n=xs.length,a=(n:Int),b=(n:Int),n<1099511627776]) else none else none
   | _,_=>none
  | _,_,_,_,_=>none
 | _=>none
theorem qvt {tt:TT} {G:GV} {S:PS} {o:Oper} {d id:Nat} {s:SV} {cs:List Prop} (h:fulC tt G S o=some (d,id,s,cs)):∃ (t:TypeId) (j:Nat) (hi mx:Operand) (e:Sh) (n:Nat) (k2:IntKind) (a:Int) (k3:IntKind) (b:Int) (et ty:TypeId) (xs:List e.D) (ti:TI),
  o.op=.slice t (.tmp j) none (some hi) (some mx)/\o.dst=some d/\lk S.env j=some (.win true e id 0 n)/\pv G S.env hi=some (.int k2 a)/\pv G S.env mx=some (.int k3 b)/\kOf tt t=some (.slice et)/\lk S.blk id=some (.row ty e xs)/\lk tt et=some ti/\ti.size=e.size/\s=.sl e xs/\cs=[n=xs.length,a=(n:Int),b=(n:Int),n<1099511627776]:=by
 unfold fulC at h;split at h
 next t j hi mx hop=>
  split at h
  next d' e id' n k2 a k3 b et hdst h1 h2 h3 hk=>
   split at h
   next ty e' xs ti hl hti=>
    split at h
    next he=>
     subst he;split at h
     next hsz=>cases h;exact ⟨t,j,hi,mx,_,n,k2,a,k3,b,et,ty,xs,ti,hop,hdst,h1,h2,h3,hk,hl,hti,hsz,rfl,rfl⟩
     ·cases h
    ·cases h
   ·cases h
  ·cases h
 ·cases h
section
variable {P:Program} {tt:TT} {G:GV} {C:CV} {n:Nat}
theorem q2p (hx:CxOK P tt G C) {ops:Array Oper} {i:Nat} {l:List Nat} {o:Oper} {S:PS} {d id:Nat} {s:SV} {cs0:List Prop} (hn:fulC tt G S o=some (d,id,s,cs0)) (hc0:∀ c∈cs0,c) (hcf:∀ c∈(frzN [id] S).1,c) (ho:ops[i]?=some o) (hd:∀ d,o.dst=some d->d<n/\d<500000)
  {base:Prot} {M:Map} {a:Act} {w:World} {Z:Nat->Option ABlk} {ν:Nu} {E:T Value} {H:AHeap} (hw:qak ops o E=some true) (her:ER M n E a.tmps) (hrel:Rel base M H w) (hp:PR Z ν S E H) (hg:GZ Z G) (b:Frame) (k:List Item) (cs:List Frame) :
  ∃ Z' M' E' H' a' w',Ext M M'/\ER M' n E' a'.tmps/\a'.defers=a.defers/\Rel base M' H' w'/\Below base w w'/\PR Z' ν ((frzN [id] S).2.with d s) E' H'/\GZ Z' G/\FC Z ν S H Z' ν ((frzN [id] S).2.with d s) H' /\
   Steps P (lone (Fr b a (.inRegion ops (i::l)::k)) cs w) (lone (Fr b a' (.inRegion ops l::k)) cs w'):=by
 obtain ⟨t,j,hi,mx,e,m,k2,va,k3,vb,et,ty,xs,ti,hop,hdst,h1,h2,h3,hk,hl,hti,hsz,rfl,rfl⟩:=qvt hn;have q1:m=xs.length:=hc0 _ (by simp);have q2:va=(m:Int):=hc0 _ (by simp);have q3:vb=(m:Int):=hc0 _ (by simp);have q4:m<1099511627776:=hc0 _ (by simp);subst q2 q3;have hρ:=qbr hp hg;obtain ⟨vx,hvx,hsx⟩:=hρ (.tmp j) _ (show pv G S.env (.tmp j)=_ from h1);obtain ⟨vh,hvh,hsh⟩:=hρ _ _ h2;obtain ⟨vm,hvm,hsm⟩:=hρ _ _ h3;have eh:vh=.int k2 (m:Int):=by
  have:CR Z ν (.int k2 (m:Int)) [vh]:=hsh;simp only[CR] at this
  cases this;rfl
 have em:vm=.int k3 (m:Int):=by
  have:CR Z ν (.int k3 (m:Int)) [vm]:=hsm;simp only[CR] at this
  cases this;rfl
 subst eh em;obtain ⟨Z',hp',hfc,hz⟩:=qgx [id] hp hcf;have hS:(frzN [id] S).2=S.frzR id e xs:=by simp only[frzN,hl]
 have hg':GZ Z' G:=hg.mono hz;have hvs:pv G (frzN [id] S).2.env (.tmp j)=some (.sl e xs):=by
  rw[hS]
  show lk (PS.frzR id e xs S).env j=_
  simp only[PS.frzR,qaq,h1,Option.map_some];subst q1;simp only[frzS,decide_true];rw[dif_pos trivial];unfold winL;rw[List.drop_zero,List.take_length]
 obtain ⟨vx',hvx',hsx'⟩:=qbr hp' hg' (.tmp j) _ hvs;rw[hvx] at hvx'
 cases hvx'
 obtain ⟨r,hr,hvr⟩:=q2o (H:=H) hx.ty hp' hk hti hsz hsx.win hsx'.sl q1.symm q4 k2 k3;have hF:∀ f,(λ f=>(lk C f).isSome) f=true->∀ args w,(callFunc f args).run P w=.ok (.enter f args) w:=by
  intro f hf;exact hx.enter f hf
 obtain ⟨E',hE⟩:∃ E',putE n (some d) r E=some E':=⟨_,by simp only[putE];rw[if_pos (hd d hdst)]⟩;have hop2:aOp P (λ f=>(lk C f).isSome) (qcx E) H o=some (.val r,H):=by
  obtain ⟨dst,op,type,pos,after,guard⟩:=o;simp only at hop;subst hop;have e0:aOpt (qcx E) none=some none:=rfl;have e1:aOpt (qcx E) (some hi)=some (some (.int k2 (m:Int))):=by simp[aOpt,hvh,flat]
  have e2:aOpt (qcx E) (some mx)=some (some (.int k3 (m:Int))):=by simp[aOpt,hvm,flat]
  simp[aOp,hvx,e0,e1,e2,hr]
 have hst:qbm P (λ f=>(lk C f).isSome) noEv n ops i (E,H)=some (E',H):=by
  simp[qbm,ho,qhm,hw,hop2,hdst,hE]
 obtain ⟨M',a',w',x1,x2,x3,x4,x5,x6⟩:=qa0 (base:=base) hF (λ r res h=>by cases h) (rest:=l) hst her hrel b k cs;exact ⟨Z',M',E',H,a',w',x1,x2,x3,x4,x5,hp'.put hE hvr,hg',hfc.trans (FC.same λ _=>rfl),x6⟩
end
end Go.Px
