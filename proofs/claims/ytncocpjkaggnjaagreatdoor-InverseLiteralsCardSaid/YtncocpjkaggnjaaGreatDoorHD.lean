/-
  A part of the proof: a run over an abstract memory, its soundness and its rules; each theorem says its conditions.
-/
import Derived.Test.YtncocpjkaggnjaaGreatDoorHC
import Derived.Test.YtncocpjkaggnjaaGreatDoorGD
import Derived.Test.YtncocpjkaggnjaaGreatDoorGE
set_option linter.unusedVariables false
set_option linter.unusedSimpArgs false
namespace Go.Px
open Ax
def envOf:Nat→(as:List Sh)→DL as→List (Nat × SV)
 | _,[],_=>[]
 | k,σ::as,x=>(k,ofD σ x.1)::envOf (k+1) as x.2
def entry (as:List Sh) (x:DL as):PS:=⟨envOf 0 as x,[]⟩
mutual
def Mt (π:Nat→Option Nat):SV→SV→Prop
 | .win r e id lo n,s=>(∃ r' id',s=.win r' e id' lo n∧π id=some id'∧(r=true→r'=true))∨(s=.nils∧π id=none∧lo=0∧n=0)
 | .agg l,s=>∃ m,s=.agg m∧MtL π l m
 | .nils,s=>s=.nils
 | .dead,s=>s=.dead
 | .int k n,s=>s=.int k n
 | .bool b,s=>s=.bool b
 | .str l,s=>s=.str l
 | .sl e l,s=>s=.sl e l∨(s=.nils∧l=[])
 | .arr n e l,s=>s=.arr n e l
 | .ptr id off,s=>∃ id',s=.ptr id' off∧π id=some id'
 | .mp id,s=>∃ id',s=.mp id'∧π id=some id'
 | .yl l,s=>s=.yl l
 | .nilm,s=>s=.nilm
 | .ifc t g l,s=>∃ m,s=.ifc t g m∧MtL π l m
 | .elp _ _ _ _,_=>False
 | .aep _ _ _ _ _,_=>False
 | .elv σ x,s=>s=.elv σ x
 | .tup _,_=>False
 | .fn f a c,s=>∃ a' c',s=.fn f a' c'∧MtL π a a'∧MtL π c c'
def MtL (π:Nat→Option Nat):List SV→List SV→Prop
 | [],m=>m=[]
 | s::l,m=>∃ t r,m=t::r∧Mt π s t∧MtL π l r
end
def MtR (π:Nat→Option Nat) (blk:List (Nat × LB)):Nat→List LB→Prop
 | _,[]=>True
 | i,lb::l=>((∃ id,π i=some id∧lk blk id=some lb)∨(π i=none∧∃ et e,lb=.row et e []∧0<e.size))∧MtR π blk (i+1) l
def QC (ct:Ctr) (x:DL ct.args) (rs:List SV) (blk:List (Nat × LB)):Prop:=
 ∃ π:Nat→Option Nat,MtL π (ct.out x) rs∧MtR π blk 0 (ct.rows x)∧(∀ i j a,π i=some a→π j=some a→i=j)∧(ct.rows x).all isRow=true
section
variable {P:Program} {tt:TT} {G:GV} {C:CV} {Z:Nat→Option ABlk} {ν:Nu} {S:PS} {E:T Value} {H:AHeap}
theorem setArgs_get:∀ (vs:List Value) (k:Nat) (E:T Value) (t:Nat),k+vs.length<1000→(setArgs k vs E).get t=if k≤t∧t<k+vs.length then vs[t-k]? else E.get t
 | [],k,E,t,_=>by simp only[setArgs,List.length_nil];rw[if_neg (by omega)]
 | v::vs,k,E,t,h=>by
  simp only[List.length_cons] at h
  simp only[setArgs]
  rw[setArgs_get vs (k+1) _ t (by omega)]
  by_cases h1:t=k
  ·subst h1
   rw[if_neg (by omega),if_pos (by simp),T.get_set_same 20 _ _ _ (by omega)]
   simp
  ·by_cases h2:k+1≤t∧t<k+1+vs.length
   ·rw[if_pos h2,if_pos (by simp only[List.length_cons];omega)]
    rw[show t-k=(t-(k+1))+1 by omega,List.getElem?_cons_succ]
   ·rw[if_neg h2,T.get_set_other _ _ _ _ _ h1,if_neg (by simp only[List.length_cons];omega)]
theorem envOf_get:∀ (as:List Sh) (x:DL as) (k:Nat) {vs:List Value} {t:Nat} {s:SV},VArgs Z as x vs→lk (envOf k as x) t=some s→k≤t∧∃ v,vs[t-k]?=some v∧VS Z ν s v
 | [],x,k,vs,t,s,h,e=>by simp[envOf,lk] at e
 | σ::as,x,k,vs,t,s,⟨v,w,hv,h1,h2⟩,e=>by
  subst hv
  simp only[envOf,lk] at e
  split at e
  ·rename_i hk;subst hk;cases e
   exact ⟨Nat.le_refl _,v,by simp,h1 ν⟩
  ·obtain ⟨h3,v',h4,h5⟩:=envOf_get as x.2 (k+1) h2 e
   exact ⟨by omega,v',by rw[show t-k=(t-(k+1))+1 by omega,List.getElem?_cons_succ];exact h4,h5⟩
theorem VArgs.length:∀ {as:List Sh} {x:DL as} {vs:List Value},VArgs Z as x vs→vs.length=as.length
 | [],_,_,h=>by simp only[VArgs] at h;subst h;rfl
 | _::_,_,_,⟨v,w,e,_,h2⟩=>by subst e;simp[VArgs.length h2]
mutual
theorem CR.mt {π:Nat→Option Nat}:∀ (s t:SV) (vs:List Value),Mt π s t→CR Z ν t vs→CR Z (fun i=>(π i).bind ν) s vs
 | .win r e id lo n,t,vs,m,h=>by
  simp only[Mt] at m
  rcases m with ⟨r',id',rfl,hp,hr⟩ | ⟨rfl,hp,rfl,rfl⟩
  ·simp only[CR,WinR,hp,Option.bind_some] at h ⊢
   obtain ⟨v,rfl,h⟩:=h
   refine ⟨v,rfl,?_⟩
   cases hn:ν id' with
   | none=>
    rw[hn] at h
    simp only at h ⊢
    obtain ⟨h1,h2,h3⟩:=h
    refine ⟨h1,h2,?_⟩
    rcases h3 with h3 | ⟨h3,h4⟩
    ·exact .inl h3
    ·cases r with
     | true=>rw[hr rfl] at h3;cases h3
     | false=>exact .inr ⟨rfl,h4⟩
   | some ni=>
    rw[hn] at h
    simp only at h ⊢
    rcases h with ⟨h1,h2⟩ | h
    ·cases r with
     | true=>rw[hr rfl] at h1;cases h1
     | false=>exact .inl ⟨rfl,h2⟩
    ·exact .inr h
  ·simp only[CR] at h
   subst h
   simp only[CR,WinR,hp,Option.bind_none]
   exact ⟨_,rfl,trivial,trivial,.inl rfl⟩
 | .agg l,t,vs,m,h=>by
  simp only[Mt] at m
  obtain ⟨m',rfl,m⟩:=m
  simp only[CR] at h ⊢
  exact CRL.mt l m' vs m h
 | .nils,t,vs,m,h=>by simp only[Mt] at m;subst m;exact h
 | .dead,t,vs,m,h=>by simp only[Mt] at m;subst m;exact h
 | .int k n,t,vs,m,h=>by simp only[Mt] at m;subst m;exact h
 | .bool b,t,vs,m,h=>by simp only[Mt] at m;subst m;exact h
 | .str l,t,vs,m,h=>by simp only[Mt] at m;subst m;exact h
 | .sl e l,t,vs,m,h=>by
  simp only[Mt] at m
  rcases m with rfl | ⟨rfl,rfl⟩
  ·exact h
  ·simp only[CR] at h;subst h
   simp only[CR,RV]
   exact ⟨_,rfl,.inl ⟨rfl,.inl rfl⟩⟩
 | .arr n e l,t,vs,m,h=>by simp only[Mt] at m;subst m;exact h
 | .elv σ x,t,vs,m,h=>by simp only[Mt] at m;subst m;exact h
 | .ptr id off,t,vs,m,h=>by
  simp only[Mt] at m
  obtain ⟨id',rfl,hp⟩:=m
  simp only[CR] at h ⊢
  obtain ⟨ni,h1,h2⟩:=h
  exact ⟨ni,by rw[hp];exact h1,h2⟩
 | .mp id,t,vs,m,h=>by
  simp only[Mt] at m
  obtain ⟨id',rfl,hp⟩:=m
  simp only[CR] at h ⊢
  obtain ⟨ni,h1,h2⟩:=h
  exact ⟨ni,by rw[hp];exact h1,h2⟩
 | .yl l,t,vs,m,h=>by simp only[Mt] at m;subst m;exact h
 | .nilm,t,vs,m,h=>by simp only[Mt] at m;subst m;exact h
 | .ifc t0 g l,t,vs,m,h=>by
  simp only[Mt] at m
  obtain ⟨m',rfl,m⟩:=m
  simp only[CR] at h ⊢
  obtain ⟨us,v,h1,h2,h3⟩:=h
  exact ⟨us,v,CRL.mt l m' us m h1,h2,h3⟩
 | .elp _ _ _ _,_,_,m,_=>by simp only[Mt] at m
 | .aep _ _ _ _ _,_,_,m,_=>by simp only[Mt] at m
 | .tup _,_,_,m,_=>by simp only[Mt] at m
 | .fn f a c,t,vs,m,h=>by
  simp only[Mt] at m
  obtain ⟨a',c',rfl,m1,m2⟩:=m
  simp only[CR] at h ⊢
  obtain ⟨va,vc,h1,h2,h3⟩:=h
  exact ⟨va,vc,h1,CRO.mt a a' va m1 h2,CRO.mt c c' vc m2 h3⟩
theorem CRL.mt {π:Nat→Option Nat}:∀ (l m:List SV) (vs:List Value),MtL π l m→CRL Z ν m vs→CRL Z (fun i=>(π i).bind ν) l vs
 | [],m,vs,e,h=>by simp only[MtL] at e;subst e;exact h
 | s::l,m,vs,e,h=>by
  simp only[MtL] at e
  obtain ⟨t,r,rfl,h1,h2⟩:=e
  simp only[CRL] at h ⊢
  obtain ⟨u,w,e,h3,h4⟩:=h
  exact ⟨u,w,e,CR.mt s t u h1 h3,CRL.mt l r w h2 h4⟩
theorem CRO.mt {π:Nat→Option Nat}:∀ (l m:List SV) (vs:List Value),MtL π l m→CRO Z ν m vs→CRO Z (fun i=>(π i).bind ν) l vs
 | [],m,vs,e,h=>by simp only[MtL] at e;subst e;exact h
 | s::l,m,vs,e,h=>by
  simp only[MtL] at e
  obtain ⟨t,r,rfl,h1,h2⟩:=e
  simp only[CRO] at h ⊢
  obtain ⟨u,w,e,h3,h4⟩:=h
  exact ⟨u,w,e,CR.mt s t [u] h1 h3,CRO.mt l r w h2 h4⟩
end
theorem V1.mt {π:Nat→Option Nat} {s t:SV} {v:Value} (m:Mt π s t) (h:V1 Z ν t v):V1 Z (fun i=>(π i).bind ν) s v:=by
 cases s with
 | agg l=>
  simp only[Mt] at m
  obtain ⟨m',rfl,m⟩:=m
  obtain ⟨vs,e,h⟩:=h
  exact ⟨vs,e,CRL.mt l m' vs m h⟩
 | arr n e l=>simp only[Mt] at m;subst m;exact h
 | win r e id lo n=>
  have ht:CR Z ν t [v]:=by
   have m':=m
   simp only[Mt] at m'
   rcases m' with ⟨r',id',rfl,_⟩ | ⟨rfl,_⟩ <;> exact h
  exact CR.mt _ _ _ m ht
 | sl e l=>
  have ht:CR Z ν t [v]:=by
   have m':=m
   simp only[Mt] at m'
   rcases m' with rfl | ⟨rfl,_⟩ <;> exact h
  exact CR.mt _ _ _ m ht
 | ptr id off=>
  have ht:CR Z ν t [v]:=by
   have m':=m
   simp only[Mt] at m'
   obtain ⟨id',rfl,_⟩:=m'
   exact h
  exact CR.mt _ _ _ m ht
 | mp id=>
  have ht:CR Z ν t [v]:=by
   have m':=m
   simp only[Mt] at m'
   obtain ⟨id',rfl,_⟩:=m'
   exact h
  exact CR.mt _ _ _ m ht
 | yl l=>simp only[Mt] at m;subst m;exact h
 | nilm=>simp only[Mt] at m;subst m;exact h
 | ifc t0 g l=>
  have ht:CR Z ν t [v]:=by
   have m':=m
   simp only[Mt] at m'
   obtain ⟨l',rfl,_⟩:=m'
   exact h
  exact CR.mt _ _ _ m ht
 | fn f a c=>
  have ht:CR Z ν t [v]:=by
   have m':=m
   simp only[Mt] at m'
   obtain ⟨a',c',rfl,_,_⟩:=m'
   exact h
  exact CR.mt _ _ _ m ht
 | nils=>simp only[Mt] at m;subst m;exact h
 | dead=>simp only[Mt] at m;subst m;exact h
 | int k n=>simp only[Mt] at m;subst m;exact h
 | bool b=>simp only[Mt] at m;subst m;exact h
 | str l=>simp only[Mt] at m;subst m;exact h
 | elv σ x=>simp only[Mt] at m;subst m;exact h
 | _=>simp only[Mt] at m
theorem Mt.notup {π:Nat→Option Nat} {s t:SV} (m:Mt π s t):∀ l,t≠.tup l:=by
 rintro l rfl
 cases s <;> simp[Mt] at m
theorem V1L.mt {π:Nat→Option Nat}:∀ {l m:List SV} {vs:List Value},MtL π l m→VSL Z ν m vs→V1L Z (fun i=>(π i).bind ν) l vs
 | [],m,vs,e,h=>by simp only[MtL] at e;subst e;exact h
 | s::l,m,vs,e,h=>by
  simp only[MtL] at e
  obtain ⟨t,r,rfl,h1,h2⟩:=e
  simp only[VSL] at h
  obtain ⟨v,w,e,h3,h4⟩:=h
  exact ⟨v,w,e,(h3.v1 h1.notup).mt h1,V1L.mt h2 h4⟩
theorem MtR.get {π:Nat→Option Nat} {blk:List (Nat × LB)}:∀ {rows:List LB} {k:Nat},MtR π blk k rows→∀ i lb,rows[i]?=some lb→(∃ id,π (k+i)=some id∧lk blk id=some lb)∨(π (k+i)=none∧∃ et e,lb=.row et e []∧0<e.size)
 | [],_,_,i,lb,h=>by simp at h
 | a::rows,k,m,i,lb,h=>by
  simp only[MtR] at m
  cases i with
  | zero=>simp at h;subst h;exact m.1
  | succ i=>
   have:=m.2.get i lb (by simpa using h)
   rw[show k+(i+1)=k+1+i by omega]
   exact this
theorem rsOf_sound (ht:TTOK P tt) (hp:PR Z ν S E H) (hg:GZ Z G):∀ {res:List ResultVar} {rs:List SV},rsOf tt G S res=some rs→∃ vs,allSome (res.map (resVal P E H))=some vs∧VSL Z ν rs vs
 | [],rs,h=>by simp only[rsOf,Option.some.injEq] at h;subst h;exact ⟨[],rfl,rfl⟩
 | .tmp t::l,rs,h=>by
  simp only[rsOf] at h
  split at h
  ·rename_i s r h1 h2
   cases h
   obtain ⟨v,hv,hs⟩:=hp.env t s h1
   obtain ⟨vs,h3,h4⟩:=rsOf_sound ht hp hg h2
   exact ⟨v::vs,by simp[allSome,resVal,hv,h3],v,vs,rfl,hs,h4⟩
  ·cases h
 | .cell x t::l,rs,h=>by
  simp only[rsOf] at h
  split at h
  ·rename_i s r h1 h2
   cases h
   have hlk:∃ p,pv G S.env (.tmp x)=some p:=by
    cases hq:pv G S.env (.tmp x) with
    | none=>simp only[pR,hq] at h1;simp at h1
    | some p=>exact ⟨p,rfl⟩
   obtain ⟨p,hq⟩:=hlk
   obtain ⟨v,hv,hs⟩:=pv_sound hp hg _ _ hq
   obtain ⟨y, hy, hys⟩ := load_sound ht hp (o := ⟨none, .load t (.tmp x), 0, "", #[], none⟩) rfl hq hs h1 (by simp)
   obtain ⟨vs,h3,h4⟩:=rsOf_sound ht hp hg h2
   simp only[aEval] at hv
   exact ⟨y::vs,by simp[allSome,resVal,hv,hy,h3],y,vs,rfl,hys,h4⟩
  ·cases h
theorem Held.of (hx:CxOK P tt G C) {f:FuncId} {fn:Func} {c:Code} {ct:Ctr} (hf:P.funcs[f]?=some fn) (hb:fn.body=some c) (hn:ct.args.length≤fn.ntmps∧ct.args.length<1000)
  (h:∀ x,ct.pre x→Good P tt G f fn.ntmps fn.results.toList (QC ct x) [.code c] (entry ct.args x)):Held P G f ct:=by
 intro x hpre base M args args' w cs Z H hva hzh hg hargs hrel
 have hlen:args.size=ct.args.length:=by have:=hva.length;simpa using this
 let fb:Frame:={ (default:Frame) with fn:=f,kind:=.normal }
 have hal:=(VRA.iff.1 hargs).length
 simp only[Array.length_toList] at hal
 let a0:Act:={ tmps:=args'++Array.replicate (fn.ntmps-args'.size) undef,defers:=[] }
 have henter:Frame.enter P f args' .normal=Fr fb a0 [.code c]:=by
  simp[Frame.enter,Fr,fb,a0,hf,hb]
  rfl
 have hfr:FrOK M ⟨f,none,fn.ntmps⟩ fb:=⟨rfl,rfl,rfl⟩
 have her:ER M fn.ntmps (setArgs 0 args.toList .nil) a0.tmps:=enter_er hargs (by omega) (by omega)
 have hp:PR Z (fun _=>none) (entry ct.args x) (setArgs 0 args.toList .nil) H:=by
  refine ⟨fun t s e=>?_,fun id lb e=>by simp[entry,lk] at e,hzh,fun b ⟨id,lb,ni,h1,_⟩=>by simp[entry,lk] at h1,fun i j li lj ni nj h1=>by simp[entry,lk] at h1⟩
  obtain ⟨_,v,h1,h2⟩:=envOf_get (ν:=fun _=>none) ct.args x 0 hva e
  refine ⟨v,?_,h2⟩
  rw[setArgs_get _ _ _ _ (by simp;omega)]
  have hlt:=(List.getElem?_eq_some_iff.1 h1).1
  rw[if_pos ⟨Nat.zero_le _,by omega⟩]
  exact h1
 obtain ⟨rs,S',M1,Z',ν',E',H',a1,w1,k1,x1,x2,x3,x4,x5,x6,x7,x8,x9,hret⟩:=(h x hpre).ends (cs:=cs) hfr her rfl hrel hp hg
 obtain ⟨π,m1,m2,m3,m4⟩:=x2
 obtain ⟨vs,hvs,hvl⟩:=rsOf_sound hx.ty x8 (hg.mono x9.z) x1
 obtain ⟨v',hr,hv⟩:=results_sound (P:=P) x4 x6 hvs
 have hown0:∀ b,¬ Own (fun _=>none) (entry ct.args x) b:=fun b ⟨id,lb,ni,h1,_⟩=>by simp[entry,lk] at h1
 have hfresh:∀ b,Own ν' S' b→H.next≤b:=fun b ho=>(x9.own b ho).resolve_left (hown0 b)
 have hblk:∀ i lb,(ct.rows x)[i]?=some lb→BR Z' (fun i=>(π i).bind ν') H' i lb∧∀ ni,(π i).bind ν'=some ni→H.next≤ni.b∧Z' ni.b=none:=by
  intro i lb hl
  have hrow:isRow lb=true:=List.all_eq_true.1 m4 lb (List.mem_of_getElem? hl)
  have:=m2.get i lb hl
  rw[Nat.zero_add] at this
  rcases this with ⟨id,h1,h2⟩ | ⟨h1,et,e,rfl,h2⟩
  ·refine ⟨?_,fun ni hni=>?_⟩
   ·have hbr:=x8.blk id lb h2
    cases lb with
    | var l=>simp[isRow] at hrow
    | mp κ σ l=>simp[isRow] at hrow
    | iter l pos=>simp[isRow] at hrow
    | row et e xs=>
     simp only[BR,h1,Option.bind_some] at hbr ⊢
     exact hbr
   ·rw[h1] at hni
    have ho:Own ν' S' ni.b:=⟨id,lb,ni,h2,hni,rfl⟩
    exact ⟨hfresh _ ho,x8.zo _ ho⟩
  ·exact ⟨⟨h2,.inl ⟨by simp[h1],rfl⟩⟩,fun ni hni=>by simp[h1] at hni⟩
 refine ⟨Z',fun i=>(π i).bind ν',H',M1,w1,v',vs,{ Fr fb { a1 with defers:=[] } k1 with mode:=.returning },x9.z,fun b hb'=>?_,x8.zh,x9.le,fun b y hy=>x9.old b y hy (hrel.dom _ _ hy) (hown0 b),V1L.mt m1 hvl,hblk,?_,x3,hv,x6,x7,?_,rfl,rfl,rfl,rfl,fn,hf,hr⟩
 ·rcases x9.zn b hb' with h | h | h
  ·exact .inl h
  ·exact .inr h
  ·exact absurd h (hown0 b)
 ·intro i j li lj ni nj g1 g2 g3 g4 g5
  have s1:=m2.get i li g1
  have s2:=m2.get j lj g2
  rw[Nat.zero_add] at s1 s2
  rcases s1 with ⟨a,h1,h2⟩ | ⟨h1,_⟩
  ·rcases s2 with ⟨b,h3,h4⟩ | ⟨h3,_⟩
   ·simp only[h1,h3,Option.bind_some] at g3 g4
    have:=x8.inj a b li lj ni nj h2 h4 g3 g4 g5
    subst this
    exact m3 i j a h1 h3
   ·simp[h3] at g4
  ·simp[h1] at g3
 ·rw[henter]
  have e:a1={ a1 with defers:=[] }:=by
   cases a1;simp only at x5;subst x5;rfl
  rw[← e]
  exact hret
end
end Go.Px
namespace Go.Px
open Ax
def dcells:Sh→List Value
 | .int k=>[.int k 0]
 | .bool=>[.bool false]
 | .str=>[bstr []]
 | .unit=>[]
 | .pair a b=>dcells a++dcells b
 | .arr n e=>(List.replicate n (dcells e)).flatten
 | .sl _=>[.slice none 0 0]
theorem dcells_ok (Z:Nat→Option ABlk):∀ σ:Sh,RV Z σ σ.dflt (dcells σ)
 | .int _=>by simp only[RV,Sh.dflt,dcells]
 | .bool=>by simp only[RV,Sh.dflt,dcells]
 | .str=>by simp only[RV,Sh.dflt,dcells]
 | .unit=>by simp only[RV,dcells]
 | .pair a b=>by simp only[RV,Sh.dflt,dcells];exact ⟨_,_,rfl,dcells_ok Z a,dcells_ok Z b⟩
 | .arr n e=>by simp only[RV,Sh.dflt,dcells];exact ⟨by simp,RVL.rep (dcells_ok Z e) n⟩
 | .sl e=>by simp only[RV,Sh.dflt,dcells];exact ⟨_,rfl,.inl ⟨rfl,.inl rfl⟩⟩
def kindB (P:Program) (t:TypeId):TK→Bool
 | .int k=>match pureRun P (underlying t) with
  | some (.int k')=>decide (k=k')
  | _=>false
 | .bool=>match pureRun P (underlying t) with
  | some .bool=>true
  | _=>false
 | .str=>match pureRun P (underlying t) with
  | some .string=>true
  | _=>false
 | .slice e=>match pureRun P (underlying t) with
  | some (.slice e')=>e == e'
  | _=>false
 | .array n e=>match pureRun P (underlying t) with
  | some (.array n' e')=>n == n'&&e == e'
  | _=>false
 | .struct fs=>match pureRun P (underlying t) with
  | some (.struct fields)=>decide (fields.toList.map (fun f=>(f.offset,f.type))=fs)&&match pureRun P (fields.mapM fun f=>do pure (f.offset,← sizeOf f.type)) with
   | some places=>match allS (fs.map fun f=>(pureRun P (sizeOf f.2)).map fun n=>(f.1,n)) with
    | some l=>decide (l=places.toList)
    | none=>false
   | none=>false
  | _=>false
 | .map k e=>match pureRun P (underlying t) with
  | some (.map k' e')=>k == k'&&e == e'
  | _=>false
 | .other=>true
theorem kindB_ok {P:Program} {t:TypeId} {k:TK} (h:kindB P t k=true):KOK P t k:=by
 cases k <;> simp only[kindB] at h <;> simp only[KOK]
 ·split at h
  ·rename_i hu;rw[hu];simp only[decide_eq_true_eq] at h;rw[h]
  ·cases h
 ·split at h
  ·rename_i hu;exact hu
  ·cases h
 ·split at h
  ·rename_i hu;exact hu
  ·cases h
 ·split at h
  ·rename_i hu;rw[hu];simp only[beq_iff_eq] at h;rw[h]
  ·cases h
 ·split at h
  ·rename_i hu;rw[hu];simp only[Bool.and_eq_true,beq_iff_eq] at h;rw[h.1,h.2]
  ·cases h
 ·split at h
  ·rename_i fields hu
   simp only[Bool.and_eq_true,decide_eq_true_eq] at h
   obtain ⟨h1,h⟩:=h
   split at h
   ·rename_i places hm
    split at h
    ·rename_i l hl
     simp only[decide_eq_true_eq] at h
     exact ⟨fields,places,hu,h1,hm,by rw[hl,h]⟩
    ·cases h
   ·cases h
  ·cases h
 ·split at h
  ·rename_i hu;rw[hu];simp only[Bool.and_eq_true,beq_iff_eq] at h;rw[h.1,h.2]
  ·cases h
def tiB (P:Program) (t:TypeId) (i:TI):Bool:=
 decide (pureRun P (sizeOf t)=some i.size)&&decide (pureRun P (isAgg t)=some i.agg)&&kindB P t i.kind&&(i.agg || decide (i.size=1)) &&
 (match pureRun P (typeInfo t) with
  | some inf=>decide (inf.bytes=i.bytes)&&decide (inf.size=i.size)
  | none=>false) &&
 (match pureRun P (zeroValue t) with
  | some z=>Ax.flat z&&(match i.kind with
   | .other=>eqL z.cells.toList [.nilFunc]&&decide (i.sh.size≠i.size)
   | .map _ _=>(match z with | .map none=>true | _=>false)&&decide (i.sh.size≠i.size)
   | _=>eqL z.cells.toList (dcells i.sh))&&decide (z.cells.size=i.size)&&(match z with | .agg _=>i.agg | .tuple _=>false | _ => !i.agg)
  | none=>false) &&
 (match isMix i with
  | true=>match pureRun P (underlying t) with
   | some (.struct fields)=>mixFieldsB P (leafs i.sh) fields.toList 0 && !P.stoodInHeld t && !P.eqGuardType P.depth t
   | _=>false
  | false=>true) &&
 (match i.ieq with
  | some k=>isMix i || match pureRun P (underlying t) with
   | some (.struct fields)=>intFieldsB P k fields.toList 0 && !P.stoodInHeld t && !P.eqGuardType P.depth t&&decide (fields.size=i.size)
   | some (.array n et) => !P.eqGuardType P.depth t&&decide (n=i.size)&&decide (pureRun P (sizeOf et)=some 1)&&decide (pureRun P (isAgg et)=some false)&&(match pureRun P (underlying et) with
    | some (.int k')=>k' == k
    | _=>false)
   | _=>false
  | none=>true)
def zD:Sh→List SV
 | .sl _=>[.nils]
 | .pair a b=>zD a++zD b
 | .int k=>[.int k 0]
 | .bool=>[.bool false]
 | .str=>[.str []]
 | .unit=>[]
 | .arr n e=>flatD (.arr n e) (Sh.dflt (.arr n e))
theorem zD_ok {Z:Nat→Option ABlk} {ν:Nu}:∀ σ:Sh,CRL Z ν (zD σ) (dcells σ)
 | .sl _=>⟨[.slice none 0 0],[],rfl,(by show CR Z ν .nils _;simp only[CR]),rfl⟩
 | .pair a b=>CRL.app (zD_ok a) (zD_ok b)
 | .int k=>flatD_sound (.int k) _ (dcells_ok Z _)
 | .bool=>flatD_sound .bool _ (dcells_ok Z _)
 | .str=>flatD_sound .str _ (dcells_ok Z _)
 | .unit=>flatD_sound .unit _ (dcells_ok Z _)
 | .arr n e=>flatD_sound (.arr n e) _ (dcells_ok Z _)
theorem mentL_app2 (id:Nat):∀ {l m:List SV},mentL id l=false→mentL id m=false→mentL id (l++m)=false
 | [],_,_,h=>h
 | s::l,m,h,k=>by
  simp only[mentL,Bool.or_eq_false_iff,List.cons_append] at h ⊢
  exact ⟨h.1,mentL_app2 id h.2 k⟩
theorem ment_zD (id:Nat):∀ σ:Sh,mentL id (zD σ)=false
 | .sl _=>rfl
 | .pair a b=>mentL_app2 id (ment_zD id a) (ment_zD id b)
 | .int _=>rfl
 | .bool=>rfl
 | .str=>rfl
 | .unit=>rfl
 | .arr _ _=>ment_flatD id _ _
def zeroOf (k:TK) (sh:Sh):List SV:=match k with
 | .other=>[.dead]
 | .map _ _=>[.nilm]
 | .slice _=>match sh with
  | .sl _=>[.nils]
  | sh=>flatD sh sh.dflt
 | .struct _=>zD sh
 | _=>flatD sh sh.dflt
theorem tiB_ok {P:Program} {t:TypeId} {i:TI} (hz:i.zero=zeroOf i.kind i.sh) (h:tiB P t i=true):TOK P t i:=by
 unfold tiB at h
 simp only[Bool.and_eq_true,decide_eq_true_eq,Bool.or_eq_true] at h
 obtain ⟨⟨⟨⟨⟨⟨⟨h1,h2⟩,h3⟩,h4⟩,h5⟩,h6⟩,h8⟩,h7⟩:=h
 refine ⟨h1,h2,kindB_ok h3,fun ha=>by rcases h4 with h4 | h4;· rw[ha] at h4;cases h4
                                      ·exact h4,?_,?_,fun z hz0=>?_,fun id=>by
                       rw[hz];unfold zeroOf;split
                       ·rfl
                       ·rfl
                       ·split
                        ·rfl
                        ·exact ment_flatD id _ _
                       ·exact ment_zD id _
                       ·exact ment_flatD id _ _,?_,?_⟩
 ·split at h5
  ·rename_i inf hi
   simp only[Bool.and_eq_true,decide_eq_true_eq] at h5
   exact ⟨inf,hi,h5.1,h5.2⟩
  ·cases h5
 ·split at h6
  ·rename_i z hzz
   simp only[Bool.and_eq_true,decide_eq_true_eq] at h6
   obtain ⟨⟨⟨g1,g2⟩,g3⟩,_⟩:=h6
   have key:i.zero=flatD i.sh i.sh.dflt→eqL z.cells.toList (dcells i.sh)=true→∃ z,pureRun P (zeroValue t)=some z∧Ax.flat z=true∧(∀ Z ν,CRL Z ν i.zero z.cells.toList)∧z.cells.size=i.size∧(i.sh.size=i.size→∀ Z,RV Z i.sh i.sh.dflt z.cells.toList):=by
    intro hz g2
    have g2:=eqL_eq _ _ g2
    refine ⟨z,hzz,g1,fun Z ν=>?_,g3,fun _ Z=>?_⟩
    ·rw[hz,g2];exact flatD_sound _ _ (dcells_ok Z _)
    ·rw[g2];exact dcells_ok Z _
   cases hk:i.kind with
   | other=>
    rw[hk] at g2 hz
    simp only[Bool.and_eq_true,decide_eq_true_eq] at g2
    have e:=eqL_eq _ _ g2.1
    refine ⟨z,hzz,g1,fun Z ν=>?_,g3,fun e2=>absurd e2 g2.2⟩
    rw[hz,e]
    exact ⟨[.nilFunc],[],rfl,⟨.nilFunc,rfl,rfl,rfl⟩,rfl⟩
   | map k e=>
    rw[hk] at g2 hz
    simp only[Bool.and_eq_true,decide_eq_true_eq] at g2
    have e1:z=.map none:=by
     have:=g2.1
     split at this
     ·rfl
     ·cases this
    subst e1
    refine ⟨_,hzz,g1,fun Z ν=>?_,g3,fun e2=>absurd e2 g2.2⟩
    rw[hz]
    exact ⟨[.map none],[],rfl,rfl,rfl⟩
   | slice e=>
    rw[hk] at g2 hz
    have hz':i.zero=zeroOf (.slice e) i.sh:=hz
    simp only[zeroOf] at hz'
    have g2:eqL z.cells.toList (dcells i.sh)=true:=g2
    cases hs:i.sh with
    | sl σ=>
     have e1:=eqL_eq _ _ g2
     rw[hs] at hz' e1
     have e2:z.cells.toList=[.slice none 0 0]:=e1
     refine ⟨z,hzz,g1,fun Z ν=>?_,g3,fun _ Z=>?_⟩
     ·rw[hz',e2]
      exact ⟨[.slice none 0 0],[],rfl,(by show CR Z ν .nils _;simp only[CR]),rfl⟩
     ·rw[eqL_eq _ _ g2,hs];exact dcells_ok Z _
    | _=>rw[hs] at hz';rw[← hs];exact key (hz'.trans (by rw[hs])) g2
   | struct fs=>
    rw[hk] at g2 hz
    have g2:eqL z.cells.toList (dcells i.sh)=true:=g2
    have hz':i.zero=zD i.sh:=hz
    refine ⟨z,hzz,g1,fun Z ν=>?_,g3,fun _ Z=>?_⟩
    ·rw[hz',eqL_eq _ _ g2];exact zD_ok _
    ·rw[eqL_eq _ _ g2];exact dcells_ok Z _
   | _=>rw[hk] at g2 hz;exact key hz g2
  ·cases h6
 ·rw[hz0] at h6
  simp only[Bool.and_eq_true,decide_eq_true_eq] at h6
  have h:=h6.2
  cases hagg:i.agg with
  | true=>
   rw[hagg] at h
   simp only[if_true]
   cases z <;> simp at h
   rfl
  | false=>
   rw[hagg] at h
   simp only[Bool.false_eq_true,if_false]
   cases z <;> simp at h <;> rfl
 ·intro hm
  rw[hm] at h8
  simp only at h8
  split at h8
  ·rename_i fields hu
   simp only[Bool.and_eq_true,Bool.not_eq_true'] at h8
   exact ⟨h8.2,fun X Y hX hY=>pure_equalM hu h8.1.1 h8.1.2 hX hY⟩
  ·cases h8
 ·intro hm k hk
  rw[hk,hm] at h7
  simp only[Bool.false_or] at h7
  split at h7
  ·rename_i fields hu
   simp only[Bool.and_eq_true,Bool.not_eq_true',decide_eq_true_eq] at h7
   exact ⟨h7.1.2,fun X Y hX hY=>pure_equalB hu h7.1.1.1 h7.1.1.2 (by omega) (by omega)⟩
  ·rename_i n et hu
   simp only[Bool.and_eq_true,Bool.not_eq_true',decide_eq_true_eq] at h7
   obtain ⟨⟨⟨⟨g1,g2⟩,g3⟩,g4⟩,g5⟩:=h7
   split at g5
   ·rename_i k' he
    have:=eq_of_beq g5
    subst this
    exact ⟨g1,fun X Y hX hY=>pure_equalA hu g3 g4 he (by omega) (by omega)⟩
   ·cases g5
  ·cases h7
def mkT (size bytes:Nat) (agg:Bool) (kind:TK) (sh:Sh) (ieq:Option IntKind):TI:=⟨size,bytes,agg,kind,zeroOf kind sh,sh,ieq⟩
def ttB (P:Program):List (Nat × (Nat × Nat × Bool × TK × Sh × Option IntKind))→Bool
 | []=>true
 | (t,(a,b,c,d,e,f))::l=>tiB P t (mkT a b c d e f)&&ttB P l
def ttOf:List (Nat × (Nat × Nat × Bool × TK × Sh × Option IntKind))→TT
 | []=>[]
 | (t,(a,b,c,d,e,f))::l=>(t,mkT a b c d e f)::ttOf l
theorem ttB_ok {P:Program}:∀ {l:List (Nat × (Nat × Nat × Bool × TK × Sh × Option IntKind))},ttB P l=true→TTOK P (ttOf l)
 | [],_,t,i,h=>by simp[ttOf,lk] at h
 | (a,(b,c,d,e,f,g))::l,hb,t,i,h=>by
  simp only[ttB,Bool.and_eq_true] at hb
  simp only[ttOf,lk] at h
  split at h
  ·rename_i e1;subst e1;cases h
   exact tiB_ok rfl hb.1
  ·exact ttB_ok hb.2 t i h
end Go.Px
namespace Go.Px
open Ax
def hds:Code→List Item→List (List Item)
 | .seq a b,k=>hds a (.code b::k)++hds b k
 | .cond _ a b,k=>hds a k++hds b k
 | .block id c,k=>hds c (.inBlock id::k)
 | .scope c,k=>hds c (.inScope c::k)
 | .loop c,k=>(.code c::.inLoop c::k)::hds c (.inLoop c::k)
 | .rangeFunc f ps a b,k=>[.code (.rangeFunc f ps a b)::k]
 | _,_=>[]
def bodyOf (fn:Func):Code:=fn.body.getD .skip
def hd (fn:Func) (i:Nat):List Item:=((hds (bodyOf fn) [])[i]?).getD []
end Go.Px
namespace Go.Px
open Ax
end Go.Px
namespace Go.Px
open Ax
mutual
def flatS:SV→Bool
 | .int _ _ | .bool _ | .str _ | .arr _ _ _ | .sl _ _ | .nils | .elv _ _=>true
 | .agg l=>flatSL l
 | .ifc _ _ l=>flatSL l
 | _=>false
def flatSL:List SV→Bool
 | []=>true
 | s::l=>flatS s&&flatSL l
end
mutual
theorem mt_flat (π:Nat→Option Nat):∀ s,flatS s=true→Mt π s s
 | .int _ _,_=>by simp[Mt]
 | .bool _,_=>by simp[Mt]
 | .str _,_=>by simp[Mt]
 | .arr _ _ _,_=>by simp[Mt]
 | .sl _ _,_=>by simp[Mt]
 | .nils,_=>by simp[Mt]
 | .elv _ _,_=>by simp[Mt]
 | .agg l,h=>by
  simp only[flatS] at h
  simp only[Mt]
  exact ⟨l,rfl,mtL_flat π l h⟩
 | .win _ _ _ _ _,h=>by simp[flatS] at h
 | .dead,h=>by simp[flatS] at h
 | .ptr _ _,h=>by simp[flatS] at h
 | .elp _ _ _ _,h=>by simp[flatS] at h
 | .aep _ _ _ _ _,h=>by simp[flatS] at h
 | .tup _,h=>by simp[flatS] at h
 | .fn _ _ _,h=>by simp[flatS] at h
 | .ifc t g l,h=>by
  simp only[flatS] at h
  simp only[Mt]
  exact ⟨l,rfl,mtL_flat π l h⟩
theorem mtL_flat (π:Nat→Option Nat):∀ l,flatSL l=true→MtL π l l
 | [],_=>by simp[MtL]
 | s::l,h=>by
  simp only[flatSL,Bool.and_eq_true] at h
  exact ⟨s,l,rfl,mt_flat π s h.1,mtL_flat π l h.2⟩
end
theorem QC.flat {ct:Ctr} {x:DL ct.args} {rs:List SV} {blk:List (Nat × LB)} (h:ct.out x=rs) (hr:ct.rows x=[]) (hf:flatSL rs=true):QC ct x rs blk:=
 ⟨fun _=>none,by rw[h];exact mtL_flat _ _ hf,by rw[hr];trivial,fun _ _ _ e=>by simp at e,by rw[hr];rfl⟩
theorem CxOK.nil {P:Program} {tt:TT} {G:GV} (h:TTOK P tt) (hm:P.follows .mixedOrders=true) (hmt:∀ t nm f,(t,(nm,f))∈G.mt→mthOf P t nm=some f:=by intro t nm f h;cases h):CxOK P tt G []:=
 ⟨h,fun _ _ e=>by simp[lk] at e,fun _ _ e=>by simp at e,fun _ e=>by simp[lk] at e,hm,hmt⟩
theorem CxOK.cons {P : Program} {tt : TT} {G : GV} {C : CV} (hx : CxOK P tt G C) {f : FuncId} {fn : Func} {ct : Ctr} (hh : Held P G f ct) (hf : P.funcs[f]? = some fn) (hn : (fn.name == "runtime.NumGoroutine") = false) (hb : fn.body.isSome = true) : CxOK P tt G ((f, .inl ct) :: C) := by
 refine ⟨hx.ty,fun g cg e=>?_,fun g cg e=>?_,fun g e=>?_,hx.mix,hx.mth⟩
 ·simp only[lk] at e
  split at e
  ·rename_i h;subst h;cases e;exact hh
  ·exact hx.held g cg e
 ·rcases List.mem_cons.1 e with e | e
  ·cases e
  ·exact hx.heldI g cg e
 ·simp only[lk] at e
  split at e
  ·rename_i h;subst h;exact fun args w=>callFunc_enter hf hn hb args w
  ·exact hx.enter g e
theorem Held.run {P:Program} {tt:TT} {G:GV} {C:CV} (hx:CxOK P tt G C) {f:FuncId} {fn:Func} {ct:Ctr} (hf:P.funcs[f]?=some fn) (hb:fn.body=some (bodyOf fn)) (hn:ct.args.length≤fn.ntmps∧ct.args.length<1000)
  (h:∀ x,ct.pre x→sy tt G C fn.ntmps fn.results.toList (QC ct x) (Good P tt G f fn.ntmps fn.results.toList (QC ct x)) 1000 [.code (bodyOf fn)] (entry ct.args x)):Held P G f ct:=
 Held.of hx hf hb hn fun x hp=>sy_sound hx _ _ _ (h x hp)
theorem sy_go {P:Program} {tt:TT} {G:GV} {C:CV} (hx:CxOK P tt G C) {f:FuncId} {n:Nat} {res:List ResultVar} {Q:List SV→List (Nat × LB)→Prop} {it:List Item} {S:PS} {A:Prop} (e:sy tt G C n res Q (Good P tt G f n res Q) 1000 it S=A) (h:A):Good P tt G f n res Q it S:=sy_sound hx _ _ _ (e ▸ h)
theorem sy_goK {P:Program} {tt:TT} {G:GV} {C:CV} (hx:CxOK P tt G C) {l b:List Nat} {f:FuncId} {n:Nat} {res:List ResultVar} {Q:List SV→List (Nat × LB)→Prop} {it:List Item} {S:PS} {A:Prop} (e:sy tt G C n res Q (fun it S=>Good P tt G f n res Q it (keepS l b S)) 1000 it S=A) (h:A):Good P tt G f n res Q it S:=sy_soundR hx (fun _ _ h=>h.keep) _ _ _ (e ▸ h)
theorem bc_t {A B:Prop}:bc true A B=A:=rfl
theorem bc_f {A B:Prop}:bc false A B=B:=rfl
theorem bc_of {b:Bool} {A B:Prop} (h1:b=true→A) (h2:b=false→B):bc b A B:=by
 cases b
 ·exact h2 rfl
 ·exact h1 rfl
end Go.Px
namespace Go.Px
open Ax
def allIn {α:Type} (L:List (Nat × α)):List (Nat × α)→Prop
 | []=>True
 | (t,s)::l=>lk L t=some s∧allIn L l
theorem allIn_lk {α:Type} {L:List (Nat × α)}:∀ l,allIn L l→∀ t s,lk l t=some s→lk L t=some s
 | [],_,_,_,e=>by simp[lk] at e
 | (a,x)::l,h,t,s,e=>by
  simp only[lk] at e
  split at e
  ·rename_i q;subst q;cases e;exact h.1
  ·exact allIn_lk l h.2 t s e
theorem Good.only {P:Program} {tt:TT} {G:GV} {f:FuncId} {n:Nat} {res:List ResultVar} {Q:List SV→List (Nat × LB)→Prop} {it:List Item} {S S':PS}
  (h:Good P tt G f n res Q it S') (he:allIn S.env S'.env) (hb:allIn S.blk S'.blk):Good P tt G f n res Q it S:=
 Good.less (allIn_lk _ he) (allIn_lk _ hb) h
theorem Good.post {P:Program} {tt:TT} {G:GV} {f:FuncId} {n:Nat} {res:List ResultVar} {Q Q':List SV→List (Nat × LB)→Prop} {it:List Item} {S:PS}
  (h:Good P tt G f n res Q it S) (hq:∀ rs blk,Q rs blk→Q' rs blk):Good P tt G f n res Q' it S:=by
 refine GoodE.post h fun e g S hk=>?_
 cases e with
 | normal=>
  simp only[endK] at hk ⊢
  split at hk
  ·exact hq _ _ hk
  ·exact hk.elim
 | ret=>
  simp only[endK] at hk ⊢
  split at hk
  ·exact hq _ _ hk
  ·exact hk.elim
 | exit id=>exact hk
 | goto l=>exact hk
end Go.Px
namespace Go.Px
open Ax
theorem calls_of_held {P:Program} {G:GV} {f:FuncId} {ct:Ctr} (hh:Held P G f ct) {x:DL ct.args} (hp:ct.pre x) {b:Bool} (ho:ct.out x=[.bool b]) {args args':Array Value} {M:Map} {H:AHeap} {w:World} {Z:Nat→Option ABlk}
  (hva:VArgs Z ct.args x args.toList) (hz:∀ b y,Z b=some y→H.t.get b=some y∧isCells y) (hg:GZ Z G) (hargs:VRA M args args') (hrel:Rel (fun k=>k<w.heap.size) M H w) :
  Calls P f args' w fun e w'=>e=.returned (.bool b)∧RowKit.Below w.heap.size w w':=by
 intro cs
 obtain ⟨Z',ν',H',M',w',v',vs,fr',x1,x2,x3,x4,x5,x6,x7,x8,x9,x10,x11,hbel,hst,hfn,hlv⟩:=hh x hp (fun k=>k<w.heap.size) M args args' w cs Z H hva hz hg hargs hrel
 rw[ho] at x6
 obtain ⟨v,u,rfl,hv,rfl⟩:=x6
 have hv':v=.bool b:=by simpa [V1,CR] using hv
 subst hv'
 have e:v'=.bool b:=(VR.flat_iff (.bool b) rfl v').1 x10
 rw[e] at hlv
 exact ⟨.returned (.bool b),w',fr',⟨rfl,hbel.os,hbel.tape,hbel.output,hbel.size,hbel.block⟩,hst,hfn,hlv⟩
def rvOf:(σ:Sh)→σ.D→List Value
 | .int k,(n:Int)=>[.int k n]
 | .bool,(b:Bool)=>[.bool b]
 | .str,(l:List UInt8)=>[bstr l]
 | .unit,_=>[]
 | .pair a b,x=>rvOf a x.1++rvOf b x.2
 | .arr _ e,(l:List e.D)=>l.flatMap (rvOf e)
 | .sl _,_=>[]
def rvOk:(σ:Sh)→σ.D→Prop
 | .int _,_=>True
 | .bool,_=>True
 | .str,_=>True
 | .unit,_=>True
 | .pair a b,x=>rvOk a x.1∧rvOk b x.2
 | .arr n e,(l:List e.D)=>l.length=n∧∀ x∈l,rvOk e x
 | .sl _,_=>False
theorem rvl_flatMap {α:Type} {R:α→List Value→Prop} {f:α→List Value}:∀ {l:List α},(∀ x∈l,R x (f x))→RVL R l (l.flatMap f)
 | [],_=>rfl
 | x::l,h=>⟨f x,l.flatMap f,by simp,h x (by simp),rvl_flatMap fun y hy=>h y (by simp[hy])⟩
theorem rv_of {Z:Nat→Option ABlk}:∀ (σ:Sh) (x:σ.D),rvOk σ x→RV Z σ x (rvOf σ x)
 | .int _,_,_=>rfl
 | .bool,_,_=>rfl
 | .str,_,_=>rfl
 | .unit,_,_=>rfl
 | .pair a b,x,h=>⟨_,_,rfl,rv_of a x.1 h.1,rv_of b x.2 h.2⟩
 | .arr _ e,_,h=>⟨h.1,rvl_flatMap fun x hx=>rv_of e x (h.2 x hx)⟩
 | .sl _,_,h=>h.elim
end Go.Px
namespace Go.Px
open Ax
end Go.Px
namespace Go.Px
open Ax
def MtB (π:Nat→Option Nat):LB→LB→Prop
 | .row et e xs,b=>b=.row et e xs
 | .var l,b=>∃ m,b=.var m∧MtL π l m
 | .mp κ σ l,b=>b=.mp κ σ l
 | .iter l pos,b=>b=.iter l pos
def MtK (π:Nat→Option Nat) (blk:List (Nat × LB)):List (Nat × LB)→Prop
 | []=>True
 | (i,lb)::l=>((∃ a b,π i=some a∧lk blk a=some b∧MtB π lb b)∨(π i=none∧∃ et e,lb=.row et e []∧0<e.size))∧MtK π blk l
def piOf (th:List (Nat × Nat)) (i:Nat):Option Nat:=match decide (BIG≤i) with
 | true=>some i
 | false=>lk th i
def QI (ct:CtrI) (x:DI ct.args) (rs:List SV) (blk:List (Nat × LB)):Prop:=
 ∃ th:List (Nat × Nat),MtL (piOf th) (ct.out x) rs∧MtK (piOf th) blk (ct.blk x)∧(th.map (·.2)).Nodup∧∀ p∈th,p.2<BIG
section
variable {P:Program} {tt:TT} {G:GV} {C:CV}
theorem piOf_inj {th:List (Nat × Nat)} (hn:(th.map (·.2)).Nodup) (hb:∀ p∈th,p.2<BIG) {i j a:Nat} (h1:piOf th i=some a) (h2:piOf th j=some a):i=j:=by
 have hmem:∀ {i a:Nat},lk th i=some a→(i,a)∈th:=by
  intro i a h
  clear hn hb h1 h2
  induction th with
  | nil=>simp[lk] at h
  | cons p l ih=>
   obtain ⟨k,b⟩:=p
   simp only[lk] at h
   split at h
   ·rename_i e;cases h;subst e;simp
   ·exact List.mem_cons_of_mem _ (ih h)
 unfold piOf at h1 h2
 by_cases hi:BIG≤i
 ·rw[decide_eq_true hi] at h1
  cases h1
  by_cases hj:BIG≤j
  ·rw[decide_eq_true hj] at h2;cases h2;rfl
  ·rw[decide_eq_false hj] at h2
   have:=hb _ (hmem h2)
   simp only at this
   omega
 ·rw[decide_eq_false hi] at h1
  by_cases hj:BIG≤j
  ·rw[decide_eq_true hj] at h2;cases h2
   have:=hb _ (hmem h1)
   simp only at this
   omega
  ·rw[decide_eq_false hj] at h2
   have g1:=hmem h1
   have g2:=hmem h2
   clear h1 h2 hb hmem
   induction th with
   | nil=>cases g1
   | cons p l ih=>
    simp only[List.map_cons,List.nodup_cons] at hn
    rcases List.mem_cons.1 g1 with e | e
    ·rcases List.mem_cons.1 g2 with e' | e'
     ·rw[← e] at e';cases e';rfl
     ·exfalso;subst e;exact hn.1 (List.mem_map.2 ⟨_,e',rfl⟩)
    ·rcases List.mem_cons.1 g2 with e' | e'
     ·exfalso;subst e';exact hn.1 (List.mem_map.2 ⟨_,e,rfl⟩)
     ·exact ih hn.2 e e'
theorem MtK.get {π:Nat→Option Nat} {blk:List (Nat × LB)}:∀ {l:List (Nat × LB)},MtK π blk l→∀ i lb,lk l i=some lb→(∃ a b,π i=some a∧lk blk a=some b∧MtB π lb b)∨(π i=none∧∃ et e,lb=.row et e []∧0<e.size)
 | [],_,i,lb,h=>by simp[lk] at h
 | (j,b)::l,m,i,lb,h=>by
  simp only[MtK] at m
  simp only[lk] at h
  split at h
  ·rename_i e;subst e;cases h;exact m.1
  ·exact m.2.get i lb h
theorem MtB.br {π:Nat→Option Nat} {Z:Nat→Option ABlk} {ν:Nu} {H:AHeap} {i a:Nat} {lb b:LB} (hp:π i=some a) (m:MtB π lb b) (h:BR Z ν H a b):BR Z (fun i=>(π i).bind ν) H i lb:=by
 cases lb with
 | row et e xs=>
  simp only[MtB] at m
  subst m
  simp only[BR,hp,Option.bind_some] at h ⊢
  exact h
 | var l=>
  obtain ⟨m',rfl,m⟩:=m
  obtain ⟨ni,cs,et,h1,h2,h3,h4⟩:=h
  exact ⟨ni,cs,et,by simp only[hp,Option.bind_some];exact h1,h2,h3,CRL.mt _ _ _ m h4⟩
 | mp κ σ l=>
  simp only[MtB] at m
  subst m
  simp only[BR,hp,Option.bind_some] at h ⊢
  exact h
 | iter l pos=>
  simp only[MtB] at m
  subst m
  simp only[BR,hp,Option.bind_some] at h ⊢
  exact h
theorem envI_get {Z:Nat→Option ABlk} {ν:Nu}:∀ {l:List SV} {vs:List Value} (k:Nat) {t:Nat} {s:SV},VSL Z ν l vs→lk (envI k l) t=some s→k≤t∧∃ v,vs[t-k]?=some v∧VS Z ν s v
 | [],vs,k,t,s,h,e=>by simp[envI,lk] at e
 | a::l,vs,k,t,s,h,e=>by
  obtain ⟨v,w,rfl,h1,h2⟩:=h
  simp only[envI,lk] at e
  split at e
  ·rename_i hk;subst hk;cases e
   exact ⟨Nat.le_refl _,v,by simp,h1⟩
  ·obtain ⟨h3,v',h4,h5⟩:=envI_get (k+1) h2 e
   exact ⟨by omega,v',by rw[show t-k=(t-(k+1))+1 by omega,List.getElem?_cons_succ];exact h4,h5⟩
theorem svKL_length:∀ (as:List AK) (x:DI as) (k:Nat),(svKL k as x).length=as.length
 | [],_,_=>rfl
 | _::as,x,k=>by simp only[svKL,List.length_cons,svKL_length as x.2]
theorem HeldI.of (hx:CxOK P tt G C) {f:FuncId} {fn:Func} {c:Code} {ct:CtrI} (hf:P.funcs[f]?=some fn) (hb:fn.body=some c) (hn:ct.args.length≤fn.ntmps∧ct.args.length<1000)
  (h:∀ x,ct.pre x→Good P tt G f fn.ntmps fn.results.toList (QI ct x) [.code c] (entryI ct.args x)):HeldI P G f ct:=by
 intro x hpre base M args args' w cs Z ν H hva hp0 hg hargs hrel
 have hlen:args.size=ct.args.length:=by
  have:=VSL.vra hva
  rw[svKL_length] at this
  simpa using this
 let fb:Frame:={ (default:Frame) with fn:=f,kind:=.normal }
 have hal:=(VRA.iff.1 hargs).length
 simp only[Array.length_toList] at hal
 let a0:Act:={ tmps:=args'++Array.replicate (fn.ntmps-args'.size) undef,defers:=[] }
 have henter:Frame.enter P f args' .normal=Fr fb a0 [.code c]:=by
  simp[Frame.enter,Fr,fb,a0,hf,hb]
  rfl
 have hfr:FrOK M ⟨f,none,fn.ntmps⟩ fb:=⟨rfl,rfl,rfl⟩
 have her:ER M fn.ntmps (setArgs 0 args.toList .nil) a0.tmps:=enter_er hargs (by omega) (by omega)
 have hp:PR Z ν (entryI ct.args x) (setArgs 0 args.toList .nil) H:=by
  refine ⟨fun t s e=>?_,hp0.blk,hp0.zh,hp0.zo,hp0.inj⟩
  obtain ⟨_,v,h1,h2⟩:=envI_get 0 hva e
  refine ⟨v,?_,h2⟩
  rw[setArgs_get _ _ _ _ (by simp;omega)]
  have hlt:=(List.getElem?_eq_some_iff.1 h1).1
  rw[if_pos ⟨Nat.zero_le _,by omega⟩]
  exact h1
 obtain ⟨rs,S',M1,Z',ν',E',H',a1,w1,k1,x1,x2,x3,x4,x5,x6,x7,x8,x9,hret⟩:=(h x hpre).ends (cs:=cs) hfr her rfl hrel hp hg
 obtain ⟨th,m1,m2,m3,m4⟩:=x2
 obtain ⟨vs,hvs,hvl⟩:=rsOf_sound hx.ty x8 (hg.mono x9.z) x1
 obtain ⟨v',hr,hv⟩:=results_sound (P:=P) x4 x6 hvs
 have key:∀ i lb ni,lk (ct.blk x) i=some lb→(piOf th i).bind ν'=some ni→∃ a b,piOf th i=some a∧lk S'.blk a=some b∧ν' a=some ni:=by
  intro i lb ni h1 h2
  rcases m2.get i lb h1 with ⟨a,b,g1,g2,g3⟩ | ⟨g1,_⟩
  ·exact ⟨a,b,g1,g2,by rw[g1] at h2;exact h2⟩
  ·rw[g1] at h2;cases h2
 have hown:∀ b,Own (fun i=>(piOf th i).bind ν') ⟨[],ct.blk x⟩ b→Own ν' S' b:=by
  rintro b ⟨i,lb,ni,h1,h2,rfl⟩
  obtain ⟨a,c,g1,g2,g3⟩:=key i lb ni h1 h2
  exact ⟨a,c,ni,g2,g3,rfl⟩
 have hp':PR Z' (fun i=>(piOf th i).bind ν') ⟨[],ct.blk x⟩ .nil H':=by
  refine ⟨fun t s e=>by simp[lk] at e,fun i lb h1=>?_,x8.zh,fun b hb=>x8.zo b (hown b hb),fun i j li lj ni nj h1 h2 h3 h4 h5=>?_⟩
  ·rcases m2.get i lb h1 with ⟨a,b,g1,g2,g3⟩ | ⟨g1,et,e,rfl,g2⟩
   ·exact g3.br g1 (x8.blk a b g2)
   ·exact ⟨g2,.inl ⟨by simp[g1],rfl⟩⟩
  ·obtain ⟨a,c,g1,g2,g3⟩:=key i li ni h1 h3
   obtain ⟨a2,c2,k1,k2,k3⟩:=key j lj nj h2 h4
   have:=x8.inj a a2 c c2 ni nj g2 k2 g3 k3 h5
   subst this
   exact piOf_inj m3 m4 g1 k1
 refine ⟨Z',fun i=>(piOf th i).bind ν',H',M1,w1,v',vs,{ Fr fb { a1 with defers:=[] } k1 with mode:=.returning },V1L.mt m1 hvl,hp',⟨x9.z,x9.zn,x9.le,x9.old,fun b hb=>x9.own b (hown b hb),fun i hB hi=>?_⟩,x3,hv,x6,x7,?_,rfl,rfl,rfl,rfl,fn,hf,hr⟩
 ·obtain ⟨lb,hl⟩:=Option.ne_none_iff_exists'.1 hi
  have hpi:piOf th i=some i:=by unfold piOf;rw[decide_eq_true hB]
  rcases m2.get i lb hl with ⟨a,b,g1,g2,g3⟩ | ⟨g1,_⟩
  ·rw[hpi] at g1
   cases g1
   have:=x9.big i hB (by rw[g2];simp)
   exact ⟨this.1,by rw[hpi];exact this.2⟩
  ·rw[hpi] at g1;cases g1
 ·rw[henter]
  have e:a1={ a1 with defers:=[] }:=by
   cases a1;simp only at x5;subst x5;rfl
  rw[← e]
  exact hret
theorem HeldI.run (hx:CxOK P tt G C) {f:FuncId} {fn:Func} {ct:CtrI} (hf:P.funcs[f]?=some fn) (hb:fn.body=some (bodyOf fn)) (hn:ct.args.length≤fn.ntmps∧ct.args.length<1000)
  (h:∀ x,ct.pre x→sy tt G C fn.ntmps fn.results.toList (QI ct x) (Good P tt G f fn.ntmps fn.results.toList (QI ct x)) 1000 [.code (bodyOf fn)] (entryI ct.args x)):HeldI P G f ct:=
 HeldI.of hx hf hb hn fun x hp=>sy_sound hx _ _ _ (h x hp)
end
theorem CxOK.consI {P : Program} {tt : TT} {G : GV} {C : CV} (hx : CxOK P tt G C) {f : FuncId} {fn : Func} {ct : CtrI} (hh : HeldI P G f ct) (hf : P.funcs[f]? = some fn) (hn : (fn.name == "runtime.NumGoroutine") = false) (hb : fn.body.isSome = true) : CxOK P tt G ((f, .inr ct) :: C) := by
 refine ⟨hx.ty,fun g cg e=>?_,fun g cg e=>?_,fun g e=>?_,hx.mix,hx.mth⟩
 ·simp only[lk] at e
  split at e
  ·cases e
  ·exact hx.held g cg e
 ·rcases List.mem_cons.1 e with e | e
  ·cases e;exact hh
  ·exact hx.heldI g cg e
 ·simp only[lk] at e
  split at e
  ·rename_i h;subst h;exact fun args w=>callFunc_enter hf hn hb args w
  ·exact hx.enter g e
end Go.Px
namespace Go.Px
open Ax
def rho (r:List (Nat × Nat)) (i:Nat):Nat:=match lk r i with
 | some j=>j
 | none=>i
def allEnv (r:List (Nat × Nat)) (L:List (Nat × SV)):List (Nat × SV)→Prop
 | []=>True
 | (t,s)::l=>lk L t=some (renS (rho r) s)∧allEnv r L l
def allBlk (r:List (Nat × Nat)) (L:List (Nat × LB)):List (Nat × LB)→Prop
 | []=>True
 | (i,b)::l=>lk L (rho r i)=some (renB (rho r) b)∧allBlk r L l
section
variable {Z:Nat→Option ABlk} {ν:Nu} {H:AHeap} {ρ:Nat→Nat}
mutual
theorem CR.back:∀ (s:SV) (vs:List Value),CR Z ν (Px.renS ρ s) vs→CR Z (fun i=>ν (ρ i)) s vs
 | .win _ _ _ _ _,_,k=>k
 | .ptr _ _,_,k=>k
 | .mp _,_,k=>k
 | .yl _,_,k=>k
 | .nilm,_,k=>k
 | .ifc t g l,vs,k=>by
  simp only[renS,CR] at k ⊢
  obtain ⟨us,v,h1,h2,h3⟩:=k
  exact ⟨us,v,CRL.back l us h1,h2,h3⟩
 | .elp _ _ _ _,_,k=>k
 | .aep _ _ _ _ _,_,k=>k
 | .agg l,vs,k=>by
  simp only[renS,CR] at k ⊢
  exact CRL.back l vs k
 | .tup l,vs,k=>by simp only[renS,CR] at k
 | .fn f a c,vs,k=>by
  simp only[renS,CR] at k ⊢
  obtain ⟨va,vc,h1,h2,h3⟩:=k
  exact ⟨va,vc,h1,CRO.back a va h2,CRO.back c vc h3⟩
 | .nils,_,k=>k
 | .dead,_,k=>k
 | .int _ _,_,k=>k
 | .bool _,_,k=>k
 | .str _,_,k=>k
 | .sl _ _,_,k=>k
 | .arr _ _ _,_,k=>k
 | .elv _ _,_,k=>k
theorem CRL.back:∀ (l:List SV) (vs:List Value),CRL Z ν (renSL ρ l) vs→CRL Z (fun i=>ν (ρ i)) l vs
 | [],_,k=>k
 | s::l,vs,k=>by
  simp only[renSL,CRL] at k ⊢
  obtain ⟨u,w,e,h1,h2⟩:=k
  exact ⟨u,w,e,CR.back s u h1,CRL.back l w h2⟩
theorem CRO.back:∀ (l:List SV) (vs:List Value),CRO Z ν (renSL ρ l) vs→CRO Z (fun i=>ν (ρ i)) l vs
 | [],_,k=>k
 | s::l,vs,k=>by
  simp only[renSL,CRO] at k ⊢
  obtain ⟨u,w,e,h1,h2⟩:=k
  exact ⟨u,w,e,CR.back s [u] h1,CRO.back l w h2⟩
end
theorem V1.back {s:SV} {v:Value} (k:V1 Z ν (Px.renS ρ s) v):V1 Z (fun i=>ν (ρ i)) s v:=by
 cases s with
 | agg l=>obtain ⟨vs,e,k⟩:=k;exact ⟨vs,e,CRL.back l vs k⟩
 | arr n e l=>exact k
 | tup l=>have:CR Z ν (.tup (renSL ρ l)) [v]:=k;simp only[CR] at this
 | win r e id lo n=>exact CR.back (Z:=Z) (.win r e id lo n) [v] k
 | ptr id o=>exact CR.back (Z:=Z) (.ptr id o) [v] k
 | mp id=>exact CR.back (Z:=Z) (.mp id) [v] k
 | ifc t g l=>exact CR.back (Z:=Z) (.ifc t g l) [v] k
 | elp e id i o=>exact CR.back (Z:=Z) (.elp e id i o) [v] k
 | aep e id b i o=>exact CR.back (Z:=Z) (.aep e id b i o) [v] k
 | fn f a c=>exact CR.back (Z:=Z) (.fn f a c) [v] k
 | _=>exact k
theorem V1L.back:∀ {l:List SV} {vs:List Value},V1L Z ν (renSL ρ l) vs→V1L Z (fun i=>ν (ρ i)) l vs
 | [],_,k=>k
 | _::_,_,⟨v,w,e,h1,h2⟩=>⟨v,w,e,h1.back,V1L.back h2⟩
theorem VS.back {s:SV} {v:Value} (k:VS Z ν (Px.renS ρ s) v):VS Z (fun i=>ν (ρ i)) s v:=by
 cases s with
 | tup l=>obtain ⟨vs,e,k⟩:=k;exact ⟨vs,e,k.back⟩
 | agg l=>exact V1.back (s:=.agg l) k
 | arr n e l=>exact k
 | win r e id lo n=>exact CR.back (Z:=Z) (.win r e id lo n) [v] k
 | ptr id o=>exact CR.back (Z:=Z) (.ptr id o) [v] k
 | elp e id i o=>exact CR.back (Z:=Z) (.elp e id i o) [v] k
 | aep e id b i o=>exact CR.back (Z:=Z) (.aep e id b i o) [v] k
 | fn f a c=>exact CR.back (Z:=Z) (.fn f a c) [v] k
 | ifc t g l=>exact CR.back (Z:=Z) (.ifc t g l) [v] k
 | _=>exact k
theorem BR.back {id:Nat} {lb:LB} (k:BR Z ν H (ρ id) (Px.renB ρ lb)):BR Z (fun i=>ν (ρ i)) H id lb:=by
 cases lb with
 | var l=>
  obtain ⟨ni,cs,et,h1,h2,h3,h4⟩:=k
  exact ⟨ni,cs,et,h1,h2,h3,CRL.back l cs h4⟩
 | row et e xs=>exact k
 | mp κ σ l=>exact k
 | iter l pos=>exact k
theorem allEnv_lk {r:List (Nat × Nat)} {L:List (Nat × SV)}:∀ {l:List (Nat × SV)},allEnv r L l→∀ t s,lk l t=some s→lk L t=some (renS (rho r) s)
 | [],_,t,s,e=>by simp[lk] at e
 | (a,x)::l,h,t,s,e=>by
  simp only[lk] at e
  split at e
  ·rename_i q;subst q;cases e;exact h.1
  ·exact allEnv_lk h.2 t s e
theorem allBlk_lk {r:List (Nat × Nat)} {L:List (Nat × LB)}:∀ {l:List (Nat × LB)},allBlk r L l→∀ t s,lk l t=some s→lk L (rho r t)=some (renB (rho r) s)
 | [],_,t,s,e=>by simp[lk] at e
 | (a,x)::l,h,t,s,e=>by
  simp only[lk] at e
  split at e
  ·rename_i q;subst q;cases e;exact h.1
  ·exact allBlk_lk h.2 t s e
theorem nodup_map_inj {α:Type} {f:Nat→Nat}:∀ {l:List (Nat × α)} {i j:Nat},(l.map fun p=>f p.1).Nodup→lk l i≠none→lk l j≠none→f i=f j→i=j
 | [],i,j,_,h,_,_=>absurd rfl h
 | (k,b)::l,i,j,hn,hi,hj,e=>by
  simp only[List.map_cons,List.nodup_cons] at hn
  have mem:∀ {i:Nat},lk l i≠none→f i∈l.map fun p=>f p.1:=by
   intro i h
   clear hn hi hj
   induction l with
   | nil=>exact absurd rfl h
   | cons p l ih=>
    simp only[lk] at h
    split at h
    ·rename_i q;subst q;simp
    ·exact List.mem_cons_of_mem _ (ih h)
  simp only[lk] at hi hj
  split at hi
  ·rename_i q1
   split at hj
   ·rename_i q2;rw[← q1,← q2]
   ·exfalso;rw[← q1] at e;exact hn.1 (e ▸ mem hj)
  ·split at hj
   ·rename_i q2;exfalso;rw[← q2] at e;exact hn.1 (e ▸ mem hi)
   ·exact nodup_map_inj hn.2 hi hj e
end
def okRho (r:List (Nat × Nat)) (S':PS):Bool:=decide (S'.blk.map fun p=>rho r p.1).Nodup&&r.all fun p=>decide (p.1<BIG)
theorem mem_of_lk {r:List (Nat × Nat)} {i j:Nat} (hl:lk r i=some j):∃ p∈r,p.1=i:=by
 induction r with
 | nil=>simp[lk] at hl
 | cons p r ih=>
  obtain ⟨a,c⟩:=p
  simp only[lk] at hl
  split at hl
  ·rename_i q;exact ⟨(a,c),by simp,q⟩
  ·obtain ⟨p,hp,e⟩:=ih hl
   exact ⟨p,by simp[hp],e⟩
theorem GoodE.onlyR {P:Program} {G:GV} {f:FuncId} {n:Nat} {rd:Rd} {Y:Yp} {K:AExit→Nat × Bool→PS→Prop} {it:List Item} {g:Nat × Bool} {S S':PS}
  (h:GoodE P G f n rd Y K it g S') (r:List (Nat × Nat)) (hr:okRho r S'=true) (he:allEnv r S.env S'.env) (hb:allBlk r S.blk S'.blk):GoodE P G f n rd Y K it g S:=by
 intro base Yd J lr b cs M a w Z ν E H A B ds st
 simp only[okRho,Bool.and_eq_true,decide_eq_true_eq,List.all_eq_true] at hr
 have hbig:∀ i,BIG≤i→rho r i=i:=by
  intro i hi
  unfold rho
  cases hl:lk r i with
  | none=>rfl
  | some j=>
   exfalso
   have:∃ p∈r,p.1=i:=mem_of_lk hl
   obtain ⟨p,hp,rfl⟩:=this
   have:=hr.2 p hp
   omega
 have hown:∀ b,Own (fun i=>ν (rho r i)) S' b→Own ν S b:=fun b ⟨id,lb,ni,g1,g2,g3⟩=>⟨rho r id,_,ni,allBlk_lk hb _ _ g1,g2,g3⟩
 have hp:PR Z (fun i=>ν (rho r i)) S' E H:=by
  refine ⟨fun t s e=>?_,fun t s e=>(st.pr.blk _ _ (allBlk_lk hb t s e)).back,st.pr.zh,fun b ho=>st.pr.zo b (hown b ho),fun i j li lj ni nj g1 g2 g3 g4 g5=>?_⟩
  ·obtain ⟨v,k1,k2⟩:=st.pr.env t _ (allEnv_lk he t s e)
   exact ⟨v,k1,k2.back⟩
  ·exact nodup_map_inj hr.1 (by rw[g1];simp) (by rw[g2];simp) (st.pr.inj _ _ _ _ _ _ (allBlk_lk hb _ _ g1) (allBlk_lk hb _ _ g2) g3 g4 g5)
 have st':OnW P G f n rd Y base Yd J lr b g S' M a w Z (fun i=>ν (rho r i)) E H A B ds:=⟨st.hd,st.j,fun c hA ho=>st.dis c hA (hown c ho),st.bz,st.yz,st.yn,fun c ho=>st.yo c (hown c ho),st.fr,st.lp,st.er,st.mark,st.mb,st.rel,hp,st.gz⟩
 obtain ⟨e,g',S2,M',a',w',Z',ν',E',H',A',B',ds',k0,x1,x2,x3,x4,x5,x6⟩:=h base Yd J lr b cs M a w Z (fun i=>ν (rho r i)) E H A B ds st'
 refine ⟨e,g',S2,M',a',w',Z',ν',E',H',A',B',ds',k0,x1,x2,x3,x4,⟨x5.z,fun b hb'=>(x5.zn b hb').imp_right (Or.imp_right (hown b)),x5.le,fun b y g1 g2 g3 g4 g5=>x5.old b y g1 g2 (fun g=>g3 (hown b g)) g4 g5,fun b hb'=>(x5.own b hb').imp_left (hown b),x5.bb,x5.aa,fun i g1 g2=>?_⟩,x6⟩
 obtain ⟨k1,k2⟩:=x5.big i g1 g2
 obtain ⟨lb,hl⟩:=Option.ne_none_iff_exists'.1 k1
 have:=allBlk_lk hb _ _ hl
 rw[hbig i g1] at this
 exact ⟨by rw[this];simp,by rw[k2,hbig i g1]⟩
theorem Good.onlyR {P:Program} {tt:TT} {G:GV} {f:FuncId} {n:Nat} {res:List ResultVar} {Q:List SV→List (Nat × LB)→Prop} {it:List Item} {S S':PS}
  (h:Good P tt G f n res Q it S') (r:List (Nat × Nat)) (hr:okRho r S'=true) (he:allEnv r S.env S'.env) (hb:allBlk r S.blk S'.blk):Good P tt G f n res Q it S:=GoodE.onlyR h r hr he hb
end Go.Px
namespace Go.Px
open Ax
structure Fro (G:GV) (H:AHeap):Prop where
 ro:∀ i x,H.t.get i=some x→x.ro=true
 ce:∀ i x,H.t.get i=some x→isCells x
 dom:∀ i x,H.t.get i=some x→i<H.next
 gz:GZ (fun b=>H.t.get b) G
theorem Fro.add {G:GV} {H:AHeap} (h:Fro G H) (hid:idOK H.next) (vs:List Value) (e:TypeId):Fro G (H.add (.cells vs e 2)) where
 ro i x hx:=by
  by_cases e1:i=H.next
  ·subst e1;rw[AHeap.get_add hid] at hx;cases hx;rfl
  ·rw[AHeap.get_add_other e1] at hx;exact h.ro i x hx
 ce i x hx:=by
  by_cases e1:i=H.next
  ·subst e1;rw[AHeap.get_add hid] at hx;cases hx;trivial
  ·rw[AHeap.get_add_other e1] at hx;exact h.ce i x hx
 dom i x hx:=by
  simp only[AHeap.add]
  by_cases e1:i=H.next
  ·omega
  ·rw[AHeap.get_add_other e1] at hx
   have:=h.dom i x hx
   omega
 gz:=h.gz.mono fun b x hb=>by
  have:=h.dom b x hb
  rw[AHeap.get_add_other (by omega)];exact hb
end Go.Px
namespace Go.Px
open Ax
mutual
def selfS:SV→Bool
 | .win _ _ id _ _=>decide (BIG≤id)
 | .ptr id _=>decide (BIG≤id)
 | .mp id=>decide (BIG≤id)
 | .elp _ _ _ _=>false
 | .aep _ _ _ _ _=>false
 | .agg l=>selfSL l
 | .tup _=>false
 | .fn _ a c=>selfSL a&&selfSL c
 | .ifc _ _ l=>selfSL l
 | _=>true
def selfSL:List SV→Bool
 | []=>true
 | s::l=>selfS s&&selfSL l
end
theorem piOf_big {th:List (Nat × Nat)} {i:Nat} (h:BIG≤i):piOf th i=some i:=by unfold piOf;rw[decide_eq_true h]
mutual
theorem mt_self {th:List (Nat × Nat)}:∀ s:SV,selfS s=true→Mt (piOf th) s s
 | .win r e id lo n,h=>by
  simp only[selfS,decide_eq_true_eq] at h
  exact .inl ⟨r,id,rfl,piOf_big h,fun q=>q⟩
 | .ptr id o,h=>by
  simp only[selfS,decide_eq_true_eq] at h
  exact ⟨id,rfl,piOf_big h⟩
 | .mp id,h=>by
  simp only[selfS,decide_eq_true_eq] at h
  exact ⟨id,rfl,piOf_big h⟩
 | .yl _,_=>rfl
 | .nilm,_=>rfl
 | .ifc _ _ l,h=>by simp only[selfS] at h;exact ⟨l,rfl,mtL_self l h⟩
 | .agg l,h=>by simp only[selfS] at h;exact ⟨l,rfl,mtL_self l h⟩
 | .fn f a c,h=>by
  simp only[selfS,Bool.and_eq_true] at h
  exact ⟨a,c,rfl,mtL_self a h.1,mtL_self c h.2⟩
 | .nils,_=>rfl
 | .dead,_=>rfl
 | .int _ _,_=>rfl
 | .bool _,_=>rfl
 | .str _,_=>rfl
 | .sl _ _,_=>.inl rfl
 | .arr _ _ _,_=>rfl
 | .elv _ _,_=>rfl
 | .elp _ _ _ _,h=>by simp[selfS] at h
 | .aep _ _ _ _ _,h=>by simp[selfS] at h
 | .tup _,h=>by simp[selfS] at h
theorem mtL_self {th:List (Nat × Nat)}:∀ l:List SV,selfSL l=true→MtL (piOf th) l l
 | [],_=>rfl
 | s::l,h=>by
  simp only[selfSL,Bool.and_eq_true] at h
  exact ⟨s,l,rfl,mt_self s h.1,mtL_self l h.2⟩
end
def selfB:LB→Bool
 | .var l=>selfSL l
 | .row _ _ _=>true
 | .mp _ _ _=>true
 | .iter _ _=>true
theorem mtK_self {th:List (Nat × Nat)} {blk:List (Nat × LB)}:∀ l:List (Nat × LB),(l.all fun p=>decide (BIG≤p.1)&&selfB p.2)=true→(∀ p∈l,lk blk p.1=some p.2)→MtK (piOf th) blk l
 | [],_,_=>trivial
 | (i,b)::l,h,hl=>by
  simp only[List.all_cons,Bool.and_eq_true,decide_eq_true_eq] at h
  refine ⟨.inl ⟨i,b,piOf_big h.1.1,hl (i,b) (by simp),?_⟩,mtK_self l h.2 fun p hp=>hl p (by simp[hp])⟩
  cases b with
  | var m=>exact ⟨m,rfl,mtL_self m h.1.2⟩
  | row et e xs=>rfl
  | mp κ σ l=>rfl
  | iter l pos=>rfl
theorem QI.self {ct:CtrI} {x:DI ct.args} {rs:List SV} {blk:List (Nat × LB)} (h:ct.out x=rs) (hs:selfSL rs=true) (hb:(ct.blk x).all (fun p=>decide (BIG≤p.1)&&selfB p.2)=true) (hl:∀ p∈ct.blk x,lk blk p.1=some p.2):QI ct x rs blk:=
 ⟨[],by rw[h];exact mtL_self rs hs,mtK_self _ hb hl,by simp,by simp⟩
end Go.Px
namespace Go.Px
open Ax Go.ChangeShapes Go.WideShapes Go.RowKit
def lastF (P:Program) (T:TypeId→Bool) (sz:Nat) (fs:List Field) (off:Nat):Bool:=match fs with
 | [f]=>decide (f.offset=off)&&T f.type&&decide (P.cellsOf f.type=sz)
 | _=>false
def headF (P:Program) (T:TypeId→Bool) (sz:Nat) (R:List Field→Nat→Bool) (fs:List Field) (off:Nat):Bool:=match fs with
 | f::fs=>decide (f.offset=off)&&T f.type&&decide (P.cellsOf f.type=sz)&&R fs (off+sz)
 | []=>false
def shB (P:Program):Sh→(TypeId→Bool) × (List Field→Nat→Bool)
 | .int k=>
  let T:TypeId→Bool:=fun t=>match P.underlying t with | some (.int k')=>decide (k'=k) | _=>false
  (T,lastF P T 1)
 | .bool=>
  let T:TypeId→Bool:=fun t=>match P.underlying t with | some .bool=>true | _=>false
  (T,lastF P T 1)
 | .str=>
  let T:TypeId→Bool:=fun t=>match P.underlying t with | some .string=>true | _=>false
  (T,lastF P T 1)
 | .unit=>(fun _=>false,fun _ _=>false)
 | .arr n e=>
  let T:TypeId→Bool:=fun t=>match P.underlying t with
   | some (.array m u)=>decide (m=n)&&(shB P e).1 u&&decide (P.cellsOf u=e.size)&&decide (P.cellsOf t=n*e.size)
   | _=>false
  (T,lastF P T (n*e.size))
 | .sl e=>
  let T:TypeId→Bool:=fun t=>match P.underlying t with
   | some (.slice u)=>(shB P e).1 u&&decide (P.cellsOf u=e.size)&&decide (0<e.size)
   | _=>false
  (T,lastF P T 1)
 | .pair a b=>
  let F:List Field→Nat→Bool:=headF P (shB P a).1 a.size (shB P b).2
  let T:TypeId→Bool:=fun t=>match P.underlying t with
   | some (.struct fs)=>F fs.toList 0&&decide (P.cellsOf t=a.size+b.size)
   | _=>false
  (T,fun fs off=>F fs off || lastF P T (a.size+b.size) fs off)
def wfD:(σ:Sh)→σ.D→Prop
 | .int k,(n:Int)=>(Lit.int k n).wf=true
 | .bool,_=>True
 | .str,(l:List UInt8)=>l.length≤maxLen
 | .unit,_=>True
 | .pair a b,x=>wfD a x.1∧wfD b x.2
 | .arr n e,(l:List e.D)=>l.length=n∧∀ x∈l,wfD e x
 | .sl e,(l:List e.D)=>l.length<2 ^ 63∧∀ x∈l,wfD e x
abbrev RelW (W:World) (M:Map) (H:AHeap):Prop:=Rel (fun k=>k<W.heap.size) M H W
def InOK (G:GV) (W:World) (σ:Sh) (cs:List Value):Prop:=
 ∀ M H,RelW W M H→Fro G H→∃ (M':Map) (H':AHeap) (us:List Value) (x:σ.D),Ext M M'∧RelW W M' H'∧Fro G H'∧ZLe (fun b=>H.t.get b) (fun b=>H'.t.get b)∧VRL M' us cs∧(∀ Z,ZLe (fun b=>H'.t.get b) Z→RV Z σ x us)∧wfD σ x
def InLs (G:GV) (W:World) (e:Sh) (m:Nat) (cs:List Value):Prop:=
 ∀ M H,RelW W M H→Fro G H→∃ (M':Map) (H':AHeap) (us:List Value) (l:List e.D),Ext M M'∧RelW W M' H'∧Fro G H'∧ZLe (fun b=>H.t.get b) (fun b=>H'.t.get b)∧VRL M' us cs∧(∀ Z,ZLe (fun b=>H'.t.get b) Z→RVL (fun x u=>RV Z e x u) l us)∧l.length=m∧∀ x∈l,wfD e x
section
variable {G:GV} {W:World}
theorem InOK.flat {σ:Sh} {cs:List Value} (x:σ.D) (hf:flatL cs=true) (hr:∀ Z,RV Z σ x cs) (hw:wfD σ x):InOK G W σ cs:=
 fun M H hR hF=>⟨M,H,cs,x,Ext.refl M,hR,hF,ZLe.refl _,VRL.self hf,fun Z _=>hr Z,hw⟩
theorem InOK.pair {a b:Sh} {c1 c2:List Value} (h1:InOK G W a c1) (h2:InOK G W b c2):InOK G W (.pair a b) (c1++c2):=by
 intro M H hR hF
 obtain ⟨M1,H1,u1,x1,e1,r1,f1,z1,v1,w1,d1⟩:=h1 M H hR hF
 obtain ⟨M2,H2,u2,x2,e2,r2,f2,z2,v2,w2,d2⟩:=h2 M1 H1 r1 f1
 exact ⟨M2,H2,u1++u2,(x1,x2),e1.trans e2,r2,f2,z1.trans z2,(VRL.mono e2 _ _ v1).append v2,fun Z hZ=>by
  simp only[RV]
  exact ⟨u1,u2,rfl,w1 Z (z2.trans hZ),w2 Z hZ⟩,d1,d2⟩
theorem take_two (cs:List Value) (m n:Nat):cs.take (m+n)=cs.take m++(cs.drop m).take n:=by
 rw[List.take_add]
theorem InLs.of {e:Sh}:∀ (m:Nat) (cs:List Value),cs.length=m*e.size→(∀ i,i<m→InOK G W e ((cs.drop (i*e.size)).take e.size))→InLs G W e m cs
 | 0,cs,hl,_=>by
  intro M H hR hF
  rw[Nat.zero_mul] at hl
  obtain rfl:=List.eq_nil_of_length_eq_zero hl
  exact ⟨M,H,[],[],Ext.refl M,hR,hF,ZLe.refl _,VRL.nil,fun Z _=>rfl,rfl,fun x h=>by cases h⟩
 | m+1,cs,hl,hi=>by
  intro M H hR hF
  rw[Nat.succ_mul] at hl
  have h0:=hi 0 (by omega)
  rw[Nat.zero_mul,List.drop_zero] at h0
  obtain ⟨M1,H1,u1,x1,e1,r1,f1,z1,v1,w1,d1⟩:=h0 M H hR hF
  obtain ⟨M2,H2,u2,l2,e2,r2,f2,z2,v2,w2,n2,d2⟩:=InLs.of (e:=e) m (cs.drop e.size) (by rw[List.length_drop];omega) (fun i h=>by
   have:=hi (i+1) (by omega)
   rw[Nat.succ_mul,Nat.add_comm,← List.drop_drop] at this
   exact this) M1 H1 r1 f1
  refine ⟨M2,H2,u1++u2,x1::l2,e1.trans e2,r2,f2,z1.trans z2,?_,fun Z hZ=>⟨u1,u2,rfl,w1 Z (z2.trans hZ),w2 Z hZ⟩,by rw[List.length_cons,n2],fun x hx=>?_⟩
  ·have:=(VRL.mono e2 _ _ v1).append v2
   rwa[List.take_append_drop] at this
  ·rcases List.mem_cons.1 hx with rfl | hx
   ·exact d1
   ·exact d2 x hx
end
section
variable {H:Type} {enc:TypeId × Value→H} {P:Program} {G:GV} {W:World} {held:Bool}
theorem toList_get (c:Array Value) (i:Nat):c.toList[i]?=c[i]?:=by simp
theorem in_slice {n:Nat} {t u:TypeId} {e:Sh} {cs:List Value} {d:DataW H × List MemPlace} (ht:P.underlying t=some (.slice u)) (hC:P.cellsOf u=e.size) (h0:0<e.size)
  (ih:∀ cs d,DataW.trod enc P W 0 (fun _=>true) held n u cs=some d→InOK G W e cs)
  (h:DataW.trod enc P W 0 (fun _=>true) held (n+1) t cs=some d):InOK G W (.sl e) cs:=by
 rcases DataW.trod_slice ht h with ⟨rfl,_⟩ | ⟨a,len,cap,elems,rest,n',hn,rfl,rfl,hb,hl,hm,hlen,hel,hsp,_⟩
 ·exact InOK.flat [] rfl (fun Z=>by simp only[RV];exact ⟨_,rfl,.inl ⟨rfl,.inl rfl⟩⟩) ⟨by simp,fun x h=>by cases h⟩
 obtain rfl:n=n':=by omega
 obtain ⟨hrl,hr⟩:=hsp rfl
 by_cases hc0:cap=0
 ·subst hc0
  obtain rfl:len=0:=by omega
  intro M H hR hF
  exact ⟨M,H,[emptySlice],[],Ext.refl M,hR,hF,ZLe.refl _,VRL.cons (VR.emptySlice _ _) VRL.nil,fun Z _=>by simp only[RV];exact ⟨_,rfl,.inl ⟨rfl,.inr rfl⟩⟩,by simp,fun x h=>by cases h⟩
 rw[hC] at hel hr
 have each:∀ i,i<cap→∃ ci y,W.cells? 0 (a.add (i*e.size)) e.size=some ci∧DataW.trod enc P W 0 (fun _=>true) held n u ci=some y:=by
  intro i hi
  by_cases hil:i<len
  ·have:=hel i hil
   rw[List.getElem?_eq_getElem (by omega),Option.bind_eq_some_iff] at this
   obtain ⟨ci,h1,h2⟩:=this
   exact ⟨ci,_,h1,h2⟩
  ·have:=hr (i-len) (by omega)
   rw[List.getElem?_eq_getElem (by omega),Option.bind_eq_some_iff,show len+(i-len)=i by omega] at this
   obtain ⟨ci,h1,h2⟩:=this
   exact ⟨ci,_,h1,h2⟩
 obtain ⟨b,off,spot⟩:=a
 obtain ⟨c0,y0,hc1,_⟩:=each 0 (by omega)
 obtain ⟨_,hl0,hcell0⟩:=World.cells?_some hc1
 have hcell0:=hcell0 0 h0
 rw[Nat.zero_mul,List.getElem?_eq_getElem (by omega)] at hcell0
 have hspot:spot=none:=by simpa [Addr.add] using World.cell?_spot hcell0
 subst hspot
 have hadd:∀ i,(⟨b,off,none⟩:Addr).add i=⟨b,off+i,none⟩:=fun i=>add_none ..
 have hadd2:∀ i j,((⟨b,off,none⟩:Addr).add i).add j=⟨b,off+i+j,none⟩:=fun i j=>by rw[hadd];exact add_none ..
 rw[hadd2] at hcell0
 simp only[World.cell?] at hcell0
 cases hb:W.heap[b]? with
 | none=>rw[hb] at hcell0;simp at hcell0
 | some o=>
  cases o with
  | cells c et f=>
   have hcell:∀ i,i<cap→∃ y,(off+i*e.size+e.size≤c.toList.length)∧DataW.trod enc P W 0 (fun _=>true) held n u ((c.toList.drop (off+i*e.size)).take e.size)=some y:=by
    intro i hi
    obtain ⟨ci,y,h1,h2⟩:=each i hi
    obtain ⟨_,h3,h4⟩:=World.cells?_some h1
    have h5:∀ j,j<e.size→c.toList[off+i*e.size+j]?=ci[j]?:=by
     intro j hj
     have:=h4 j hj
     rw[hadd2] at this
     simp only[World.cell?,hb,Option.isSome_none,Bool.false_eq_true,if_false] at this
     rw[toList_get];exact this
    have h6:off+i*e.size+e.size≤c.toList.length:=by
     have:=h5 (e.size-1) (by omega)
     rw[List.getElem?_eq_getElem (show e.size-1<ci.length by omega)] at this
     have:=(List.getElem?_eq_some_iff.1 this).1
     omega
    refine ⟨y,h6,?_⟩
    have e1:(c.toList.drop (off+i*e.size)).take e.size=ci:=by
     apply List.ext_getElem?
     intro j
     rw[List.getElem?_take]
     split
     ·rw[List.getElem?_drop];exact h5 j ‹_›
     ·rw[List.getElem?_eq_none (by omega)]
    rw[e1];exact h2
   have hend:off+cap*e.size≤c.toList.length:=by
    obtain ⟨_,h6,_⟩:=hcell (cap-1) (by omega)
    have:(cap-1)*e.size+e.size=cap*e.size:=by
     rw[← Nat.succ_mul];congr 1;omega
    omega
   have hls:InLs G W e cap ((c.toList.drop off).take (cap*e.size)):=by
    refine InLs.of cap _ (by rw[List.length_take,List.length_drop];omega) fun i hi=>?_
    obtain ⟨y,h6,h7⟩:=hcell i hi
    have hsz:i*e.size+e.size≤cap*e.size:=by
     rw[← Nat.succ_mul];exact Nat.mul_le_mul_right _ hi
    have e2:(((c.toList.drop off).take (cap*e.size)).drop (i*e.size)).take e.size=(c.toList.drop (off+i*e.size)).take e.size:=by
     rw[List.drop_take,List.take_take,List.drop_drop,show min e.size (cap*e.size-i*e.size)=e.size by omega]
    rw[e2]
    exact ih _ _ h7
   intro M H hR hF
   obtain ⟨M1,H1,us,l,e1,r1,f1,z1,v1,w1,n1,d1⟩:=hls M H hR hF
   have hus:us.length=cap*e.size:=by
    have:=VRL.length v1
    rw[List.length_take,List.length_drop] at this
    omega
   have hmax:maxLen<2 ^ 63:=by decide
   have htl:(l.take len).length=len:=by rw[List.length_take];omega
   refine ⟨M1++[{ real:=b,sh:=off }],H1.add (.cells us et 2),[.slice (some ⟨H1.next,0,none⟩) (l.take len).length cap],l.take len,e1.trans (Ext.snoc M1 _),Rel.read r1 f1.ro (Nat.zero_le _) hb ?_,f1.add (Nat.zero_le _) _ _,z1.trans fun b' x hx=>?_,VRL.cons ?_ VRL.nil,fun Z hZ=>?_,by rw[htl];omega,fun x hx=>d1 x (List.mem_of_mem_take hx)⟩
   ·rw[hus];exact VRL.mono (Ext.snoc M1 _) _ _ v1
   ·have:=f1.dom b' x hx
    show (H1.add _).t.get b'=some x
    rw[AHeap.get_add_other (by omega)];exact hx
   ·simp only[VR]
    rw[if_neg (by simp)]
    refine ⟨_,by rw[← r1.len];exact get_snoc M1 _,?_⟩
    rw[htl]
    simp only[capOf]
    rw[if_neg (by unfold openCap;omega)]
    simp
   ·have hZ1:ZLe (fun b=>H1.t.get b) Z:=fun b' x hx=>hZ b' x (by
     have:=f1.dom b' x hx
     show (H1.add _).t.get b'=some x
     rw[AHeap.get_add_other (by omega)];exact hx)
    simp only[RV]
    refine ⟨_,rfl,.inr ⟨H1.next,0,cap,us,et,2,rfl,hZ _ _ (AHeap.get_add (Nat.zero_le _)),?_,?_,.inr ⟨by rw[htl];omega,by omega⟩⟩⟩
    ·rw[htl,hus,Nat.zero_add];exact Nat.mul_le_mul_right _ hl
    ·rw[List.drop_zero,htl]
     exact RVL.take (fun x u k=>RV.len e x u k) len (w1 Z hZ1)
  | _=>rw[hb] at hcell0;simp at hcell0
theorem in_last {σ:Sh} {T:TypeId→Bool} {sz:Nat} {n:Nat} {cs:List Value} (hz:sz=σ.size)
  (ih:∀ t cs d,T t=true→DataW.trod enc P W 0 (fun _=>true) held n t cs=some d→InOK G W σ cs) {fs:List Field} {off:Nat} (hb:lastF P T sz fs off=true)
  (h:∀ f∈fs,∃ d,DataW.trod enc P W 0 (fun _=>true) held n f.type ((cs.drop f.offset).take (P.cellsOf f.type))=some d):InOK G W σ ((cs.drop off).take σ.size):=by
 unfold lastF at hb
 split at hb
 ·rename_i f
  simp only[Bool.and_eq_true,decide_eq_true_eq] at hb
  obtain ⟨⟨h1,h2⟩,h3⟩:=hb
  obtain ⟨d,hd⟩:=h f (by simp)
  rw[h1,h3,hz] at hd
  exact ih _ _ _ h2 hd
 ·cases hb
theorem in_fields {n:Nat} (ih:∀ (σ:Sh) t cs d,(shB P σ).1 t=true→DataW.trod enc P W 0 (fun _=>true) held n t cs=some d→InOK G W σ cs) {cs:List Value}:∀ (σ:Sh) (fs:List Field) (off:Nat),(shB P σ).2 fs off=true →
  (∀ f∈fs,∃ d,DataW.trod enc P W 0 (fun _=>true) held n f.type ((cs.drop f.offset).take (P.cellsOf f.type))=some d)→InOK G W σ ((cs.drop off).take σ.size)
 | .int k,fs,off,hb,h=>in_last rfl (ih (.int k)) hb h
 | .bool,fs,off,hb,h=>in_last rfl (ih .bool) hb h
 | .str,fs,off,hb,h=>in_last rfl (ih .str) hb h
 | .unit,fs,off,hb,h=>by cases hb
 | .arr m e,fs,off,hb,h=>in_last rfl (ih (.arr m e)) hb h
 | .sl e,fs,off,hb,h=>in_last rfl (ih (.sl e)) hb h
 | .pair a b,fs,off,hb,h=>by
  have hb':(headF P (shB P a).1 a.size (shB P b).2 fs off || lastF P (shB P (.pair a b)).1 (a.size+b.size) fs off)=true:=hb
  rw[Bool.or_eq_true] at hb'
  rcases hb' with hb' | hb'
  ·unfold headF at hb'
   split at hb'
   ·rename_i f fs'
    simp only[Bool.and_eq_true,decide_eq_true_eq] at hb'
    obtain ⟨⟨⟨h1,h2⟩,h3⟩,h4⟩:=hb'
    obtain ⟨d,hd⟩:=h f (by simp)
    rw[h1,h3] at hd
    have p1:=ih a _ _ _ h2 hd
    have p2:=in_fields ih b fs' (off+a.size) h4 fun g hg=>h g (List.mem_cons_of_mem _ hg)
    have:=p1.pair p2
    rw[← List.drop_drop,← take_two] at this
    exact this
   ·cases hb'
  ·exact in_last rfl (ih (.pair a b)) hb' h
theorem in_cells:∀ (n:Nat) (σ:Sh) (t:TypeId) (cs:List Value) (d:DataW H × List MemPlace),(shB P σ).1 t=true→DataW.trod enc P W 0 (fun _=>true) held n t cs=some d→InOK G W σ cs
 | 0,σ,t,cs,d,_,h=>by simp[DataW.trod] at h
 | n+1,.int k,t,cs,d,hb,h=>by
  simp only[shB] at hb
  split at hb
  ·rename_i k' hu
   obtain rfl:=of_decide_eq_true hb
   obtain ⟨m,rfl,_,hw⟩:=DataW.trod_int hu h
   exact InOK.flat (σ:=.int k') m rfl (fun Z=>by simp only[RV]) hw
  ·cases hb
 | n+1,.bool,t,cs,d,hb,h=>by
  simp only[shB] at hb
  split at hb
  ·rename_i hu
   obtain ⟨m,rfl,_⟩:=DataW.trod_bool hu h
   exact InOK.flat (σ:=.bool) m rfl (fun Z=>by simp only[RV]) trivial
  ·cases hb
 | n+1,.str,t,cs,d,hb,h=>by
  simp only[shB] at hb
  split at hb
  ·rename_i hu
   obtain ⟨s,rfl,_,hw⟩:=DataW.trod_string hu h
   exact InOK.flat (σ:=.str) s.data.toList rfl (fun Z=>by simp only[RV,bstr]) (by simpa [wfD] using hw)
  ·cases hb
 | n+1,.unit,t,cs,d,hb,h=>by cases hb
 | n+1,.arr m e,t,cs,d,hb,h=>by
  simp only[shB] at hb
  split at hb
  ·rename_i m' u hu
   simp only[Bool.and_eq_true,decide_eq_true_eq] at hb
   obtain ⟨⟨⟨rfl,h2⟩,h3⟩,h4⟩:=hb
   obtain ⟨xs,n',hn,_,hcl,hlen,hg⟩:=DataW.trod_array hu h
   obtain rfl:n=n':=by omega
   have hls:InLs G W e m' cs:=InLs.of m' cs (hcl.trans h4) fun i hi=>by
    have:=hg i hi
    rw[h3,List.getElem?_eq_getElem (by omega)] at this
    exact in_cells n e u _ _ h2 this
   intro M H hR hF
   obtain ⟨M1,H1,us,l,e1,r1,f1,z1,v1,w1,n1,d1⟩:=hls M H hR hF
   exact ⟨M1,H1,us,l,e1,r1,f1,z1,v1,fun Z hZ=>by simp only[RV];exact ⟨n1,w1 Z hZ⟩,n1,d1⟩
  ·cases hb
 | n+1,.sl e,t,cs,d,hb,h=>by
  simp only[shB] at hb
  split at hb
  ·rename_i u hu
   simp only[Bool.and_eq_true,decide_eq_true_eq] at hb
   obtain ⟨⟨h2,h3⟩,h4⟩:=hb
   exact in_slice hu h3 h4 (fun cs d hd=>in_cells n e u cs d h2 hd) h
  ·cases hb
 | n+1,.pair a b,t,cs,d,hb,h=>by
  have hb':(match P.underlying t with
   | some (.struct fs)=>headF P (shB P a).1 a.size (shB P b).2 fs.toList 0&&decide (P.cellsOf t=a.size+b.size)
   | _=>false)=true:=hb
  split at hb'
  ·rename_i fs hu
   simp only[Bool.and_eq_true,decide_eq_true_eq] at hb'
   obtain ⟨h2,h3⟩:=hb'
   obtain ⟨xs,n',hn,_,hcl,hlen,hg⟩:=DataW.trod_struct hu h
   obtain rfl:n=n':=by omega
   have hf:(shB P (.pair a b)).2 fs.toList 0=true:=by
    show (headF P (shB P a).1 a.size (shB P b).2 fs.toList 0 || lastF P (shB P (.pair a b)).1 (a.size+b.size) fs.toList 0)=true
    rw[h2,Bool.true_or]
   have:=in_fields (G:=G) (fun σ t cs d=>in_cells n σ t cs d) (.pair a b) fs.toList 0 hf fun f hfm=>by
    obtain ⟨i,hi⟩:=List.getElem?_of_mem hfm
    rw[Array.getElem?_toList] at hi
    have h5:=hg i f hi
    have:i<xs.length:=by
     have:=(Array.getElem?_eq_some_iff.1 hi).1
     omega
    rw[List.getElem?_eq_getElem this] at h5
    exact ⟨_,h5⟩
   rw[List.drop_zero,List.take_of_length_le (by rw[hcl,h3];exact Nat.le_refl _)] at this
   exact this
  ·cases hb'
theorem arg_in {r:Reach} {b0:Nat} (σ:Sh) {t:TypeId} {v:Value} {d:DataW H} {p:List MemPlace} (hs:(shB P σ).1 t=true) (hv:Value.okWide P W r b0 t v) (h:DataW.Trod enc P W 0 (fun _=>true) held t v d p) {M:Map} {Hh:AHeap} (hR:RelW W M Hh) (hF:Fro G Hh) :
  ∃ (M':Map) (H':AHeap) (u:Value) (x:σ.D),Ext M M'∧RelW W M' H'∧Fro G H'∧ZLe (fun b=>Hh.t.get b) (fun b=>H'.t.get b)∧VR M' u v∧(∀ Z,ZLe (fun b=>H'.t.get b) Z→∀ ν,VS Z ν (ofD σ x) u)∧wfD σ x:=by
 obtain ⟨fuel,hf⟩:=h
 have hin:=in_cells (G:=G) fuel σ t _ _ hs hf M Hh hR hF
 obtain ⟨M1,H1,us,x,e1,r1,f1,z1,v1,w1,d1⟩:=hin
 have one:v.cells=#[v]→∃ u,us=[u]∧VR M1 u v:=by
  intro hc
  rw[hc] at v1
  have hl:=VRL.length v1
  match us,hl with
  | [u],_=>obtain ⟨v',l',q1,q2,q3⟩:=v1.cases;cases q3;exact ⟨u,rfl,q1⟩
 have fin1:∀ {u:Value},us=[u]→VR M1 u v→(∀ Z,RV Z σ x [u]→∀ ν,VS Z ν (ofD σ x) u)→∃ (M':Map) (H':AHeap) (u:Value) (x:σ.D),Ext M M'∧RelW W M' H'∧Fro G H'∧ZLe (fun b=>Hh.t.get b) (fun b=>H'.t.get b)∧VR M' u v∧(∀ Z,ZLe (fun b=>H'.t.get b) Z→∀ ν,VS Z ν (ofD σ x) u)∧wfD σ x:=
  fun hu hvr hk=>⟨M1,H1,_,x,e1,r1,f1,z1,hvr,fun Z hZ ν=>hk Z (hu ▸ w1 Z hZ) ν,d1⟩
 have finA:∀ (cs:Array Value),v=.agg cs→(∀ Z,RV Z σ x us→∀ ν,VS Z ν (ofD σ x) (.agg us.toArray))→∃ (M':Map) (H':AHeap) (u:Value) (x:σ.D),Ext M M'∧RelW W M' H'∧Fro G H'∧ZLe (fun b=>Hh.t.get b) (fun b=>H'.t.get b)∧VR M' u v∧(∀ Z,ZLe (fun b=>H'.t.get b) Z→∀ ν,VS Z ν (ofD σ x) u)∧wfD σ x:=by
  intro cs hcs hk
  subst hcs
  refine ⟨M1,H1,.agg us.toArray,x,e1,r1,f1,z1,?_,fun Z hZ ν=>hk Z (w1 Z hZ) ν,d1⟩
  simp only[VR]
  exact ⟨cs,VRA.iff.2 (by simpa [Value.cells] using v1),rfl⟩
 cases σ with
 | int k=>
  simp only[shB] at hs
  split at hs
  ·rename_i k' hu
   obtain rfl:=of_decide_eq_true hs
   obtain ⟨n,rfl⟩:=okWide_int hu hv
   obtain ⟨u,hu1,hu2⟩:=one rfl
   exact fin1 hu1 hu2 fun Z hr ν=>by
    simp only[RV] at hr
    cases hr
    show CR Z ν (SV.int k' x) [_]
    simp only[CR]
  ·cases hs
 | bool=>
  simp only[shB] at hs
  split at hs
  ·rename_i hu
   obtain ⟨n,rfl⟩:=okWide_bool hu hv
   obtain ⟨u,hu1,hu2⟩:=one rfl
   exact fin1 hu1 hu2 fun Z hr ν=>by
    simp only[RV] at hr
    cases hr
    show CR Z ν (SV.bool x) [_]
    simp only[CR]
  ·cases hs
 | str=>
  simp only[shB] at hs
  split at hs
  ·rename_i hu
   obtain ⟨n,rfl⟩:=okWide_string hu hv
   obtain ⟨u,hu1,hu2⟩:=one rfl
   exact fin1 hu1 hu2 fun Z hr ν=>by
    simp only[RV] at hr
    cases hr
    show CR Z ν (SV.str x) [_]
    simp only[CR]
  ·cases hs
 | unit=>cases hs
 | arr m e=>
  simp only[shB] at hs
  split at hs
  ·rename_i m' u hu
   obtain ⟨cs,hcs⟩:=Ax.okWide_arr hu hv
   exact finA cs hcs fun Z hr ν=>⟨us,rfl,hr⟩
  ·cases hs
 | sl e=>
  simp only[shB] at hs
  split at hs
  ·rename_i u hu
   obtain ⟨a,len,cap,rfl⟩:=okWide_slice hu hv
   obtain ⟨u,hu1,hu2⟩:=one rfl
   exact fin1 hu1 hu2 fun Z hr ν=>by
    simp only[RV] at hr
    obtain ⟨w,hw,hr⟩:=hr
    cases hw
    exact VS.mkSl hr
  ·cases hs
 | pair a b=>
  have hs':(match P.underlying t with
   | some (.struct fs)=>headF P (shB P a).1 a.size (shB P b).2 fs.toList 0&&decide (P.cellsOf t=a.size+b.size)
   | _=>false)=true:=hs
  split at hs'
  ·rename_i fs hu
   obtain ⟨cs,hcs,_⟩:=okWide_struct hu hv
   exact finA cs hcs fun Z hr ν=>⟨us,rfl,flatD_sound (.pair a b) x hr⟩
  ·cases hs'
end
end Go.Px
namespace Go.Px
open Ax
section
variable {P:Program} {tt:TT} {G:GV} {f:FuncId} {n:Nat} {rd:Rd} {Y:Yp} {K:AExit→Nat × Bool→PS→Prop} {res:List ResultVar} {Q:List SV→List (Nat × LB)→Prop}
theorem GoodE.frz {it:List Item} {g:Nat × Bool} {S:PS} {i:Nat} {e:Sh} {et:TypeId} {xs:List e.D} (hl:lk S.blk i=some (.row et e xs)) (hi:∀ c∈cdP i xs.length S,c) (h:GoodE P G f n rd Y K it g (S.frzR i e xs)):GoodE P G f n rd Y K it g S:=by
 intro base Yd J lr b cs M a w Z ν E H A B ds st
 obtain ⟨Z1,h1,h2,_⟩:=frz_ok st.pr hl (cdP_ok hi)
 obtain ⟨e1,g',S',M',a',w',Z',ν',E',H',A',B',ds',k0,x1,x2,x3,x4,x5,x6⟩:=h base Yd J lr b cs M a w Z1 ν E H A B ds (st.next (Ext.refl M) st.er rfl st.rel h1 h2)
 exact ⟨e1,g',S',M',a',w',Z',ν',E',H',A',B',ds',k0,x1,x2,x3,x4,(FCY.of h2).trans x5,x6⟩
theorem Good.frz {it:List Item} {S:PS} {i:Nat} {e:Sh} {et:TypeId} {xs:List e.D} (hl:lk S.blk i=some (.row et e xs)) (hi:∀ c∈cdP i xs.length S,c) (h:Good P tt G f n res Q it (S.frzR i e xs)):Good P tt G f n res Q it S:=GoodE.frz hl hi h
def frzRs:Nat→List LB→List SV→List SV
 | _,[],l=>l
 | k,.row _ e xs::rows,l=>frzRs (k+1) rows (frzL k e xs l)
 | k,_::rows,l=>frzRs (k+1) rows l
def inRs:Nat→List LB→List SV→Prop
 | _,[],_=>True
 | k,.row _ e xs::rows,l=>inL k xs.length l∧inRs (k+1) rows (frzL k e xs l)
 | k,_::rows,l=>inRs (k+1) rows l
theorem frzRs_ok {ν:Nu} {H:AHeap} {nx:Nat} {vs:List Value}:∀ (rows:List LB) (k:Nat) (l:List SV) (Z:Nat→Option ABlk),(∀ b y,Z b=some y→H.t.get b=some y∧isCells y) →
  (∀ j lb,rows[j]?=some lb→BR Z ν H (k+j) lb∧∀ ni,ν (k+j)=some ni→nx≤ni.b)→inRs k rows l→V1L Z ν l vs →
  ∃ Z1,ZLe Z Z1∧(∀ b y,Z1 b=some y→H.t.get b=some y∧isCells y)∧(∀ b,Z1 b≠none→Z b≠none∨nx≤b)∧V1L Z1 ν (frzRs k rows l) vs
 | [],k,l,Z,hz,_,_,hv=>⟨Z,ZLe.refl _,hz,fun _ h=>.inl h,hv⟩
 | lb::rows,k,l,Z,hz,hb,hi,hv=>by
  have nxt:∀ (l':List SV) (Z1:Nat→Option ABlk),ZLe Z Z1→(∀ b y,Z1 b=some y→H.t.get b=some y∧isCells y)→(∀ b,Z1 b≠none→Z b≠none∨nx≤b)→inRs (k+1) rows l'→V1L Z1 ν l' vs →
    ∃ Z2,ZLe Z Z2∧(∀ b y,Z2 b=some y→H.t.get b=some y∧isCells y)∧(∀ b,Z2 b≠none→Z b≠none∨nx≤b)∧V1L Z2 ν (frzRs (k+1) rows l') vs:=by
   intro l' Z1 g1 g2 g3 g4 g5
   obtain ⟨Z2,q1,q2,q3,q4⟩:=frzRs_ok rows (k+1) l' Z1 g2 (fun j lb' hj=>by
    obtain ⟨s1,s2⟩:=hb (j+1) lb' (by simpa using hj)
    rw[show k+(j+1)=k+1+j by omega] at s1 s2
    exact ⟨s1.mono g1,s2⟩) g4 g5
   exact ⟨Z2,g1.trans q1,q2,fun b hq=>(q3 b hq).elim (fun h=>g3 b h) .inr,q4⟩
  obtain ⟨b0,b1⟩:=hb 0 lb rfl
  rw[Nat.add_zero] at b0 b1
  cases lb with
  | row et e xs=>
   let Z1:Nat→Option ABlk:=fun c=>match ν k with
    | some ni=>if c=ni.b then H.t.get c else Z c
    | none=>Z c
   have z1:ZLe Z Z1:=by
    intro c y hc
    simp only[Z1]
    split
    ·split
     ·exact (hz c y hc).1
     ·exact hc
    ·exact hc
   have z2:∀ ni y,ν k=some ni→H.t.get ni.b=some y→Z1 ni.b=some y:=by
    intro ni y hn hy
    simp only[Z1,hn,if_true];exact hy
   refine nxt _ Z1 z1 ?_ ?_ hi.2 (V1L.frz b0 z1 z2 hi.1 hv)
   ·intro c y hc
    simp only[Z1] at hc
    split at hc
    ·rename_i ni hn
     split at hc
     ·rename_i hcn
      subst hcn
      obtain ⟨_,⟨hn',_⟩ | ⟨ni',cs,tl,k',hn',hg,_,_⟩⟩:=b0
      ·rw[hn] at hn';cases hn'
      ·rw[hn] at hn';cases hn'
       rw[hg] at hc;cases hc
       exact ⟨hg,trivial⟩
     ·exact hz c y hc
    ·exact hz c y hc
   ·intro c hc
    simp only[Z1] at hc
    split at hc
    ·rename_i ni hn
     split at hc
     ·rename_i hcn;subst hcn;exact .inr (b1 ni hn)
     ·exact .inl hc
    ·exact .inl hc
  | var m=>exact nxt l Z (ZLe.refl _) hz (fun _ h=>.inl h) hi hv
  | mp κ σ m=>exact nxt l Z (ZLe.refl _) hz (fun _ h=>.inl h) hi hv
  | iter m p=>exact nxt l Z (ZLe.refl _) hz (fun _ h=>.inl h) hi hv
def Ctr.frz (ct:Ctr):Ctr:=⟨ct.args,ct.pre,fun x=>frzRs 0 (ct.rows x) (ct.out x),fun _=>[]⟩
theorem Held.frz {ct:Ctr} (h:Held P G f ct) (hi:∀ x,ct.pre x→inRs 0 (ct.rows x) (ct.out x)):Held P G f ct.frz:=by
 intro x hpre base M args args' w cs Z H h1 h2 h3 h4 h5
 obtain ⟨Z',ν',H',M',w',v',vs,fr',x1,x2,x3,x4,x5,x6,x7,x8,x9,x10,x11,x12,x13,x14,x15⟩:=h x hpre base M args args' w cs Z H h1 h2 h3 h4 h5
 obtain ⟨Z1,q1,q2,q3,q4⟩:=frzRs_ok (nx:=H.next) (ct.rows x) 0 (ct.out x) Z' x3 (fun j lb hj=>by
  rw[Nat.zero_add]
  exact ⟨(x7 j lb hj).1,fun ni hn=>((x7 j lb hj).2 ni hn).1⟩) (hi x hpre) x6
 exact ⟨Z1,ν',H',M',w',v',vs,fr',x1.trans q1,fun b hb=>(q3 b hb).elim (x2 b) .inr,q2,x4,x5,q4,fun i lb hl=>by simp[Ctr.frz] at hl,fun i j li lj ni nj hl=>by simp[Ctr.frz] at hl,x9,x10,x11,x12,x13,x14,x15⟩
theorem Held.iff {ct ct2:Ctr} (h:Held P G f ct) (ha:ct2.args=ct.args) (hp:∀ x,ct2.pre x→ct.pre (ha ▸ x)) (ho:∀ x,ct2.pre x→ct2.out x=ct.out (ha ▸ x)) (hr:∀ x,ct2.pre x→ct2.rows x=ct.rows (ha ▸ x)):Held P G f ct2:=by
 obtain ⟨a,p,o,r⟩:=ct
 obtain ⟨a2,p2,o2,r2⟩:=ct2
 simp only at ha
 subst ha
 intro x hpre
 have:=h x (hp x hpre)
 simp only at ho hr ⊢
 rw[ho x hpre,hr x hpre]
 exact this
end
end Go.Px
namespace Go.Px
open Ax
end Go.Px
namespace Go.Px
open Ax
end Go.Px
