/-
  A part of the proof: what pieces of the program give; conditions: those of each theorem.
-/
import Derived.Test.YtnmkfdgnenkhpaaDoorQ0
set_option linter.unusedVariables false
set_option linter.unusedSimpArgs false
namespace Go.Proofs.YtnmkfdgnenkhpaaDoor
open Go.Px Go.Ax
set_option maxRecDepth 100000
attribute [local irreducible] Go.Px.sy Go.Px.syE
theorem QI.row {ct:CtrI} {x:DI ct.args} {rs:List SV} {blk:List (Nat × LB)} {e:Sh} {et:TypeId} {a k:Nat} {xs:List e.D} (h:ct.out x=[.win true e 0 0 xs.length]) (hr:ct.blk x=[(0,.row et e xs)]) (hs:rs=[.win true e a 0 k]) (hk:k=xs.length) (hb:lk blk a=some (.row et e xs)) (ha:a<BIG):QI ct x rs blk:=by
 subst hs;subst hk;refine ⟨[(0,a)],?_,?_,by simp,fun p hp=>by simp at hp;subst hp;exact ha⟩
 ·rw[h];exact ⟨_,_,rfl,.inl ⟨true,a,rfl,rfl,fun h=>h⟩,rfl⟩
 ·rw[hr];exact ⟨.inl ⟨a,_,rfl,hb,rfl⟩,trivial⟩
def gen (el:Nat->SyT):Nat->Nat->List SyT
 | 0,_=>[]
 | k+1,i=>el i::gen el k (i+1)
theorem qkr (el:Nat->SyT):∀ k i,(gen el k i).length=k
 | 0,_=>rfl
 | k+1,i=>by rw[gen,List.length_cons,qkr el k]
def elO (t:Nat) (x:OpT) (i:Nat):SyT:=match t with
 | 1=>(true,IntKind.i64.wrap (x.2.1+i),0)
 | 2=>(true,IntKind.i64.wrap (x.2.1+i),gtB x.2.2.2.2 i)
 | 3=>(false,0,x.2.2.2.1)
 | _=>(false,0,gtB x.2.2.2.2 i)
def cntO (t:Nat) (x:OpT):Nat:=match t with
 | 1=>x.2.2.1.toNat
 | 3=>x.2.2.1.toNat
 | _=>x.2.2.2.2.length
def qay (t:Nat) (x:OpT):List SyT:=gen (elO t x) (cntO t x) 0
def preA (t:Nat) (x:OpT) (o:List SyT):Prop:=1<=cntO t x/\o.length+cntO t x<268435456/\x.2.2.1<268435456
abbrev KA:List AK:=[.dat opS,.row 51 syS]
def ctA (t:Nat):CtrI:=⟨KA,fun x=>preA t x.1 x.2.1,fun x=>[.win true syS 0 0 (List.length (x.2.1++qay t x.1))],fun x=>[(0,.row 51 syS (x.2.1++qay t x.1))]⟩
abbrev GQ (t:Nat) (x:OpT) (o:List SyT):List SV->List (Nat × LB)->Prop:=QI (ctA t) (x,o,())
theorem qtn (k f n b:Int) (d:List Int) (o0:List SyT) (hb:n<268435456/\True):∀ (c i:Nat) (o:List SyT),cntO 1 (k,f,n,b,d)-i=c->i<=cntO 1 (k,f,n,b,d)->o.length+c<268435456->o++gen (elO 1 (k,f,n,b,d)) c i=o0++qay 1 (k,f,n,b,d) ->
  GD 96 Tryd.f96 (GQ 1 (k,f,n,b,d) o0) (hd Tryd.f96 0) ⟨[(1,.win true syS 1 0 o.length),(2,.ptr 2 0),(7,.int .i64 n),(8,.int .i64 (i:Nat))],[(2,.var [.int .i64 k,.int .i64 f,.int .i64 n,.int .u8 b,.sl uB d]),(1,.row 51 syS o)]⟩:=by
 intro c
 induction c with
 | zero=>
  intro i o hc hi hl he;have hn:cntO 1 (k,f,n,b,d)=n.toNat:=rfl;refine qaj cx0 _ _ _ ((qnp k f n b d o i _ _).mpr ?_);rw[decide_eq_false (by omega),bc_f];have he:o=o0++qay 1 (k,f,n,b,d):=by simpa [gen] using he
  exact QI.row (e:=syS) (et:=51) (a:=1) (xs:=o0++qay 1 (k,f,n,b,d)) rfl rfl (by rw[he]) rfl (by rw[he];rfl) (by decide)
 | succ c ih=>
  intro i o hc hi hl he;have hn:cntO 1 (k,f,n,b,d)=n.toNat:=rfl;refine qaj cx0 _ _ _ ((qnp k f n b d o i _ _).mpr ?_);rw[decide_eq_true (show (i:Int)<n by omega),bc_t,IntWalk.i64_in ((i:Int)+1) (by omega)];refine ⟨Nat.le_refl 1,rfl,rfl,?_,by decide,?_⟩
  ·show o.length+1<2 ^ 30
   omega
  ·refine Good.onlyR (ih (i+1) (o++[elO 1 (k,f,n,b,d) i]) (by omega) (by omega) (by rw[List.length_append,List.length_singleton];omega) (by rw[List.append_assoc];exact he)) [(1,18)] rfl ⟨by rw[List.length_append];rfl,rfl,rfl,rfl,trivial⟩ ⟨rfl,rfl,trivial⟩
theorem qto:HeldI Tryd.prog G0 96 (ctA 1):=by
 refine HeldI.run cx0 (fn:=Tryd.f96) rfl rfl ⟨by decide,by decide⟩ ?_;rintro ⟨⟨k,f,n,b,d⟩,o,⟨⟩⟩ hp;obtain ⟨h1,h2,h3⟩:preA 1 (k,f,n,b,d) o:=hp;have hn:cntO 1 (k,f,n,b,d)=n.toNat:=rfl;replace h3:n<268435456:=h3;refine (qx2 k f n b d o _ _).mpr ?_;have hb:n<268435456/\True:=⟨h3,trivial⟩;obtain ⟨c,hc⟩:∃ c,cntO 1 (k,f,n,b,d)=c+1:=⟨cntO 1 (k,f,n,b,d)-1,by omega⟩;have e:GD 96 Tryd.f96 (GQ 1 (k,f,n,b,d) o) (hd Tryd.f96 0) ⟨[(1,.win true syS 1099511627776 0 o.length),(2,.ptr 2 0),(7,.int .i64 n),(8,.int .i64 ((0:Nat):Int))],[(2,.var [.int .i64 k,.int .i64 f,.int .i64 n,.int .u8 b,.sl uB d]),(1099511627776,.row 51 syS o)]⟩:=by
  refine qaj cx0 _ _ _ ((quj k f n b d o 0 _ _).mpr ?_);rw[decide_eq_true (show ((0:Nat):Int)<n by omega),bc_t,IntWalk.i64_in (((0:Nat):Int)+1) (by omega)];refine ⟨Nat.le_refl 1,rfl,rfl,?_,by decide,?_⟩
  ·show o.length+1<2 ^ 30
   omega
  ·refine Good.onlyR (qtn k f n b d o ⟨h3,trivial⟩ c 1 (o++[elO 1 (k,f,n,b,d) 0]) (by omega) (by omega) (by rw[List.length_append,List.length_singleton];omega) (by rw[List.append_assoc];unfold qay;rw[hc];rfl)) [(1,18)] rfl ⟨by rw[List.length_append];rfl,rfl,rfl,rfl,trivial⟩ ⟨rfl,rfl,trivial⟩
 exact e.only ⟨rfl,rfl,rfl,rfl,trivial⟩ ⟨rfl,rfl,trivial⟩
theorem qti (k f n b:Int) (d:List Int) (o0:List SyT) (hb:n<268435456/\d.length<268435456):∀ (c i:Nat) (o:List SyT),cntO 2 (k,f,n,b,d)-i=c->i<=cntO 2 (k,f,n,b,d)->o.length+c<268435456->o++gen (elO 2 (k,f,n,b,d)) c i=o0++qay 2 (k,f,n,b,d) ->
  GD 100 Tryd.f100 (GQ 2 (k,f,n,b,d) o0) (hd Tryd.f100 0) ⟨[(1,.win true syS 1 0 o.length),(2,.ptr 2 0),(8,.sl uB d),(9,.int .i64 d.length),(10,.int .i64 (i:Nat))],[(2,.var [.int .i64 k,.int .i64 f,.int .i64 n,.int .u8 b,.sl uB d]),(1,.row 51 syS o)]⟩:=by
 intro c
 induction c with
 | zero=>
  intro i o hc hi hl he;have hn:cntO 2 (k,f,n,b,d)=d.length:=rfl;refine qaj cx0 _ _ _ ((qno k f n b d o i _ _).mpr ?_);rw[decide_eq_false (by omega),bc_f];have he:o=o0++qay 2 (k,f,n,b,d):=by simpa [gen] using he
  exact QI.row (e:=syS) (et:=51) (a:=1) (xs:=o0++qay 2 (k,f,n,b,d)) rfl rfl (by rw[he]) rfl (by rw[he];rfl) (by decide)
 | succ c ih=>
  intro i o hc hi hl he;have hn:cntO 2 (k,f,n,b,d)=d.length:=rfl;refine qaj cx0 _ _ _ ((qno k f n b d o i _ _).mpr ?_);rw[decide_eq_true (show (i:Int)<(d.length:Int) by omega),bc_t,IntWalk.i64_in ((i:Int)+1) (by omega),Int.toNat_natCast];refine ⟨by omega,by omega,Nat.le_refl 1,rfl,rfl,?_,by decide,?_⟩
  ·show o.length+1<2 ^ 30
   omega
  ·refine Good.onlyR (ih (i+1) (o++[elO 2 (k,f,n,b,d) i]) (by omega) (by omega) (by rw[List.length_append,List.length_singleton];omega) (by rw[List.append_assoc];exact he)) [(1,23)] rfl ⟨by rw[List.length_append];rfl,rfl,rfl,rfl,rfl,trivial⟩ ⟨rfl,rfl,trivial⟩
theorem qtj:HeldI Tryd.prog G0 100 (ctA 2):=by
 refine HeldI.run cx0 (fn:=Tryd.f100) rfl rfl ⟨by decide,by decide⟩ ?_;rintro ⟨⟨k,f,n,b,d⟩,o,⟨⟩⟩ hp;obtain ⟨h1,h2,h3⟩:preA 2 (k,f,n,b,d) o:=hp;have hn:cntO 2 (k,f,n,b,d)=d.length:=rfl;replace h3:n<268435456:=h3;refine (qx0 k f n b d o _ _).mpr ?_;have hb:n<268435456/\d.length<268435456:=⟨h3,by omega⟩;obtain ⟨c,hc⟩:∃ c,cntO 2 (k,f,n,b,d)=c+1:=⟨cntO 2 (k,f,n,b,d)-1,by omega⟩;have e:GD 100 Tryd.f100 (GQ 2 (k,f,n,b,d) o) (hd Tryd.f100 0) ⟨[(1,.win true syS 1099511627776 0 o.length),(2,.ptr 2 0),(8,.sl uB d),(9,.int .i64 d.length),(10,.int .i64 ((0:Nat):Int))],[(2,.var [.int .i64 k,.int .i64 f,.int .i64 n,.int .u8 b,.sl uB d]),(1099511627776,.row 51 syS o)]⟩:=by
  refine qaj cx0 _ _ _ ((qui k f n b d o 0 _ _).mpr ?_);rw[decide_eq_true (show ((0:Nat):Int)<(d.length:Int) by omega),bc_t,IntWalk.i64_in (((0:Nat):Int)+1) (by omega),Int.toNat_natCast];refine ⟨by omega,by omega,Nat.le_refl 1,rfl,rfl,?_,by decide,?_⟩
  ·show o.length+1<2 ^ 30
   omega
  ·refine Good.onlyR (qti k f n b d o hb c 1 (o++[elO 2 (k,f,n,b,d) 0]) (by omega) (by omega) (by rw[List.length_append,List.length_singleton];omega) (by rw[List.append_assoc];unfold qay;rw[hc];rfl)) [(1,23)] rfl ⟨by rw[List.length_append];rfl,rfl,rfl,rfl,rfl,trivial⟩ ⟨rfl,rfl,trivial⟩
 exact e.only ⟨rfl,rfl,rfl,rfl,rfl,trivial⟩ ⟨rfl,rfl,trivial⟩
theorem qu2 (k f n b:Int) (d:List Int) (o0:List SyT) (hb:n<268435456/\True):∀ (c i:Nat) (o:List SyT),cntO 3 (k,f,n,b,d)-i=c->i<=cntO 3 (k,f,n,b,d)->o.length+c<268435456->o++gen (elO 3 (k,f,n,b,d)) c i=o0++qay 3 (k,f,n,b,d) ->
  GD 103 Tryd.f103 (GQ 3 (k,f,n,b,d) o0) (hd Tryd.f103 0) ⟨[(1,.win true syS 1 0 o.length),(2,.ptr 2 0),(6,.int .i64 n),(7,.int .i64 (i:Nat))],[(2,.var [.int .i64 k,.int .i64 f,.int .i64 n,.int .u8 b,.sl uB d]),(1,.row 51 syS o)]⟩:=by
 intro c
 induction c with
 | zero=>
  intro i o hc hi hl he;have hn:cntO 3 (k,f,n,b,d)=n.toNat:=rfl;refine qaj cx0 _ _ _ ((qqm k f n b d o i _ _).mpr ?_);rw[decide_eq_false (by omega),bc_f];have he:o=o0++qay 3 (k,f,n,b,d):=by simpa [gen] using he
  exact QI.row (e:=syS) (et:=51) (a:=1) (xs:=o0++qay 3 (k,f,n,b,d)) rfl rfl (by rw[he]) rfl (by rw[he];rfl) (by decide)
 | succ c ih=>
  intro i o hc hi hl he;have hn:cntO 3 (k,f,n,b,d)=n.toNat:=rfl;refine qaj cx0 _ _ _ ((qqm k f n b d o i _ _).mpr ?_);rw[decide_eq_true (show (i:Int)<n by omega),bc_t,IntWalk.i64_in ((i:Int)+1) (by omega)];refine ⟨Nat.le_refl 1,rfl,rfl,?_,by decide,?_⟩
  ·show o.length+1<2 ^ 30
   omega
  ·refine Good.onlyR (ih (i+1) (o++[elO 3 (k,f,n,b,d) i]) (by omega) (by omega) (by rw[List.length_append,List.length_singleton];omega) (by rw[List.append_assoc];exact he)) [(1,14)] rfl ⟨by rw[List.length_append];rfl,rfl,rfl,rfl,trivial⟩ ⟨rfl,rfl,trivial⟩
theorem qu3:HeldI Tryd.prog G0 103 (ctA 3):=by
 refine HeldI.run cx0 (fn:=Tryd.f103) rfl rfl ⟨by decide,by decide⟩ ?_;rintro ⟨⟨k,f,n,b,d⟩,o,⟨⟩⟩ hp;obtain ⟨h1,h2,h3⟩:preA 3 (k,f,n,b,d) o:=hp;have hn:cntO 3 (k,f,n,b,d)=n.toNat:=rfl;replace h3:n<268435456:=h3;refine (q26 k f n b d o _ _).mpr ?_;have hb:n<268435456/\True:=⟨h3,trivial⟩;obtain ⟨c,hc⟩:∃ c,cntO 3 (k,f,n,b,d)=c+1:=⟨cntO 3 (k,f,n,b,d)-1,by omega⟩;have e:GD 103 Tryd.f103 (GQ 3 (k,f,n,b,d) o) (hd Tryd.f103 0) ⟨[(1,.win true syS 1099511627776 0 o.length),(2,.ptr 2 0),(6,.int .i64 n),(7,.int .i64 ((0:Nat):Int))],[(2,.var [.int .i64 k,.int .i64 f,.int .i64 n,.int .u8 b,.sl uB d]),(1099511627776,.row 51 syS o)]⟩:=by
  refine qaj cx0 _ _ _ ((qxs k f n b d o 0 _ _).mpr ?_);rw[decide_eq_true (show ((0:Nat):Int)<n by omega),bc_t,IntWalk.i64_in (((0:Nat):Int)+1) (by omega)];refine ⟨Nat.le_refl 1,rfl,rfl,?_,by decide,?_⟩
  ·show o.length+1<2 ^ 30
   omega
  ·refine Good.onlyR (qu2 k f n b d o ⟨h3,trivial⟩ c 1 (o++[elO 3 (k,f,n,b,d) 0]) (by omega) (by omega) (by rw[List.length_append,List.length_singleton];omega) (by rw[List.append_assoc];unfold qay;rw[hc];rfl)) [(1,14)] rfl ⟨by rw[List.length_append];rfl,rfl,rfl,rfl,trivial⟩ ⟨rfl,rfl,trivial⟩
 exact e.only ⟨rfl,rfl,rfl,rfl,trivial⟩ ⟨rfl,rfl,trivial⟩
theorem qwk (k f n b:Int) (d:List Int) (o0:List SyT) (hb:n<268435456/\d.length<268435456):∀ (c i:Nat) (o:List SyT),cntO 4 (k,f,n,b,d)-i=c->i<=cntO 4 (k,f,n,b,d)->o.length+c<268435456->o++gen (elO 4 (k,f,n,b,d)) c i=o0++qay 4 (k,f,n,b,d) ->
  GD 106 Tryd.f106 (GQ 4 (k,f,n,b,d) o0) (hd Tryd.f106 0) ⟨[(1,.win true syS 1 0 o.length),(2,.ptr 2 0),(8,.sl uB d),(9,.int .i64 d.length),(10,.int .i64 (i:Nat))],[(2,.var [.int .i64 k,.int .i64 f,.int .i64 n,.int .u8 b,.sl uB d]),(1,.row 51 syS o)]⟩:=by
 intro c
 induction c with
 | zero=>
  intro i o hc hi hl he;have hn:cntO 4 (k,f,n,b,d)=d.length:=rfl;refine qaj cx0 _ _ _ ((qqo k f n b d o i _ _).mpr ?_);rw[decide_eq_false (by omega),bc_f];have he:o=o0++qay 4 (k,f,n,b,d):=by simpa [gen] using he
  exact QI.row (e:=syS) (et:=51) (a:=1) (xs:=o0++qay 4 (k,f,n,b,d)) rfl rfl (by rw[he]) rfl (by rw[he];rfl) (by decide)
 | succ c ih=>
  intro i o hc hi hl he;have hn:cntO 4 (k,f,n,b,d)=d.length:=rfl;refine qaj cx0 _ _ _ ((qqo k f n b d o i _ _).mpr ?_);rw[decide_eq_true (show (i:Int)<(d.length:Int) by omega),bc_t,IntWalk.i64_in ((i:Int)+1) (by omega),Int.toNat_natCast];refine ⟨by omega,by omega,Nat.le_refl 1,rfl,rfl,?_,by decide,?_⟩
  ·show o.length+1<2 ^ 30
   omega
  ·refine Good.onlyR (ih (i+1) (o++[elO 4 (k,f,n,b,d) i]) (by omega) (by omega) (by rw[List.length_append,List.length_singleton];omega) (by rw[List.append_assoc];exact he)) [(1,18)] rfl ⟨by rw[List.length_append];rfl,rfl,rfl,rfl,rfl,trivial⟩ ⟨rfl,rfl,trivial⟩
theorem qwl:HeldI Tryd.prog G0 106 (ctA 4):=by
 refine HeldI.run cx0 (fn:=Tryd.f106) rfl rfl ⟨by decide,by decide⟩ ?_;rintro ⟨⟨k,f,n,b,d⟩,o,⟨⟩⟩ hp;obtain ⟨h1,h2,h3⟩:preA 4 (k,f,n,b,d) o:=hp;have hn:cntO 4 (k,f,n,b,d)=d.length:=rfl;replace h3:n<268435456:=h3;refine (q3t k f n b d o _ _).mpr ?_;have hb:n<268435456/\d.length<268435456:=⟨h3,by omega⟩;obtain ⟨c,hc⟩:∃ c,cntO 4 (k,f,n,b,d)=c+1:=⟨cntO 4 (k,f,n,b,d)-1,by omega⟩;have e:GD 106 Tryd.f106 (GQ 4 (k,f,n,b,d) o) (hd Tryd.f106 0) ⟨[(1,.win true syS 1099511627776 0 o.length),(2,.ptr 2 0),(8,.sl uB d),(9,.int .i64 d.length),(10,.int .i64 ((0:Nat):Int))],[(2,.var [.int .i64 k,.int .i64 f,.int .i64 n,.int .u8 b,.sl uB d]),(1099511627776,.row 51 syS o)]⟩:=by
  refine qaj cx0 _ _ _ ((qxx k f n b d o 0 _ _).mpr ?_);rw[decide_eq_true (show ((0:Nat):Int)<(d.length:Int) by omega),bc_t,IntWalk.i64_in (((0:Nat):Int)+1) (by omega),Int.toNat_natCast];refine ⟨by omega,by omega,Nat.le_refl 1,rfl,rfl,?_,by decide,?_⟩
  ·show o.length+1<2 ^ 30
   omega
  ·refine Good.onlyR (qwk k f n b d o hb c 1 (o++[elO 4 (k,f,n,b,d) 0]) (by omega) (by omega) (by rw[List.length_append,List.length_singleton];omega) (by rw[List.append_assoc];unfold qay;rw[hc];rfl)) [(1,18)] rfl ⟨by rw[List.length_append];rfl,rfl,rfl,rfl,rfl,trivial⟩ ⟨rfl,rfl,trivial⟩
 exact e.only ⟨rfl,rfl,rfl,rfl,rfl,trivial⟩ ⟨rfl,rfl,trivial⟩
open Go.IntKind(i64 u32 u8)
def CA:CV:=(106,.inr (ctA 4))::(103,.inr (ctA 3))::(100,.inr (ctA 2))::(96,.inr (ctA 1))::(50,.inl ctChk)::C1
theorem cxA:CxOK Tryd.prog tt G0 CA:=((((cx1.cons q0n (fn:=Tryd.f50) rfl rfl rfl).consI qto (fn:=Tryd.f96) rfl rfl rfl).consI qtj (fn:=Tryd.f100) rfl rfl rfl).consI qu3 (fn:=Tryd.f103) rfl rfl rfl).consI qwl (fn:=Tryd.f106) rfl rfl rfl
def E1:CV:=(51,.inl (ctO 1 109))::CA
def E2:CV:=(51,.inl (ctO 2 110))::CA
def E3:CV:=(51,.inl (ctO 3 111))::CA
def E4:CV:=(51,.inl (ctO 4 112))::CA
theorem ex1:CxOK Tryd.prog tt G0 E1:=cxA.cons qv5 (fn:=Tryd.f51) rfl rfl rfl
theorem ex2:CxOK Tryd.prog tt G0 E2:=cxA.cons qv4 (fn:=Tryd.f51) rfl rfl rfl
theorem ex3:CxOK Tryd.prog tt G0 E3:=cxA.cons qv3 (fn:=Tryd.f51) rfl rfl rfl
theorem ex4:CxOK Tryd.prog tt G0 E4:=cxA.cons qv2 (fn:=Tryd.f51) rfl rfl rfl
set_option maxRecDepth 100000
theorem q23 (li:Bool) (m o:Int) (l:List OpT) (Q:QT) (R:RT):sy tt G0 CA Tryd.f28.ntmps Tryd.f28.results.toList Q R 1000 [.code (qae Tryd.f28)] (entry [paS] ((li,m,o,l),())) =
  (ctChk.pre ((li,m,o,l),()) /\
 bc (decide ((chkV (li,m,o,l)).2≠0)) (Q [.nils,.int .i64 (chkV (li,m,o,l)).2] [(1,.var [.bool li,.int .i64 m,.int .i64 o,.sl opS l])]) ((0:Int)<=0 /\
 (0:Int)<=o /\
 o<2 ^ 24 /\
 (↑(24:Nat):Int)*o<=2 ^ 48 /\
 R (hd Tryd.f28 0) { env:=[(0,.agg [.bool li,.int .i64 m,.int .i64 o,.sl opS l]),(1,.ptr 1 0),(2,.nils),(3,.int .i64 0),(4,.int .i64 (chkV (li,m,o,l)).1),(5,.int .i64 (chkV (li,m,o,l)).2),(6,.win true syS 19 0 (0:Nat)),(9,SV.tup [.int .i64 (chkV (li,m,o,l)).1,.int .i64 (chkV (li,m,o,l)).2]),(10,.agg [.bool li,.int .i64 m,.int .i64 o,.sl opS l]),(11,SV.tup [.int .i64 (chkV (li,m,o,l)).1,.int .i64 (chkV (li,m,o,l)).2]),(12,.int .i64 (chkV (li,m,o,l)).1),(13,.int .i64 (chkV (li,m,o,l)).2),(14,.int .i64 (chkV (li,m,o,l)).2),(15,.bool (decide ((chkV (li,m,o,l)).2≠0))),(17,.ptr 1 2),(18,.int .i64 o),(19,.win true syS 19 0 (0:Nat)),(20,.ptr 1 3),(21,.sl opS l),(22,.int .i64 (l.length:Int)),(23,.int .i64 0)],blk:=[(1,.var [.bool li,.int .i64 m,.int .i64 o,.sl opS l]),(19,.row 51 syS (List.replicate (0) syS.dflt))] })):=by kernel_rfl
theorem qnm (li:Bool) (m o:Int) (l:List OpT) (s:List SyT) (i:Nat) (Q:QT) (R:RT):sy tt G0 E1 Tryd.f28.ntmps Tryd.f28.results.toList Q R 1000 (hd Tryd.f28 0) ⟨[(1,.ptr 1 0),(6,.win true syS 19 0 s.length),(21,.sl opS l),(22,.int .i64 l.length),(23,.int .i64 (i:Nat))],[(1,.var [.bool li,.int .i64 m,.int .i64 o,.sl opS l]),(19,.row 51 syS s)]⟩ =
  (bc (decide ((i:Int)<(l.length:Int))) ((0:Int)<=(i:Int) /\
 (i:Int)<(l.length:Int) /\
 (ctO (1:Int) (109:Nat)).pre ((gtO l (i:Int).toNat),()) /\
 s.length=s.length /\
 (ctA (1:Nat)).pre ((gtO l (i:Int).toNat),s,()) /\
 R (hd Tryd.f28 0) { env:=[(1,.ptr 1 0),(6,.win true syS 1122880 0 (List.length (s++qay (1:Nat) (gtO l (i:Int).toNat)))),(8,.ptr 8 0),(21,.sl opS l),(22,.int .i64 (l.length:Int)),(23,.int .i64 (i64.wrap ((i:Int)+1))),(24,.bool (decide ((i:Int)<(l.length:Int)))),(25,.elv opS (gtO l (i:Int).toNat)),(26,.agg [.int .i64 (gtO l (i:Int).toNat).1,.int .i64 (gtO l (i:Int).toNat).2.1,.int .i64 (gtO l (i:Int).toNat).2.2.1,.int .u8 (gtO l (i:Int).toNat).2.2.2.1,.sl uB (gtO l (i:Int).toNat).2.2.2.2]),(27,.agg [.int .i64 (gtO l (i:Int).toNat).1,.int .i64 (gtO l (i:Int).toNat).2.1,.int .i64 (gtO l (i:Int).toNat).2.2.1,.int .u8 (gtO l (i:Int).toNat).2.2.2.1,.sl uB (gtO l (i:Int).toNat).2.2.2.2]),(28,.ifc (109:Nat) true [.int .i64 (gtO l (i:Int).toNat).1,.int .i64 (gtO l (i:Int).toNat).2.1,.int .i64 (gtO l (i:Int).toNat).2.2.1,.int .u8 (gtO l (i:Int).toNat).2.2.2.1,.sl uB (gtO l (i:Int).toNat).2.2.2.2]),(29,.dead),(30,.win true syS 1122880 0 (List.length (s++qay (1:Nat) (gtO l (i:Int).toNat)))),(31,.int .i64 (i64.wrap ((i:Int)+1)))],blk:=[(1,.var [.bool li,.int .i64 m,.int .i64 o,.sl opS l]),(8,.var [.int .i64 (gtO l (i:Int).toNat).1,.int .i64 (gtO l (i:Int).toNat).2.1,.int .i64 (gtO l (i:Int).toNat).2.2.1,.int .u8 (gtO l (i:Int).toNat).2.2.2.1,.sl uB (gtO l (i:Int).toNat).2.2.2.2]),(1122880,.row 51 syS (s++qay (1:Nat) (gtO l (i:Int).toNat)))] }) (Q [.win true syS 19 0 s.length,.int .i64 0] [(1,.var [.bool li,.int .i64 m,.int .i64 o,.sl opS l]),(19,.row 51 syS s)])):=by kernel_rfl
theorem qt3 (li:Bool) (m o:Int) (l:List OpT) (s:List SyT) (i:Nat) (Q:QT) (R:RT):sy tt G0 E2 Tryd.f28.ntmps Tryd.f28.results.toList Q R 1000 (hd Tryd.f28 0) ⟨[(1,.ptr 1 0),(6,.win true syS 19 0 s.length),(21,.sl opS l),(22,.int .i64 l.length),(23,.int .i64 (i:Nat))],[(1,.var [.bool li,.int .i64 m,.int .i64 o,.sl opS l]),(19,.row 51 syS s)]⟩ =
  (bc (decide ((i:Int)<(l.length:Int))) ((0:Int)<=(i:Int) /\
 (i:Int)<(l.length:Int) /\
 (ctO (2:Int) (110:Nat)).pre ((gtO l (i:Int).toNat),()) /\
 s.length=s.length /\
 (ctA (2:Nat)).pre ((gtO l (i:Int).toNat),s,()) /\
 R (hd Tryd.f28 0) { env:=[(1,.ptr 1 0),(6,.win true syS 1122880 0 (List.length (s++qay (2:Nat) (gtO l (i:Int).toNat)))),(8,.ptr 8 0),(21,.sl opS l),(22,.int .i64 (l.length:Int)),(23,.int .i64 (i64.wrap ((i:Int)+1))),(24,.bool (decide ((i:Int)<(l.length:Int)))),(25,.elv opS (gtO l (i:Int).toNat)),(26,.agg [.int .i64 (gtO l (i:Int).toNat).1,.int .i64 (gtO l (i:Int).toNat).2.1,.int .i64 (gtO l (i:Int).toNat).2.2.1,.int .u8 (gtO l (i:Int).toNat).2.2.2.1,.sl uB (gtO l (i:Int).toNat).2.2.2.2]),(27,.agg [.int .i64 (gtO l (i:Int).toNat).1,.int .i64 (gtO l (i:Int).toNat).2.1,.int .i64 (gtO l (i:Int).toNat).2.2.1,.int .u8 (gtO l (i:Int).toNat).2.2.2.1,.sl uB (gtO l (i:Int).toNat).2.2.2.2]),(28,.ifc (110:Nat) true [.int .i64 (gtO l (i:Int).toNat).1,.int .i64 (gtO l (i:Int).toNat).2.1,.int .i64 (gtO l (i:Int).toNat).2.2.1,.int .u8 (gtO l (i:Int).toNat).2.2.2.1,.sl uB (gtO l (i:Int).toNat).2.2.2.2]),(29,.dead),(30,.win true syS 1122880 0 (List.length (s++qay (2:Nat) (gtO l (i:Int).toNat)))),(31,.int .i64 (i64.wrap ((i:Int)+1)))],blk:=[(1,.var [.bool li,.int .i64 m,.int .i64 o,.sl opS l]),(8,.var [.int .i64 (gtO l (i:Int).toNat).1,.int .i64 (gtO l (i:Int).toNat).2.1,.int .i64 (gtO l (i:Int).toNat).2.2.1,.int .u8 (gtO l (i:Int).toNat).2.2.2.1,.sl uB (gtO l (i:Int).toNat).2.2.2.2]),(1122880,.row 51 syS (s++qay (2:Nat) (gtO l (i:Int).toNat)))] }) (Q [.win true syS 19 0 s.length,.int .i64 0] [(1,.var [.bool li,.int .i64 m,.int .i64 o,.sl opS l]),(19,.row 51 syS s)])):=by kernel_rfl
theorem qt2 (li:Bool) (m o:Int) (l:List OpT) (s:List SyT) (i:Nat) (Q:QT) (R:RT):sy tt G0 E3 Tryd.f28.ntmps Tryd.f28.results.toList Q R 1000 (hd Tryd.f28 0) ⟨[(1,.ptr 1 0),(6,.win true syS 19 0 s.length),(21,.sl opS l),(22,.int .i64 l.length),(23,.int .i64 (i:Nat))],[(1,.var [.bool li,.int .i64 m,.int .i64 o,.sl opS l]),(19,.row 51 syS s)]⟩ =
  (bc (decide ((i:Int)<(l.length:Int))) ((0:Int)<=(i:Int) /\
 (i:Int)<(l.length:Int) /\
 (ctO (3:Int) (111:Nat)).pre ((gtO l (i:Int).toNat),()) /\
 s.length=s.length /\
 (ctA (3:Nat)).pre ((gtO l (i:Int).toNat),s,()) /\
 R (hd Tryd.f28 0) { env:=[(1,.ptr 1 0),(6,.win true syS 1122880 0 (List.length (s++qay (3:Nat) (gtO l (i:Int).toNat)))),(8,.ptr 8 0),(21,.sl opS l),(22,.int .i64 (l.length:Int)),(23,.int .i64 (i64.wrap ((i:Int)+1))),(24,.bool (decide ((i:Int)<(l.length:Int)))),(25,.elv opS (gtO l (i:Int).toNat)),(26,.agg [.int .i64 (gtO l (i:Int).toNat).1,.int .i64 (gtO l (i:Int).toNat).2.1,.int .i64 (gtO l (i:Int).toNat).2.2.1,.int .u8 (gtO l (i:Int).toNat).2.2.2.1,.sl uB (gtO l (i:Int).toNat).2.2.2.2]),(27,.agg [.int .i64 (gtO l (i:Int).toNat).1,.int .i64 (gtO l (i:Int).toNat).2.1,.int .i64 (gtO l (i:Int).toNat).2.2.1,.int .u8 (gtO l (i:Int).toNat).2.2.2.1,.sl uB (gtO l (i:Int).toNat).2.2.2.2]),(28,.ifc (111:Nat) true [.int .i64 (gtO l (i:Int).toNat).1,.int .i64 (gtO l (i:Int).toNat).2.1,.int .i64 (gtO l (i:Int).toNat).2.2.1,.int .u8 (gtO l (i:Int).toNat).2.2.2.1,.sl uB (gtO l (i:Int).toNat).2.2.2.2]),(29,.dead),(30,.win true syS 1122880 0 (List.length (s++qay (3:Nat) (gtO l (i:Int).toNat)))),(31,.int .i64 (i64.wrap ((i:Int)+1)))],blk:=[(1,.var [.bool li,.int .i64 m,.int .i64 o,.sl opS l]),(8,.var [.int .i64 (gtO l (i:Int).toNat).1,.int .i64 (gtO l (i:Int).toNat).2.1,.int .i64 (gtO l (i:Int).toNat).2.2.1,.int .u8 (gtO l (i:Int).toNat).2.2.2.1,.sl uB (gtO l (i:Int).toNat).2.2.2.2]),(1122880,.row 51 syS (s++qay (3:Nat) (gtO l (i:Int).toNat)))] }) (Q [.win true syS 19 0 s.length,.int .i64 0] [(1,.var [.bool li,.int .i64 m,.int .i64 o,.sl opS l]),(19,.row 51 syS s)])):=by kernel_rfl
theorem qt1 (li:Bool) (m o:Int) (l:List OpT) (s:List SyT) (i:Nat) (Q:QT) (R:RT):sy tt G0 E4 Tryd.f28.ntmps Tryd.f28.results.toList Q R 1000 (hd Tryd.f28 0) ⟨[(1,.ptr 1 0),(6,.win true syS 19 0 s.length),(21,.sl opS l),(22,.int .i64 l.length),(23,.int .i64 (i:Nat))],[(1,.var [.bool li,.int .i64 m,.int .i64 o,.sl opS l]),(19,.row 51 syS s)]⟩ =
  (bc (decide ((i:Int)<(l.length:Int))) ((0:Int)<=(i:Int) /\
 (i:Int)<(l.length:Int) /\
 (ctO (4:Int) (112:Nat)).pre ((gtO l (i:Int).toNat),()) /\
 s.length=s.length /\
 (ctA (4:Nat)).pre ((gtO l (i:Int).toNat),s,()) /\
 R (hd Tryd.f28 0) { env:=[(1,.ptr 1 0),(6,.win true syS 1122880 0 (List.length (s++qay (4:Nat) (gtO l (i:Int).toNat)))),(8,.ptr 8 0),(21,.sl opS l),(22,.int .i64 (l.length:Int)),(23,.int .i64 (i64.wrap ((i:Int)+1))),(24,.bool (decide ((i:Int)<(l.length:Int)))),(25,.elv opS (gtO l (i:Int).toNat)),(26,.agg [.int .i64 (gtO l (i:Int).toNat).1,.int .i64 (gtO l (i:Int).toNat).2.1,.int .i64 (gtO l (i:Int).toNat).2.2.1,.int .u8 (gtO l (i:Int).toNat).2.2.2.1,.sl uB (gtO l (i:Int).toNat).2.2.2.2]),(27,.agg [.int .i64 (gtO l (i:Int).toNat).1,.int .i64 (gtO l (i:Int).toNat).2.1,.int .i64 (gtO l (i:Int).toNat).2.2.1,.int .u8 (gtO l (i:Int).toNat).2.2.2.1,.sl uB (gtO l (i:Int).toNat).2.2.2.2]),(28,.ifc (112:Nat) true [.int .i64 (gtO l (i:Int).toNat).1,.int .i64 (gtO l (i:Int).toNat).2.1,.int .i64 (gtO l (i:Int).toNat).2.2.1,.int .u8 (gtO l (i:Int).toNat).2.2.2.1,.sl uB (gtO l (i:Int).toNat).2.2.2.2]),(29,.dead),(30,.win true syS 1122880 0 (List.length (s++qay (4:Nat) (gtO l (i:Int).toNat)))),(31,.int .i64 (i64.wrap ((i:Int)+1)))],blk:=[(1,.var [.bool li,.int .i64 m,.int .i64 o,.sl opS l]),(8,.var [.int .i64 (gtO l (i:Int).toNat).1,.int .i64 (gtO l (i:Int).toNat).2.1,.int .i64 (gtO l (i:Int).toNat).2.2.1,.int .u8 (gtO l (i:Int).toNat).2.2.2.1,.sl uB (gtO l (i:Int).toNat).2.2.2.2]),(1122880,.row 51 syS (s++qay (4:Nat) (gtO l (i:Int).toNat)))] }) (Q [.win true syS 19 0 s.length,.int .i64 0] [(1,.var [.bool li,.int .i64 m,.int .i64 o,.sl opS l]),(19,.row 51 syS s)])):=by kernel_rfl
theorem qnn (n:Int) (Q:QT) (R:RT):sy tt G0 [] Tryd.f26.ntmps Tryd.f26.results.toList Q R 1000 [.code (qae Tryd.f26)] (entry [iI] (n,())) =
  (bc (decide (n=(0:Int))) (Q [.agg [.bool false,.int .i64 0,.int .i64 0,.nils]] [(2,.var [.bool false,.int .i64 0,.int .i64 0,.nils])]) (Q [.agg [.bool false,.int .i64 n,.int .i64 n,.win true opS 10 0 (1:Nat)]] [(2,.var [.bool false,.int .i64 n,.int .i64 n,.win true opS 10 0 (1:Nat)]),(10,.row 56 opS ([((1:Int),(0:Int),n,(0:Int),[])]:List opS.D))])):=by kernel_rfl
def qcd (x y:OpT):List (Nat × LB):=[(2,.var [.int .i64 x.1,.int .i64 x.2.1,.int .i64 x.2.2.1,.int .u8 x.2.2.2.1,.sl uB x.2.2.2.2]),(3,.var [.int .i64 y.1,.int .i64 y.2.1,.int .i64 y.2.2.1,.int .u8 y.2.2.2.1,.sl uB y.2.2.2.2])]
theorem qt4 (x y:OpT) (Q:QT) (R:RT):sy tt G0 [] Tryd.f36.ntmps Tryd.f36.results.toList Q R 1000 [.code (qae Tryd.f36)] (entry [opS,opS] (x,y,())) =
  (bc (decide (x.1=y.1)) (bc (decide (x.2.1=y.2.1)) (bc (decide (x.2.2.1=y.2.2.1)) (bc (decide (x.2.2.2.1=y.2.2.2.1)) (Q [.bool (decide (List.map toB x.2.2.2.2=List.map toB y.2.2.2.2))] (qcd x y)) (false=false /\
 Q [.bool false] (qcd x y))) (false=false /\
 false=false /\
 Q [.bool false] (qcd x y))) (false=false /\
 false=false /\
 false=false /\
 Q [.bool false] (qcd x y))) (false=false /\
 false=false /\
 false=false /\
 false=false /\
 Q [.bool false] (qcd x y))):=by kernel_rfl
theorem q2i {l:List Int} {i:Nat} (h:i<l.length):gtB l i=l[i]:=gtE (e:=uB) h
theorem qvi {ct:Ctr} {x:DL ct.args} {rs:List SV} {blk:List (Nat × LB)} {e:Sh} {et:TypeId} {a k:Nat} {z:Int} {xs:List e.D} (h:ct.out x=[.win true e 0 0 xs.length,.int .i64 z]) (hr:ct.rows x=[.row et e xs]) (hs:rs=[.win true e a 0 k,.int .i64 z]) (hk:k=xs.length) (hb:lk blk a=some (.row et e xs)):QC ct x rs blk:=by
 subst hs;subst hk;refine ⟨fun i=>if i=0 then some a else none,?_,?_,fun i j b h1 h2=>?_,by rw[hr];rfl⟩
 ·rw[h];exact ⟨_,_,rfl,.inl ⟨true,a,rfl,rfl,fun h=>h⟩,_,_,rfl,rfl,rfl⟩
 ·rw[hr];exact ⟨.inl ⟨a,rfl,hb⟩,trivial⟩
 ·simp only at h1 h2;split at h1
  ·split at h2
   ·omega
   ·cases h2
  ·cases h1
theorem qvj {ct:Ctr} {x:DL ct.args} {rs:List SV} {blk:List (Nat × LB)} {e:Sh} {et:TypeId} {z:Int} (h:ct.out x=[.win true e 0 0 0,.int .i64 z]) (hr:ct.rows x=[.row et e []]) (hs:rs=[.nils,.int .i64 z]) (he:0<e.size):QC ct x rs blk:=by
 subst hs;refine ⟨fun _=>none,?_,?_,fun i j b h1 h2=>?_,by rw[hr];rfl⟩
 ·rw[h];exact ⟨_,_,rfl,.inr ⟨rfl,rfl,rfl,rfl⟩,_,_,rfl,rfl,rfl⟩
 ·rw[hr];exact ⟨.inr ⟨rfl,_,_,rfl,he⟩,trivial⟩
 ·simp at h1
def soB (x y:OpT):Bool:=decide (x.1=y.1)&&(decide (x.2.1=y.2.1)&&(decide (x.2.2.1=y.2.2.1)&&(decide (x.2.2.2.1=y.2.2.2.1)&&decide (x.2.2.2.2.map toB=y.2.2.2.2.map toB))))
def ctSO:Ctr:=⟨[opS,opS],fun _=>True,fun x=>[.bool (soB x.1 x.2.1)],fun _=>[]⟩
theorem q4p:Held Tryd.prog G0 36 ctSO:=by
 refine Held.run cx0 (fn:=Tryd.f36) rfl rfl ⟨by decide,by decide⟩ ?_;rintro ⟨x,y,⟨⟩⟩ _;refine (qt4 x y _ _).mpr ?_
 cases e1:decide (x.1=y.1) <;> cases e2:decide (x.2.1=y.2.1) <;> cases e3:decide (x.2.2.1=y.2.2.1) <;> cases e4:decide (x.2.2.2.1=y.2.2.2.1) <;>
  simp only[bc_t,bc_f,cond_true,cond_false,true_and] <;> exact QC.flat (by simp only[ctSO,soB,e1,e2,e3,e4];rfl) rfl rfl
def ofV (l:List SyT) (m:Int):PaT × Int:=if szB m=true/\szB l.length=true/\l.all (sOK m)=true then (if 4096<(opsL l).length then ((false,0,0,[]),2) else ((false,m,l.length,opsL l),0)) else ((false,0,0,[]),60)
def paV (p:PaT):SV:=.agg [.bool p.1,.int .i64 p.2.1,.int .i64 p.2.2.1,.sl opS p.2.2.2]
def lenS (l:List OpT):Int:=(l.map fun x=>x.2.2.1).sum
theorem q2s {m N:Int}:∀ {l:List OpT} {left i:Int},(chkF m N l left i).2=0->0<=left->(∀ x∈l,isRB x m=true)/\lenS l=left
 | [],left,i,h,h0=>by
  refine ⟨fun x hx=>by simp at hx,?_⟩;simp only[chkF] at h;split at h
  ·cases h
  ·show (0:Int)=left;omega
 | x::l,left,i,h,h0=>by
  simp only[chkF] at h;split at h
  ·cases h
  ·rename_i h1;split at h
   ·cases h
   ·rename_i h2;have hr:isRB x m=true:=by simpa using h1
    have hx:=qds hr;obtain ⟨k1,k2⟩:=q2s h (by omega);refine ⟨fun y hy=>?_,?_⟩
    ·rcases List.mem_cons.1 hy with rfl | hy
     ·exact hr
     ·exact k1 y hy
    ·simp only[lenS,List.map_cons,List.sum_cons] at k2 |-;omega
theorem qfe {x:OpT} {m:Int} (h:isRB x m=true):(x.1=1\/x.1=2\/x.1=3\/x.1=4)/\(cntO x.1.toNat x:Int)=x.2.2.1:=by
 have hl:=qds h;unfold isRB kR at h;simp only[Bool.and_eq_true,decide_eq_true_eq] at h;obtain ⟨_,_,h⟩:=h;obtain ⟨k,f,n,b,d⟩:=x;simp only at h hl |-;split at h
 ·rename_i e;subst e;exact ⟨.inl rfl,by show (n.toNat:Int)=n;omega⟩
 ·split at h
  ·rename_i e;subst e;simp only[rB,Bool.and_eq_true,decide_eq_true_eq] at h;exact ⟨.inr (.inl rfl),h.2.2⟩
  ·split at h
   ·rename_i e;subst e;exact ⟨.inr (.inr (.inl rfl)),by show (n.toNat:Int)=n;omega⟩
   ·split at h
    ·rename_i e;subst e;simp only[rB,Bool.and_eq_true,decide_eq_true_eq] at h;exact ⟨.inr (.inr (.inr rfl)),h.2.2⟩
    ·cases h
theorem qkn (x:OpT) (l:List OpT):lenS (x::l)=x.2.2.1+lenS l:=by simp only[lenS,List.map_cons,List.sum_cons]
theorem qhk {m:Int}:∀ {l:List OpT},(∀ x∈l,isRB x m=true)->0<=lenS l
 | [],_=>Int.le_refl 0
 | x::l,h=>by
  have h1:=qds (h x (by simp));have h2:=qhk (l:=l) fun y hy=>h y (by simp[hy])
  simp only[lenS,List.map_cons,List.sum_cons] at h2 |-;omega
def symF:List OpT->List SyT
 | []=>[]
 | x::l=>qay x.1.toNat x++symF l
def symV (p:PaT):List SyT × Int:=if (chkV p).2=0 then (symF p.2.2.2,0) else ([],(chkV p).2)
def ctSym:Ctr:=⟨[paS],fun _=>True,fun x=>[.win true syS 0 0 (symV x.1).1.length,.int .i64 (symV x.1).2],fun x=>[.row 51 syS (symV x.1).1]⟩
abbrev SQ (p:PaT):List SV->List (Nat × LB)->Prop:=QC ctSym (p,())
theorem qk3 {p:PaT} (h:(chkV p).2=0):(∀ x∈p.2.2.2,isRB x p.2.1=true)/\lenS p.2.2.2=p.2.2.1/\(0<=p.2.2.1/\p.2.2.1<=65536)/\p.2.2.2.length<=4096:=by
 unfold chkV at h;split at h
 ·rename_i hg;have hs:0<=p.2.2.1/\p.2.2.1<=65536:=by
   have:=hg.2.1;unfold szB at this;simpa only[Bool.and_eq_true,decide_eq_true_eq] using this
  obtain ⟨h1,h2⟩:=q2s h hs.1;exact ⟨h1,h2,hs,hg.2.2⟩
 ·cases h
theorem qya (li:Bool) (m o:Int) (l:List OpT) (hc:(chkV (li,m,o,l)).2=0):∀ (k i:Nat) (s:List SyT),l.length-i=k->i<=l.length->(s.length:Int)+lenS (l.drop i)<=65536->s++symF (l.drop i)=symF l ->
  GD 28 Tryd.f28 (SQ (li,m,o,l)) (hd Tryd.f28 0) ⟨[(1,.ptr 1 0),(6,.win true syS 19 0 s.length),(21,.sl opS l),(22,.int .i64 l.length),(23,.int .i64 (i:Nat))],[(1,.var [.bool li,.int .i64 m,.int .i64 o,.sl opS l]),(19,.row 51 syS s)]⟩:=by
 obtain ⟨hr,hsum,hob,hlen⟩:=qk3 hc;simp only at hr hsum hob hlen;intro k
 induction k with
 | zero=>
  intro i s hk hi hb hs;have hi:i=l.length:=by omega
  subst hi;refine qaj ex1 _ _ _ ((qnm li m o l s _ _ _).mpr ?_);rw[decide_eq_false (by omega),bc_f];rw[List.drop_length,symF,List.append_nil] at hs;have hv:symV (li,m,o,l)=(s,0):=by unfold symV;rw[if_pos hc,hs]
  refine qvi (e:=syS) (et:=51) (a:=19) (z:=0) (xs:=s) ?_ ?_ rfl rfl rfl
  ·show [_,_]=_;rw[hv]
  ·show [_]=_;rw[hv]
 | succ k ih=>
  intro i s hk hi hb hs;have hil:i<l.length:=by omega
  have hx:=hr l[i] (List.getElem_mem hil);have hk2:=qfe hx;have hl2:=qds hx;rw[qtg hil] at hb hs;rw[qkn] at hb;have hb2:(s.length:Int)+(l[i].2.2.1+lenS (l.drop (i+1)))<=65536:=hb;have hpos:0<=lenS (l.drop (i+1)):=qhk fun y hy=>hr y (List.mem_of_mem_drop hy)
  have hcl:(qay l[i].1.toNat l[i]).length=cntO l[i].1.toNat l[i]:=by unfold qay;exact qkr _ _ _
  have hpre:preA l[i].1.toNat l[i] s:=⟨by omega,by omega,by omega⟩;have nx:GD 28 Tryd.f28 (SQ (li,m,o,l)) (hd Tryd.f28 0) ⟨[(1,.ptr 1 0),(6,.win true syS 19 0 (s++qay l[i].1.toNat l[i]).length),(21,.sl opS l),(22,.int .i64 l.length),(23,.int .i64 ((i+1:Nat):Int))],[(1,.var [.bool li,.int .i64 m,.int .i64 o,.sl opS l]),(19,.row 51 syS (s++qay l[i].1.toNat l[i]))]⟩:=
   ih (i+1) _ (by omega) (by omega) (by rw[List.length_append];omega) (by rw[List.append_assoc];exact hs)
  have wi:IntKind.i64.wrap ((i:Int)+1)=((i+1:Nat):Int):=by rw[IntWalk.i64_in _ (by omega)];omega
  rcases hk2.1 with e | e | e | e
  ·rw[e] at hpre nx;refine qaj ex1 _ _ _ ((qnm li m o l s i _ _).mpr ?_);rw[decide_eq_true (show (i:Int)<(l.length:Int) by omega),bc_t,Int.toNat_natCast,qge hil,wi];exact ⟨by omega,by omega,e,rfl,hpre,nx.onlyR [(19,1122880)] rfl ⟨rfl,rfl,rfl,rfl,rfl,trivial⟩ ⟨rfl,rfl,trivial⟩⟩
  ·rw[e] at hpre nx;refine qaj ex2 _ _ _ ((qt3 li m o l s i _ _).mpr ?_);rw[decide_eq_true (show (i:Int)<(l.length:Int) by omega),bc_t,Int.toNat_natCast,qge hil,wi];exact ⟨by omega,by omega,e,rfl,hpre,nx.onlyR [(19,1122880)] rfl ⟨rfl,rfl,rfl,rfl,rfl,trivial⟩ ⟨rfl,rfl,trivial⟩⟩
  ·rw[e] at hpre nx;refine qaj ex3 _ _ _ ((qt2 li m o l s i _ _).mpr ?_);rw[decide_eq_true (show (i:Int)<(l.length:Int) by omega),bc_t,Int.toNat_natCast,qge hil,wi];exact ⟨by omega,by omega,e,rfl,hpre,nx.onlyR [(19,1122880)] rfl ⟨rfl,rfl,rfl,rfl,rfl,trivial⟩ ⟨rfl,rfl,trivial⟩⟩
  ·rw[e] at hpre nx;refine qaj ex4 _ _ _ ((qt1 li m o l s i _ _).mpr ?_);rw[decide_eq_true (show (i:Int)<(l.length:Int) by omega),bc_t,Int.toNat_natCast,qge hil,wi];exact ⟨by omega,by omega,e,rfl,hpre,nx.onlyR [(19,1122880)] rfl ⟨rfl,rfl,rfl,rfl,rfl,trivial⟩ ⟨rfl,rfl,trivial⟩⟩
theorem qqr:Held Tryd.prog G0 28 ctSym:=by
 refine Held.run cxA (fn:=Tryd.f28) rfl rfl ⟨by decide,by decide⟩ ?_;rintro ⟨⟨li,m,o,l⟩,⟨⟩⟩ _;refine (q23 li m o l _ _).mpr ⟨trivial,qaf (fun h=>?_) (fun h=>?_)⟩
 ·have h:(chkV (li,m,o,l)).2≠0:=of_decide_eq_true h;have hv:symV (li,m,o,l)=([],(chkV (li,m,o,l)).2):=by unfold symV;rw[if_neg h]
  refine qvj (e:=syS) (et:=51) (z:=(chkV (li,m,o,l)).2) ?_ ?_ rfl (by decide)
  ·show [_,_]=_;rw[hv];rfl
  ·show [_]=_;rw[hv]
 ·have h:¬ (chkV (li,m,o,l)).2≠0:=of_decide_eq_false h;have h:(chkV (li,m,o,l)).2=0:=by simpa using h
  obtain ⟨hr,hsum,hob,hlen⟩:=qk3 h;simp only at hr hsum hob hlen;refine ⟨Int.le_refl 0,hob.1,?_,?_,?_⟩
  ·exact Int.lt_of_le_of_lt hob.2 (by decide)
  ·exact Int.le_trans (Int.mul_le_mul_of_nonneg_left hob.2 (by decide)) (by decide)
  ·exact (qya li m o l h _ 0 [] rfl (by omega) (by rw[List.drop_zero,hsum];simpa using hob.2) rfl).only ⟨rfl,rfl,rfl,rfl,rfl,trivial⟩ ⟨rfl,rfl,trivial⟩
def k14 (x:OpT):Prop:=x.1=1\/x.1=2\/x.1=3\/x.1=4
def CS:CV:=[(36,.inl ctSO)]
theorem cxS:CxOK Tryd.prog tt G0 CS:=cx0.cons q4p (fn:=Tryd.f36) rfl rfl rfl
set_option maxRecDepth 100000
def qem (li li2:Bool) (m o m2 o2:Int) (l l2:List OpT):List (Nat × LB):=[(2,.var [.bool li,.int .i64 m,.int .i64 o,.sl opS l]),(3,.var [.bool li2,.int .i64 m2,.int .i64 o2,.sl opS l2])]
theorem q24 (li li2:Bool) (m o m2 o2:Int) (l l2:List OpT) (Q:QT) (R:RT):sy tt G0 CS Tryd.f12.ntmps Tryd.f12.results.toList Q R 1000 [.code (qae Tryd.f12)] (entry [paS,paS] ((li,m,o,l),(li2,m2,o2,l2),())) =
  (bc (!li == li2) (true=true /\
 true=true /\
 true=true /\
 Q [.bool false] (qem li li2 m o m2 o2 l l2)) (bc (bif false then true else decide (m≠m2)) (true=true /\
 true=true /\
 Q [.bool false] (qem li li2 m o m2 o2 l l2)) (bc (bif false then true else decide (o≠o2)) (true=true /\
 Q [.bool false] (qem li li2 m o m2 o2 l l2)) (bc (bif false then true else decide ((l.length:Int)≠(l2.length:Int))) (Q [.bool false] (qem li li2 m o m2 o2 l l2)) (R (hd Tryd.f12 0) { env:=[(0,.agg [.bool li,.int .i64 m,.int .i64 o,.sl opS l]),(1,.agg [.bool li2,.int .i64 m2,.int .i64 o2,.sl opS l2]),(2,.ptr 2 0),(3,.ptr 3 0),(4,.bool false),(5,.int .i64 0),(6,.ptr 2 0),(7,.bool li),(8,.ptr 3 0),(9,.bool li2),(10,.bool !li == li2),(11,.bool false),(12,.ptr 2 1),(13,.int .i64 m),(14,.ptr 3 1),(15,.int .i64 m2),(16,.bool (decide (m≠m2))),(17,.bool (bif false then true else decide (m≠m2))),(18,.bool false),(19,.ptr 2 2),(20,.int .i64 o),(21,.ptr 3 2),(22,.int .i64 o2),(23,.bool (decide (o≠o2))),(24,.bool (bif false then true else decide (o≠o2))),(25,.bool false),(26,.ptr 2 3),(27,.sl opS l),(28,.int .i64 (l.length:Int)),(29,.ptr 3 3),(30,.sl opS l2),(31,.int .i64 (l2.length:Int)),(32,.bool (decide ((l.length:Int)≠(l2.length:Int)))),(33,.bool (bif false then true else decide ((l.length:Int)≠(l2.length:Int))))],blk:=[(2,.var [.bool li,.int .i64 m,.int .i64 o,.sl opS l]),(3,.var [.bool li2,.int .i64 m2,.int .i64 o2,.sl opS l2])] }))))):=by kernel_rfl
def qis (li li2:Bool) (m o m2 o2:Int) (l l2:List OpT):List (Nat × LB):=[(2,.var [.bool li,.int .i64 m,.int .i64 o,.sl opS l]),(3,.var [.bool li2,.int .i64 m2,.int .i64 o2,.sl opS l2])]
theorem qql (li li2:Bool) (m o m2 o2:Int) (l l2:List OpT) (i:Nat) (Q:QT) (R:RT):sy tt G0 CS Tryd.f12.ntmps Tryd.f12.results.toList Q R 1000 (hd Tryd.f12 0) ⟨[(2,.ptr 2 0),(3,.ptr 3 0),(5,.int .i64 (i:Nat))],[(2,.var [.bool li,.int .i64 m,.int .i64 o,.sl opS l]),(3,.var [.bool li2,.int .i64 m2,.int .i64 o2,.sl opS l2])]⟩ =
  (bc (decide ((i:Int)<(l.length:Int))) ((0:Int)<=(i:Int) /\
 (i:Int)<(l.length:Int) /\
 (0:Int)<=(i:Int) /\
 (i:Int)<(l2.length:Int) /\
 ctSO.pre ((gtO l (i:Int).toNat),(gtO l2 (i:Int).toNat),()) /\
 bc (!soB (gtO l (i:Int).toNat) (gtO l2 (i:Int).toNat)) (Q [.bool false] (qis li li2 m o m2 o2 l l2)) (R (hd Tryd.f12 0) { env:=[(2,.ptr 2 0),(3,.ptr 3 0),(5,.int .i64 (IntKind.i64.wrap ((i:Int)+1))),(34,.int .i64 (i:Int)),(35,.ptr 2 3),(36,.sl opS l),(37,.int .i64 (l.length:Int)),(38,.bool (decide ((i:Int)<(l.length:Int)))),(39,.int .i64 (i:Int)),(40,.int .i64 (IntKind.i64.wrap ((i:Int)+1))),(41,.ptr 2 3),(42,.sl opS l),(43,.int .i64 (i:Int)),(44,.elv opS (gtO l (i:Int).toNat)),(45,.agg [.int .i64 (gtO l (i:Int).toNat).1,.int .i64 (gtO l (i:Int).toNat).2.1,.int .i64 (gtO l (i:Int).toNat).2.2.1,.int .u8 (gtO l (i:Int).toNat).2.2.2.1,.sl uB (gtO l (i:Int).toNat).2.2.2.2]),(46,.ptr 3 3),(47,.sl opS l2),(48,.int .i64 (i:Int)),(49,.elv opS (gtO l2 (i:Int).toNat)),(50,.agg [.int .i64 (gtO l2 (i:Int).toNat).1,.int .i64 (gtO l2 (i:Int).toNat).2.1,.int .i64 (gtO l2 (i:Int).toNat).2.2.1,.int .u8 (gtO l2 (i:Int).toNat).2.2.2.1,.sl uB (gtO l2 (i:Int).toNat).2.2.2.2]),(51,.bool (soB (gtO l (i:Int).toNat) (gtO l2 (i:Int).toNat))),(52,.bool !soB (gtO l (i:Int).toNat) (gtO l2 (i:Int).toNat))],blk:=[(2,.var [.bool li,.int .i64 m,.int .i64 o,.sl opS l]),(3,.var [.bool li2,.int .i64 m2,.int .i64 o2,.sl opS l2])] })) (Q [.bool true] (qis li li2 m o m2 o2 l l2))):=by kernel_rfl
theorem qfs {m:Int}:∀ {l:List OpT},(∀ x∈l,isRB x m=true)->((symF l).length:Int)=lenS l
 | [],_=>rfl
 | x::l,h=>by
  have h1:=qfe (h x (by simp));have h2:=qfs (l:=l) fun y hy=>h y (by simp[hy])
  have hcl:(qay x.1.toNat x).length=cntO x.1.toNat x:=by unfold qay;exact qkr _ _ _
  rw[qkn,symF,List.length_append,hcl];omega
def smL:List OpT->List OpT->Bool
 | [],[]=>true
 | x::l,y::m=>soB x y&&smL l m
 | _,_=>false
def smB (p q:PaT):Bool:=(p.1 == q.1)&&(decide (p.2.1=q.2.1)&&(decide (p.2.2.1=q.2.2.1)&&(decide (p.2.2.2.length=q.2.2.2.length)&&smL p.2.2.2 q.2.2.2)))
def ctSm:Ctr:=⟨[paS,paS],fun x=>List.length x.1.2.2.2<1099511627776,fun x=>[.bool (smB x.1 x.2.1)],fun _=>[]⟩
theorem q4r (li li2:Bool) (m o m2 o2:Int) (l l2:List OpT) (hl:l.length<1099511627776) (he:l.length=l2.length):∀ (k i:Nat),l.length-i=k->i<=l.length ->
  GD 12 Tryd.f12 (fun rs _=>rs=[.bool (smL (l.drop i) (l2.drop i))]) (hd Tryd.f12 0) ⟨[(2,.ptr 2 0),(3,.ptr 3 0),(5,.int .i64 (i:Nat))],[(2,.var [.bool li,.int .i64 m,.int .i64 o,.sl opS l]),(3,.var [.bool li2,.int .i64 m2,.int .i64 o2,.sl opS l2])]⟩:=by
 intro k
 induction k with
 | zero=>
  intro i hk hi;have hi:i=l.length:=by omega
  subst hi;refine qaj cxS _ _ _ ((qql li li2 m o m2 o2 l l2 _ _ _).mpr ?_);rw[decide_eq_false (by omega),bc_f,List.drop_length,he,List.drop_length];rfl
 | succ k ih=>
  intro i hk hi;have hx:i<l.length:=by omega
  have hy:i<l2.length:=by omega
  refine qaj cxS _ _ _ ((qql li li2 m o m2 o2 l l2 i _ _).mpr ?_);rw[decide_eq_true (show (i:Int)<(l.length:Int) by omega),bc_t,Int.toNat_natCast,qge hx,qge hy,IntWalk.i64_in ((i:Int)+1) (by omega),qtg hx,qtg hy,smL];refine ⟨by omega,by omega,by omega,by omega,trivial,qaf (fun h=>?_) (fun h=>?_)⟩
  ·have h:soB l[i] l2[i]=false:=by simpa using h
   rw[h];rfl
  ·have h:soB l[i] l2[i]=true:=by simpa using h
   rw[h];exact (ih (i+1) (by omega) (by omega)).only ⟨rfl,rfl,rfl,trivial⟩ ⟨rfl,rfl,trivial⟩
theorem quw:Held Tryd.prog G0 12 ctSm:=by
 refine Held.run cxS (fn:=Tryd.f12) rfl rfl ⟨by decide,by decide⟩ ?_;rintro ⟨⟨li,m,o,l⟩,⟨li2,m2,o2,l2⟩,⟨⟩⟩ hp;replace hp:l.length<1099511627776:=hp;refine (q24 li li2 m o m2 o2 l l2 _ _).mpr ?_
 cases e0:(li == li2)
 ·exact ⟨rfl,rfl,rfl,QC.flat (by show [SV.bool (smB _ _)]=_;simp only[smB,e0];rfl) rfl rfl⟩
 ·rw[Bool.not_true,bc_f];refine qaf (fun h=>⟨rfl,rfl,?_⟩) (fun h=>qaf (fun h2=>⟨rfl,?_⟩) (fun h2=>qaf (fun h3=>?_) (fun h3=>?_)))
  ·have h:m≠m2:=of_decide_eq_true h;exact QC.flat (by show [SV.bool (smB _ _)]=_;simp only[smB,e0,decide_eq_false h];rfl) rfl rfl
  ·have h2:o≠o2:=of_decide_eq_true h2;exact QC.flat (by show [SV.bool (smB _ _)]=_;simp only[smB,e0,decide_eq_false h2,Bool.false_and,Bool.and_false]) rfl rfl
  ·have h3:(l.length:Int)≠l2.length:=of_decide_eq_true h3;have h3:¬ l.length=l2.length:=by omega
   exact QC.flat (by show [SV.bool (smB _ _)]=_;simp only[smB,e0,decide_eq_false h3,Bool.false_and,Bool.and_false]) rfl rfl
  ·have h:m=m2:=by
    have h:¬ m≠m2:=of_decide_eq_false h;simpa using h
   have h2:o=o2:=by
    have h2:¬ o≠o2:=of_decide_eq_false h2;simpa using h2
   have h3:l.length=l2.length:=by
    have h3:¬ (l.length:Int)≠l2.length:=of_decide_eq_false h3;omega
   refine ((q4r li li2 m o m2 o2 l l2 hp h3 _ 0 rfl (by omega)).post fun rs blk hq=>QC.flat ?_ rfl (by rw[hq];rfl)).only ⟨rfl,rfl,rfl,trivial⟩ ⟨rfl,rfl,trivial⟩;rw[hq]
   show [SV.bool (smB _ _)]=_
   simp only[smB,e0,decide_eq_true h,decide_eq_true h2,decide_eq_true h3,Bool.true_and];rfl
def rwV (n:Int):PaT:=if n=0 then (false,0,0,[]) else (false,n,n,[((1,0,n,0,[]):OpT)])
def ctRw:Ctr:=⟨[iI],fun _=>True,fun x=>[paV (rwV x.1)],fun _=>[]⟩
def ctRw1:Ctr:=⟨[iI],fun x=>x.1≠0,fun x=>[.agg [.bool false,.int .i64 x.1,.int .i64 x.1,.win true opS 0 0 1]],fun x=>[.row 56 opS [((1,0,x.1,0,[]):OpT)]]⟩
def ctRw0:Ctr:=⟨[iI],fun x=>¬ x.1≠0,fun x=>[paV (rwV x.1)],fun _=>[]⟩
theorem rw1_held:Held Tryd.prog G0 26 ctRw1:=by
 refine Held.run cx0 (fn:=Tryd.f26) rfl rfl ⟨by decide,by decide⟩ ?_;rintro ⟨n,⟨⟩⟩ hp;replace hp:n≠0:=hp;refine (qnn n _ _).mpr ?_;rw[decide_eq_false hp,bc_f];refine ⟨fun i=>if i=0 then some 10 else none,?_,?_,fun i j b h1 h2=>?_,rfl⟩
 ·exact ⟨_,_,rfl,⟨_,rfl,_,_,rfl,rfl,_,_,rfl,rfl,_,_,rfl,rfl,_,_,rfl,.inl ⟨true,10,rfl,rfl,fun h=>h⟩,rfl⟩,rfl⟩
 ·exact ⟨.inl ⟨10,rfl,rfl⟩,trivial⟩
 ·simp only at h1 h2;split at h1
  ·split at h2
   ·omega
   ·cases h2
  ·cases h1
theorem qyj:Held Tryd.prog G0 26 ctRw0:=by
 refine Held.run cx0 (fn:=Tryd.f26) rfl rfl ⟨by decide,by decide⟩ ?_;rintro ⟨n,⟨⟩⟩ hp;replace hp:¬ n≠0:=hp;have hp:n=0:=by simpa using hp
 refine (qnn n _ _).mpr ?_;rw[decide_eq_true hp,bc_t];refine QC.mt ?_ rfl
 show MtL _ [paV (rwV n)] _
 unfold rwV;rw[if_pos hp];exact ⟨_,_,rfl,⟨_,rfl,_,_,rfl,rfl,_,_,rfl,rfl,_,_,rfl,rfl,_,_,rfl,.inr ⟨rfl,rfl⟩,rfl⟩,rfl⟩
theorem q4t:Held Tryd.prog G0 26 ctRw:=fun x _=>by
 by_cases h:x.1≠0
 ·have e:=(rw1_held.frz (fun x hp=>⟨by simp[ctRw1,inL,inS],trivial⟩)) x h;have hv:[paV (rwV x.1)]=qs8 0 (ctRw1.rows x) (ctRw1.out x):=by
   unfold rwV;rw[if_neg h];rfl
  intro base M args args' w cs Z H h1 h2 h3 h4 h5;have:=e base M args args' w cs Z H h1 h2 h3 h4 h5;simp only[Ctr.frz,ctRw] at this |-;rw[hv];exact this
 ·exact qyj x h
theorem q7b (n a b:Int) (Q:QT) (R:RT):sy tt G0 [] Tryd.f46.ntmps Tryd.f46.results.toList Q R 1000 [.code (qae Tryd.f46)] (entry [iI,iI,iI] (n,a,b,())) =
  (bc (decide (a<=n)) (Q [.bool (decide (n<=b))] []) (false=false /\
 Q [.bool false] [])):=by kernel_rfl
theorem q8v {ct:Ctr} {x:DL ct.args} {rs:List SV} {blk:List (Nat × LB)} {e:Sh} {et:TypeId} {a k:Nat} {xs:List e.D} (h:ct.out x=[.win true e 0 0 xs.length]) (hr:ct.rows x=[.row et e xs]) (hs:rs=[.win true e a 0 k]) (hk:k=xs.length) (hb:lk blk a=some (.row et e xs)):QC ct x rs blk:=by
 subst hs;subst hk;refine ⟨fun i=>if i=0 then some a else none,?_,?_,fun i j b h1 h2=>?_,by rw[hr];rfl⟩
 ·rw[h];exact ⟨_,_,rfl,.inl ⟨true,a,rfl,rfl,fun h=>h⟩,rfl⟩
 ·rw[hr];exact ⟨.inl ⟨a,rfl,hb⟩,trivial⟩
 ·simp only at h1 h2;split at h1
  ·split at h2
   ·omega
   ·cases h2
  ·cases h1
def ctIn:Ctr:=⟨[iI,iI,iI],fun _=>True,fun x=>[.bool (decide (x.2.1<=x.1)&&decide (x.1<=x.2.2.1))],fun _=>[]⟩
theorem qm7:Held Tryd.prog G0 46 ctIn:=by
 refine Held.run cx0 (fn:=Tryd.f46) rfl rfl ⟨by decide,by decide⟩ ?_;rintro ⟨n,a,b,⟨⟩⟩ _;refine (q7b n a b _ _).mpr (qaf (fun h=>?_) (fun h=>⟨rfl,?_⟩))
 ·exact QC.flat (by simp only[ctIn,h];rfl) rfl rfl
 ·exact QC.flat (by simp only[ctIn,h];rfl) rfl rfl
def inB (x:List Int) (i:Nat):Int:=if i<x.length then gtB x i else IntKind.u8.wrap (IntKind.i64.wrap (7*(i:Int)))
def q5a (x:List Int):Prop:=∀ j,0<=gtB x j/\gtB x j<256
abbrev a4S:Sh:=.arr 4 uB
abbrev raS:Sh:=.pair uB (.sl a4S)
set_option maxRecDepth 100000
theorem qzo (a b:List OpT):lenS (a++b)=lenS a+lenS b:=by simp[lenS]
def qvn (l:List (List Int)):Prop:=∀ j,q5a (gt a4S l j)
section
variable (z m:Int) (l:List (List Int)) (hl:qvn l) (hm0:0<=m) (hm1:m<16777216) (hn:l.length<9223372036854775808)
include hl hm0 hm1 hn
end
theorem qp3 (el:Nat->SyT):∀ n i k,k<n->(gen el n i)[k]?=some (el (i+k))
 | 0,_,_,h=>by omega
 | n+1,i,0,_=>by rw[gen];rfl
 | n+1,i,k+1,h=>by
  rw[gen,List.getElem?_cons_succ,qp3 el n (i+1) k (by omega)]
  congr 2;omega
theorem qwy (el:Nat->SyT):∀ n i s,s∈gen el n i->∃ k,k<n/\s=el (i+k)
 | 0,_,_,h=>by cases h
 | n+1,i,s,h=>by
  rw[gen] at h;rcases List.mem_cons.1 h with h | h
  ·exact ⟨0,by omega,h⟩
  ·obtain ⟨k,h1,h2⟩:=qwy el n (i+1) s h;exact ⟨k+1,by omega,by rw[h2];congr 1;omega⟩
theorem q2t {m N:Int}:∀ {l:List OpT} {left i:Int},(∀ x∈l,isRB x m=true)->lenS l=left->chkF m N l left i=(N,0)
 | [],left,i,_,h=>by
  have h:(0:Int)=left:=h;rw[chkF,if_neg (by omega)]
 | x::l,left,i,hr,h=>by
  have h1:=hr x (by simp);have h2:=qds h1;have h3:=qhk (l:=l) fun y hy=>hr y (by simp[hy])
  rw[qkn] at h;rw[chkF,if_neg (by rw[h1];decide),if_neg (by omega)];exact q2t (fun y hy=>hr y (by simp[hy])) (by omega)
theorem qw9 {li:Bool} {m o:Int} {l:List OpT} (h0:0<=m) (h1:m<=65536) (ho:o<=65536) (hl:l.length<=4096) (hr:∀ x∈l,isRB x m=true) (hs:lenS l=o):chkV (li,m,o,l)=((l.length:Int),(0:Int)):=by
 have:=qhk hr;unfold chkV;rw[if_pos ⟨by simp[szB];omega,by simp[szB];omega,hl⟩];exact q2t hr hs
theorem qun {m:Int}:∀ {l:List OpT},(∀ x∈l,isRB x m=true)->∀ s∈symF l,∃ x∈l,∃ k:Nat,(k:Int)<x.2.2.1/\s=elO x.1.toNat x k
 | [],_,s,h=>by cases h
 | x::l,hr,s,h=>by
  rw[symF] at h;rcases List.mem_append.1 h with h | h
  ·obtain ⟨k,h1,h2⟩:=qwy _ _ _ _ h;have:=(qfe (hr x (by simp))).2;exact ⟨x,by simp,k,by omega,by rw[h2,Nat.zero_add]⟩
  ·obtain ⟨y,hy,k,h1,h2⟩:=qun (fun y hy=>hr y (by simp[hy])) s h;exact ⟨y,by simp[hy],k,h1,h2⟩
theorem qwo {x:OpT} {m:Int} (h:isRB x m=true) (hm:0<=m/\m<16777216) (hk:x.1=1\/x.1=2):0<=x.2.1/\x.2.1+x.2.2.1<=m:=by
 unfold isRB kR at h;simp only[Bool.and_eq_true,decide_eq_true_eq] at h;obtain ⟨h1,h2,h3⟩:=h;have w:IntKind.i64.wrap (m-x.2.2.1)=m-x.2.2.1:=IntWalk.i64_in _ (by omega);rcases hk with e | e
 ·rw[if_pos e] at h3;simp only[rB,qbg,w,Bool.and_eq_true,decide_eq_true_eq] at h3;omega
 ·rw[if_neg (by omega),if_pos e] at h3;simp only[rB,qbg,w,Bool.and_eq_true,decide_eq_true_eq] at h3;omega
theorem qjd:∀ (a b:List OpT),symF (a++b)=symF a++symF b
 | [],b=>rfl
 | x::a,b=>by rw[List.cons_append,symF,symF,qjd a b,List.append_assoc]
def q0h:List OpT->Int
 | []=>0
 | x::l=>cN x.1.toNat x+q0h l
def seg (l:List SyT) (a i:Nat):Prop:=∀ j,a<=j->j+1<i->goB (gtY l j) (gtY l (j+1))=true
theorem qpd {m:Int} {s:SyT} (h:sOK m s=true) (ho:s.1=true):0<=s.2.1/\s.2.1<m:=by
 unfold sOK at h;rw[if_pos ho] at h;simpa using h
theorem q8r {m:Int} {s:SyT} (h:sOK m s=true) (ho:s.1=false):s.2.1=0:=by
 unfold sOK at h;rw[if_neg (by rw[ho];decide)] at h;simpa using h
section
variable {l:List SyT} {m:Int} (hr:∀ s∈l,sOK m s=true) (hm:m<16777216)
include hr hm
end
def q9o:Ctr:=⟨[.sl syS],fun x=>List.length x.1=0,fun x=>[.sl opS (opsL x.1)],fun _=>[]⟩
def ctOpsA:Ctr:=⟨[.sl syS],fun x=>List.length x.1<16777216,fun x=>[.sl opS (opsL x.1)],fun _=>[]⟩
set_option maxRecDepth 100000
theorem qxt (k f n b m:Int) (d:List Int) (Q:QT) (R:RT):sy tt G0 [(46,.inl ctIn)] Tryd.f69.ntmps Tryd.f69.results.toList Q R 1000 [.code (qae Tryd.f69)] (entry [opS,iI] ((k,f,n,b,d),m,())) =
  (ctIn.pre (n,(1:Int),(65536:Int),()) /\
 bc (!(decide ((1:Int)<=n)&&decide (n<=65536))) (Q [.bool false] [(2,.var [.int .i64 k,.int .i64 f,.int .i64 n,.int .u8 b,.sl uB d])]) (ctIn.pre (f,(0:Int),IntKind.i64.wrap (m-n),()) /\
 bc (decide (k=(1:Int))) (bc (decide ((0:Int)<=f)&&decide (f<=IntKind.i64.wrap (m-n))) (bc (decide (b=(0:Int))) (Q [.bool (decide ((d.length:Int)=(0:Int)))] [(2,.var [.int .i64 k,.int .i64 f,.int .i64 n,.int .u8 b,.sl uB d])]) (false=false /\
 Q [.bool false] [(2,.var [.int .i64 k,.int .i64 f,.int .i64 n,.int .u8 b,.sl uB d])])) (false=false /\
 false=false /\
 Q [.bool false] [(2,.var [.int .i64 k,.int .i64 f,.int .i64 n,.int .u8 b,.sl uB d])])) (bc (decide (k=(2:Int))) (bc (decide ((0:Int)<=f)&&decide (f<=IntKind.i64.wrap (m-n))) (bc (decide (b=(0:Int))) (Q [.bool (decide ((d.length:Int)=n))] [(2,.var [.int .i64 k,.int .i64 f,.int .i64 n,.int .u8 b,.sl uB d])]) (false=false /\
 Q [.bool false] [(2,.var [.int .i64 k,.int .i64 f,.int .i64 n,.int .u8 b,.sl uB d])])) (false=false /\
 false=false /\
 Q [.bool false] [(2,.var [.int .i64 k,.int .i64 f,.int .i64 n,.int .u8 b,.sl uB d])])) (bc (decide (k=(3:Int))) (bc (decide (f=(0:Int))) (Q [.bool (decide ((d.length:Int)=(0:Int)))] [(2,.var [.int .i64 k,.int .i64 f,.int .i64 n,.int .u8 b,.sl uB d])]) (false=false /\
 Q [.bool false] [(2,.var [.int .i64 k,.int .i64 f,.int .i64 n,.int .u8 b,.sl uB d])])) (bc (decide (k=(4:Int))) (bc (decide (f=(0:Int))) (bc (decide (b=(0:Int))) (Q [.bool (decide ((d.length:Int)=n))] [(2,.var [.int .i64 k,.int .i64 f,.int .i64 n,.int .u8 b,.sl uB d])]) (false=false /\
 Q [.bool false] [(2,.var [.int .i64 k,.int .i64 f,.int .i64 n,.int .u8 b,.sl uB d])])) (false=false /\
 false=false /\
 Q [.bool false] [(2,.var [.int .i64 k,.int .i64 f,.int .i64 n,.int .u8 b,.sl uB d])])) (Q [.bool false] [(2,.var [.int .i64 k,.int .i64 f,.int .i64 n,.int .u8 b,.sl uB d])])))))):=by kernel_rfl
theorem q7l (l:List SyT) (m:Int) (Q:QT) (R:RT):sy tt G0 ((68,.inl ctOpsA)::(67,.inl ctAre)::C1) Tryd.f58.ntmps Tryd.f58.results.toList Q R 1000 [.code (qae Tryd.f58)] (entry [.sl syS,iI] (l,m,())) =
  (ctSize.pre (m,()) /\
 bc (!(decide ((0:iI.D)<=m)&&decide (m<=(65536:iI.D)))) (true=true /\
 true=true /\
 Q [.agg [.bool false,.int .i64 0,.int .i64 0,.nils],.int .i64 60] [(4,.var [.bool false,.int .i64 0,.int .i64 0,.nils])]) (ctSize.pre ((l.length:Int),()) /\
 bc (bif false then true else !(decide ((0:iI.D)<=(l.length:Int))&&decide ((l.length:Int)<=(65536:iI.D)))) (true=true /\
 Q [.agg [.bool false,.int .i64 0,.int .i64 0,.nils],.int .i64 60] [(4,.var [.bool false,.int .i64 0,.int .i64 0,.nils])]) (ctAre.pre (l,m,()) /\
 bc (bif false then true else !l.all (sOK m)) (Q [.agg [.bool false,.int .i64 0,.int .i64 0,.nils],.int .i64 60] [(4,.var [.bool false,.int .i64 0,.int .i64 0,.nils])]) (ctOpsA.pre (l,()) /\
 bc (decide ((4096:Int)<(↑(opsL l).length:Int))) (Q [.agg [.bool false,.int .i64 0,.int .i64 0,.nils],.int .i64 2] [(4,.var [.bool false,.int .i64 0,.int .i64 0,.nils])]) (Q [.agg [.bool false,.int .i64 m,.int .i64 (l.length:Int),.sl opS (opsL l)],.int .i64 0] [(4,.var [.bool false,.int .i64 m,.int .i64 (l.length:Int),.sl opS (opsL l)])]))))):=by kernel_rfl
def ctRop:Ctr:=⟨[opS,iI],fun _=>True,fun x=>[.bool (isRB x.1 x.2.1)],fun _=>[]⟩
theorem q4w (k f n b m:Int) (d:List Int):sy tt G0 [(46,.inl ctIn)] Tryd.f69.ntmps Tryd.f69.results.toList (QC ctRop ((k,f,n,b,d),m,())) (Px.Good Tryd.prog tt G0 69 Tryd.f69.ntmps Tryd.f69.results.toList (QC ctRop ((k,f,n,b,d),m,()))) 1000 [.code (qae Tryd.f69)] (entry [opS,iI] ((k,f,n,b,d),m,())):=by
 have fin:∀ (v:Bool) (blk:List (Nat × LB)),isRB (k,f,n,b,d) m=v->QC ctRop ((k,f,n,b,d),m,()) [SV.bool v] blk:=fun v blk h=>QC.flat (by show [SV.bool (isRB _ _)]=_;rw[h]) rfl rfl
 refine (qxt k f n b m d _ _).mpr ⟨trivial,qaf (fun h=>?_) (fun h=>?_)⟩
 ·have h:(!(decide (1<=n)&&decide (n<=65536)))=true:=h;refine fin _ _ ?_
  show (decide (1<=n)&&(decide (n<=65536)&&kR _ m))=false
  rw[Bool.not_eq_true'] at h;rw[<- Bool.and_assoc,h];rfl
 ·have h:(!(decide (1<=n)&&decide (n<=65536)))=false:=h;rw[Bool.not_eq_false'] at h;have hk:isRB (k,f,n,b,d) m=kR (k,f,n,b,d) m:=by
   show (decide (1<=n)&&(decide (n<=65536)&&kR _ m))=_
   rw[<- Bool.and_assoc,h,Bool.true_and]
  refine ⟨trivial,qaf (fun h1=>?_) (fun h1=>qaf (fun h2=>?_) (fun h2=>qaf (fun h3=>?_) (fun h3=>qaf (fun h4=>?_) (fun h4=>?_))))⟩
  ·have h1:k=1:=of_decide_eq_true h1;have e:kR (k,f,n,b,d) m=(qbg f n m&&(decide (b=0)&&decide ((d.length:Int)=0))):=by subst h1;rfl
   rw[e] at hk;refine qaf (fun a=>qaf (fun c=>?_) (fun c=>⟨rfl,?_⟩)) (fun a=>⟨rfl,rfl,?_⟩)
   ·exact fin _ _ (by rw[hk,show qbg f n m=true from a,c];rfl)
   ·exact fin _ _ (by rw[hk,show qbg f n m=true from a,c];rfl)
   ·exact fin _ _ (by rw[hk,show qbg f n m=false from a];rfl)
  ·have h2:k=2:=of_decide_eq_true h2;have e:kR (k,f,n,b,d) m=(qbg f n m&&(decide (b=0)&&decide ((d.length:Int)=n))):=by subst h2;rfl
   rw[e] at hk;refine qaf (fun a=>qaf (fun c=>?_) (fun c=>⟨rfl,?_⟩)) (fun a=>⟨rfl,rfl,?_⟩)
   ·exact fin _ _ (by rw[hk,show qbg f n m=true from a,c];rfl)
   ·exact fin _ _ (by rw[hk,show qbg f n m=true from a,c];rfl)
   ·exact fin _ _ (by rw[hk,show qbg f n m=false from a];rfl)
  ·have h3:k=3:=of_decide_eq_true h3;have e:kR (k,f,n,b,d) m=(decide (f=0)&&decide ((d.length:Int)=0)):=by subst h3;rfl
   rw[e] at hk;refine qaf (fun a=>?_) (fun a=>⟨rfl,?_⟩)
   ·exact fin _ _ (by rw[hk,a];rfl)
   ·exact fin _ _ (by rw[hk,a];rfl)
  ·have h4:k=4:=of_decide_eq_true h4;have e:kR (k,f,n,b,d) m=(decide (f=0)&&(decide (b=0)&&decide ((d.length:Int)=n))):=by subst h4;rfl
   rw[e] at hk;refine qaf (fun a=>qaf (fun c=>?_) (fun c=>⟨rfl,?_⟩)) (fun a=>⟨rfl,rfl,?_⟩)
   ·exact fin _ _ (by rw[hk,a,c];rfl)
   ·exact fin _ _ (by rw[hk,a,c];rfl)
   ·exact fin _ _ (by rw[hk,a];rfl)
  ·have h1:¬ k=1:=of_decide_eq_false h1;have h2:¬ k=2:=of_decide_eq_false h2;have h3:¬ k=3:=of_decide_eq_false h3;have h4:¬ k=4:=of_decide_eq_false h4;refine fin _ _ ?_;rw[hk]
   show (if k=1 then _ else if k=2 then _ else if k=3 then _ else if k=4 then _ else false)=false
   rw[if_neg h1,if_neg h2,if_neg h3,if_neg h4]
theorem qyn:Held Tryd.prog G0 69 ctRop:=
 Held.run (cx0.cons qm7 (fn:=Tryd.f46) rfl rfl rfl) (fn:=Tryd.f69) rfl rfl ⟨by decide,by decide⟩ fun ⟨⟨k,f,n,b,d⟩,m,_⟩ _=>q4w k f n b m d
theorem qvu:Held Tryd.prog G0 68 q9o:=by
 refine Held.run dxO (fn:=Tryd.f68) rfl rfl ⟨by decide,by decide⟩ ?_;rintro ⟨l,⟨⟩⟩ hp;replace hp:l.length=0:=hp;have e:l=[]:=List.eq_nil_of_length_eq_zero hp;subst e;refine (q1l [] _ _).mpr ?_;refine Good.only (S':=⟨[(0,.sl syS []),(3,.nils),(4,.int .i64 ((0:Nat):Int)),(5,.int .i64 ((1:Nat):Int))],[]⟩) (qaj dxO _ _ _ ((qt6 [] 0 1 _ _).mpr ?_)) ⟨rfl,rfl,rfl,rfl,trivial⟩ trivial;rw[decide_eq_false (by decide),bc_f];exact QC.mt ⟨_,_,rfl,.inr ⟨rfl,rfl⟩,rfl⟩ rfl
theorem qvt:Held Tryd.prog G0 68 ctOpsA:=fun x hp=>by
 by_cases h:List.length x.1=0
 ·exact qvu x h
 ·exact qy4 x ⟨Nat.pos_of_ne_zero h,hp⟩
def ctOfA:Ctr:=⟨[.sl syS,iI],fun x=>List.length x.1<16777216,fun x=>[paV (ofV x.1 x.2.1).1,.int .i64 (ofV x.1 x.2.1).2],fun _=>[]⟩
theorem qy9:Held Tryd.prog G0 58 ctOfA:=by
 refine Held.run ((cx1.cons q0u (fn:=Tryd.f67) rfl rfl rfl).cons qvt (fn:=Tryd.f68) rfl rfl rfl) (fn:=Tryd.f58) rfl rfl ⟨by decide,by decide⟩ ?_;rintro ⟨l,m,⟨⟩⟩ hp;replace hp:l.length<16777216:=hp;have bad:¬ (szB m=true/\szB l.length=true/\l.all (sOK m)=true)->ofV l m=((false,0,0,[]),60):=fun q=>if_neg q
 refine (q7l l m _ _).mpr ⟨trivial,qaf (fun h=>⟨rfl,rfl,?_⟩) (fun h=>⟨trivial,qaf (fun h2=>⟨rfl,?_⟩) (fun h2=>⟨(show l.length<1099511627776 by omega),qaf (fun h3=>?_) (fun h3=>⟨hp,qaf (fun h4=>?_) (fun h4=>?_)⟩)⟩)⟩)⟩
 ·have h:(!szB m)=true:=h;have hv:=bad fun q=>by rw[q.1] at h;cases h
  exact QC.mt (by show MtL _ [paV (ofV l m).1,.int .i64 (ofV l m).2] _;rw[hv];exact ⟨_,_,rfl,⟨_,rfl,_,_,rfl,rfl,_,_,rfl,rfl,_,_,rfl,rfl,_,_,rfl,.inr ⟨rfl,rfl⟩,rfl⟩,_,_,rfl,rfl,rfl⟩) rfl
 ·have h2:(!szB l.length)=true:=h2;have hv:=bad fun q=>by rw[q.2.1] at h2;cases h2
  exact QC.mt (by show MtL _ [paV (ofV l m).1,.int .i64 (ofV l m).2] _;rw[hv];exact ⟨_,_,rfl,⟨_,rfl,_,_,rfl,rfl,_,_,rfl,rfl,_,_,rfl,rfl,_,_,rfl,.inr ⟨rfl,rfl⟩,rfl⟩,_,_,rfl,rfl,rfl⟩) rfl
 ·have h3:(!l.all (sOK m))=true:=h3;have hv:=bad fun q=>by rw[q.2.2] at h3;cases h3
  exact QC.mt (by show MtL _ [paV (ofV l m).1,.int .i64 (ofV l m).2] _;rw[hv];exact ⟨_,_,rfl,⟨_,rfl,_,_,rfl,rfl,_,_,rfl,rfl,_,_,rfl,rfl,_,_,rfl,.inr ⟨rfl,rfl⟩,rfl⟩,_,_,rfl,rfl,rfl⟩) rfl
 all_goals
  have h:(!szB m)=false:=h;have h2:(!szB l.length)=false:=h2;have h3:(!l.all (sOK m))=false:=h3;have hg:szB m=true/\szB l.length=true/\l.all (sOK m)=true:=⟨by simpa using h,by simpa using h2,by simpa using h3⟩
 ·have h4:(4096:Int)<((opsL l).length:Int):=of_decide_eq_true h4;have hv:ofV l m=((false,0,0,[]),2):=by unfold ofV;rw[if_pos hg,if_pos (by omega)]
  exact QC.mt (by show MtL _ [paV (ofV l m).1,.int .i64 (ofV l m).2] _;rw[hv];exact ⟨_,_,rfl,⟨_,rfl,_,_,rfl,rfl,_,_,rfl,rfl,_,_,rfl,rfl,_,_,rfl,.inr ⟨rfl,rfl⟩,rfl⟩,_,_,rfl,rfl,rfl⟩) rfl
 ·have h4:¬ (4096:Int)<((opsL l).length:Int):=of_decide_eq_false h4;have hv:ofV l m=(((false,m,(l.length:Int),opsL l):PaT),(0:Int)):=by unfold ofV;rw[if_pos hg,if_neg (by omega)]
  exact QC.flat (by show [paV (ofV l m).1,.int .i64 (ofV l m).2]=_;rw[hv];rfl) rfl rfl
def CRc:CV:=[(69,.inl ctRop),(46,.inl ctIn)]
theorem cxRc:CxOK Tryd.prog tt G0 CRc:=(cx0.cons qm7 (fn:=Tryd.f46) rfl rfl rfl).cons qyn (fn:=Tryd.f69) rfl rfl rfl
set_option maxRecDepth 100000
theorem q3d (li:Bool) (m o:Int) (l:List OpT) (Q:QT) (R:RT):sy tt G0 CRc Tryd.f59.ntmps Tryd.f59.results.toList Q (fun it S=>R it (qa4 [1,4,5] [1] S)) 1000 [.code (qae Tryd.f59)] (entry [paS] ((li,m,o,l),())) =
  (ctIn.pre (m,(0:Int),(65536:Int),()) /\
 bc (!(decide ((0:Int)<=m)&&decide (m<=65536))) (true=true /\
 true=true /\
 Q [.int .i64 (-1:Int),.int .i64 60] [(1,.var [.bool li,.int .i64 m,.int .i64 o,.sl opS l])]) (ctIn.pre (o,(0:Int),(65536:Int),()) /\
 bc (bif false then true else !(decide ((0:Int)<=o)&&decide (o<=65536))) (true=true /\
 Q [.int .i64 (-1:Int),.int .i64 60] [(1,.var [.bool li,.int .i64 m,.int .i64 o,.sl opS l])]) (bc (bif false then true else decide ((4096:Int)<(l.length:Int))) (Q [.int .i64 (-1:Int),.int .i64 60] [(1,.var [.bool li,.int .i64 m,.int .i64 o,.sl opS l])]) (R (hd Tryd.f59 0) { env:=[(1,.ptr 1 0),(4,.int .i64 0),(5,.int .i64 0)],blk:=[(1,.var [.bool li,.int .i64 m,.int .i64 o,.sl opS l])] })))):=by kernel_rfl
theorem qqn (li:Bool) (m o s:Int) (l:List OpT) (i:Nat) (Q:QT) (R:RT):sy tt G0 CRc Tryd.f59.ntmps Tryd.f59.results.toList Q (fun it S=>R it (qa4 [1,4,5] [1] S)) 1000 (hd Tryd.f59 0) ⟨[(1,.ptr 1 0),(4,.int .i64 s),(5,.int .i64 (i:Nat))],[(1,.var [.bool li,.int .i64 m,.int .i64 o,.sl opS l])]⟩ =
  (bc (decide ((i:Int)<(l.length:Int))) ((0:Int)<=(i:Int) /\
 (i:Int)<(l.length:Int) /\
 ctRop.pre ((gtO l (i:Int).toNat),m,()) /\
 bc (!isRB (gtO l (i:Int).toNat) m) (true=true /\
 Q [.int .i64 (i:Int),.int .i64 60] [(1,.var [.bool li,.int .i64 m,.int .i64 o,.sl opS l])]) ((0:Int)<=(i:Int) /\
 (i:Int)<(l.length:Int) /\
 bc (bif false then true else decide (o<IntKind.i64.wrap (s+(gtO l (i:Int).toNat).2.2.1))) (Q [.int .i64 (i:Int),.int .i64 60] [(1,.var [.bool li,.int .i64 m,.int .i64 o,.sl opS l])]) ((0:Int)<=(i:Int) /\
 (i:Int)<(l.length:Int) /\
 R (hd Tryd.f59 0) { env:=[(1,.ptr 1 0),(4,.int .i64 (IntKind.i64.wrap (s+(gtO l (i:Int).toNat).2.2.1))),(5,.int .i64 (IntKind.i64.wrap ((i:Int)+1)))],blk:=[(1,.var [.bool li,.int .i64 m,.int .i64 o,.sl opS l])] }))) (bc (decide (s≠o)) (Q [.int .i64 (l.length:Int),.int .i64 60] [(1,.var [.bool li,.int .i64 m,.int .i64 o,.sl opS l])]) (Q [.int .i64 (l.length:Int),.int .i64 0] [(1,.var [.bool li,.int .i64 m,.int .i64 o,.sl opS l])]))):=by kernel_rfl
theorem qxu (li:Bool) (m o:Int) (l:List OpT) (Q:QT) (R:RT):sy tt G0 [(59,.inl ctChk)] Tryd.f37.ntmps Tryd.f37.results.toList Q R 1000 [.code (qae Tryd.f37)] (entry [paS] ((li,m,o,l),())) =
  (ctChk.pre ((li,m,o,l),()) /\
 Q [.bool (decide ((chkV (li,m,o,l)).2=(0:Int)))] [(1,.var [.bool li,.int .i64 m,.int .i64 o,.sl opS l])]):=by kernel_rfl
abbrev ChQ (a b:Int):List SV->List (Nat × LB)->Prop:=fun rs _=>rs=[.int .i64 a,.int .i64 b]
theorem qvf (li:Bool) (m o:Int) (l:List OpT) (ho:0<=o/\o<=65536) (hl:l.length<=4096):∀ (k i:Nat) (s:Int),l.length-i=k->i<=l.length->0<=s->s<=o ->
  GD 59 Tryd.f59 (ChQ (chkF m l.length (l.drop i) (o-s) i).1 (chkF m l.length (l.drop i) (o-s) i).2) (hd Tryd.f59 0) ⟨[(1,.ptr 1 0),(4,.int .i64 s),(5,.int .i64 (i:Nat))],[(1,.var [.bool li,.int .i64 m,.int .i64 o,.sl opS l])]⟩:=by
 intro k
 induction k with
 | zero=>
  intro i s hk hi h0 hs;have hi:i=l.length:=by omega
  subst hi;refine qak cxRc (qqn li m o s l _ _ _) ?_;rw[decide_eq_false (by omega),bc_f,List.drop_length];simp only[chkF];refine qaf (fun h=>?_) (fun h=>?_)
  ·have h:s≠o:=of_decide_eq_true h;rw[if_pos (by omega)]
  ·have h:¬ s≠o:=of_decide_eq_false h;rw[if_neg (by omega)]
 | succ k ih=>
  intro i s hk hi h0 hs;have hil:i<l.length:=by omega
  refine qak cxRc (qqn li m o s l i _ _) ?_;rw[decide_eq_true (show (i:Int)<(l.length:Int) by omega),bc_t,Int.toNat_natCast,qge hil,IntWalk.i64_in ((i:Int)+1) (by omega),qtg hil];simp only[chkF];refine ⟨by omega,by omega,trivial,qaf (fun h=>⟨trivial,?_⟩) (fun h=>⟨by omega,by omega,?_⟩)⟩
  ·have h:isRB l[i] m=false:=by simpa using h
   rw[if_pos h]
  ·have h:isRB l[i] m=true:=by simpa using h
   have hx:=qds h;have w:IntKind.i64.wrap (s+l[i].2.2.1)=s+l[i].2.2.1:=IntWalk.i64_in _ (by omega);have h2:¬ isRB l[i] m=false:=by rw[h];decide
   rw[w,if_neg h2];refine qaf (fun h3=>?_) (fun h3=>?_)
   ·have h3:o<s+l[i].2.2.1:=of_decide_eq_true h3;rw[if_pos (by omega)]
   ·have h3:¬ o<s+l[i].2.2.1:=of_decide_eq_false h3;have nx:=ih (i+1) (s+l[i].2.2.1) (by omega) (by omega) (by omega) (by omega);have e:o-(s+l[i].2.2.1)=o-s-l[i].2.2.1:=by omega
    rw[e] at nx;rw[if_neg (by omega)];exact ⟨by omega,by omega,nx.only ⟨rfl,rfl,rfl,trivial⟩ ⟨rfl,trivial⟩⟩
theorem qyx (li:Bool) (m o:Int) (l:List OpT):GD 59 Tryd.f59 (ChQ (chkV (li,m,o,l)).1 (chkV (li,m,o,l)).2) [.code (qae Tryd.f59)] (entry [paS] ((li,m,o,l),())):=by
 have bad:¬ (szB m=true/\szB o=true/\l.length<=4096)->chkV (li,m,o,l)=(-1,60):=fun q=>if_neg q
 refine qak cxRc (q3d li m o l _ _) ⟨trivial,qaf (fun h=>⟨rfl,rfl,?_⟩) (fun h=>⟨trivial,qaf (fun h2=>⟨rfl,?_⟩) (fun h2=>qaf (fun h3=>?_) (fun h3=>?_))⟩)⟩
 ·have h:(!szB m)=true:=h;rw[bad fun q=>by rw[q.1] at h;cases h]
 ·have h2:(!szB o)=true:=h2;rw[bad fun q=>by rw[q.2.1] at h2;cases h2]
 ·have h3:(4096:Int)<(l.length:Int):=of_decide_eq_true h3;rw[bad fun q=>by omega]
 ·have h:(!szB m)=false:=h;have h2:(!szB o)=false:=h2;have h3:¬ (4096:Int)<(l.length:Int):=of_decide_eq_false h3;have hg:szB m=true/\szB o=true/\l.length<=4096:=⟨by simpa using h,by simpa using h2,by omega⟩;have ho:0<=o/\o<=65536:=by
   have:=hg.2.1;simpa [szB] using this
  have hv:chkV (li,m,o,l)=chkF m l.length (l.drop 0) (o-0) ((0:Nat):Int):=by
   unfold chkV;rw[if_pos hg,Int.sub_zero];rfl
  rw[hv];exact (qvf li m o l ho hg.2.2 _ 0 0 rfl (by omega) (by omega) ho.1).only ⟨rfl,rfl,rfl,trivial⟩ ⟨rfl,trivial⟩
theorem qvg:Held Tryd.prog G0 59 ctChk:=
 Held.of cxRc (fn:=Tryd.f59) rfl rfl ⟨by decide,by decide⟩ fun ⟨⟨li,m,o,l⟩,_⟩ _=>
  (qyx li m o l).post fun rs blk hq=>QC.flat (by rw[hq];rfl) rfl (by rw[hq];rfl)
def ctRi:Ctr:=⟨[paS],fun _=>True,fun x=>[.bool (decide ((chkV x.1).2=0))],fun _=>[]⟩
theorem qsp:Held Tryd.prog G0 37 ctRi:=
 Held.run (cx0.cons qvg (fn:=Tryd.f59) rfl rfl rfl) (fn:=Tryd.f37) rfl rfl ⟨by decide,by decide⟩ fun ⟨⟨li,m,o,l⟩,_⟩ _=>
  (qxu li m o l _ _).mpr ⟨trivial,QC.flat rfl rfl rfl⟩
abbrev LiT:Type:=Int × Int × Int × Int
def zLi:LiT:=(0,0,0,0)
def canB (k:Int) (s:SyT):Bool:=if k=1 then s.1&&decide (s.2.2=0) else if k=2 then s.1 else !s.1
def goK (k:Int) (s t:SyT):Bool:=if k=1\/k=2 then decide (t.2.1=IntKind.i64.wrap (s.2.1+1)) else if k=3 then decide (t.2.2=s.2.2) else true
def hdC (k:Int):Int:=if k=4 then 2 else 4
def eaC (k:Int):Int:=if k=2\/k=4 then 1 else 0
def betB (a b:LiT):Bool:=
 if a.2.1=0\/b.2.1=0 then decide (0<a.2.1)&&decide (b.2.1=0)
 else if a.2.2.1≠b.2.2.1 then decide (a.2.2.1<b.2.2.1)
 else if a.2.2.2≠b.2.2.2 then decide (a.2.2.2<b.2.2.2)
 else if a.1≠b.1 then decide (a.1<b.1)
 else decide (b.2.1<a.2.1)
def oneF (k:Int) (w:Int × Int):LiT:=(k,1,w.1+hdC k+eaC k,w.2+1)
def qkd (k:Int) (g:LiT):LiT:=(k,g.2.1+1,g.2.2.1+eaC k,g.2.2.2)
def begF (k:Int) (s t:SyT) (w:Int × Int) (g:LiT):LiT:=
 if canB k s=false then zLi
 else if g.2.1=0\/goK k s t=false then oneF k w
 else if betB (oneF k w) (qkd k g)=true then oneF k w else qkd k g
def upd (b g:LiT):LiT:=if betB g b=true then g else b
def q8z (g:Int->LiT):LiT:=upd (upd (upd (upd zLi (g 1)) (g 2)) (g 3)) (g 4)
def tb:List SyT->(Int->LiT) × LiT
 | []=>(fun _=>zLi,zLi)
 | s::r=>(fun k=>begF k s (gtY r 0) (tb r).2.2.2 ((tb r).1 k),q8z fun k=>begF k s (gtY r 0) (tb r).2.2.2 ((tb r).1 k))
def bst (l:List SyT):LiT:=(tb l).2
def beg (l:List SyT) (k:Int):LiT:=(tb l).1 k
theorem qr4 (s:SyT) (r:List SyT) (k:Int):beg (s::r) k=begF k s (gtY r 0) (bst r).2.2 (beg r k):=rfl
theorem q0r (s:SyT) (r:List SyT):bst (s::r)=q8z fun k=>beg (s::r) k:=rfl
def fitN (k:Int):List SyT->Nat
 | []=>0
 | s::r=>if canB k s=true then (if goK k s (gtY r 0)=true then 1+fitN k r else 1) else 0
theorem qfj (k:Int):∀ l,fitN k l<=l.length
 | []=>Nat.le_refl _
 | s::r=>by
  have:=qfj k r;rw[fitN,List.length_cons];split
  ·split <;> omega
  ·omega
def keyT (b:LiT):Int:=((b.2.2.1*4294967296+b.2.2.2)*8+b.1)*1048576-b.2.1
def wB (b:LiT):Int:=b.2.2.1*4294967296+b.2.2.2
def keyL (k:Int) (n:Nat) (l:List SyT):Int:=(((hdC k+eaC k*(n:Int))*4294967296+1+wB (bst (l.drop n)))*8+k)*1048576-(n:Int)
def boL (m:Nat) (b:LiT):Prop:=0<=b.2.2.1/\b.2.2.1<=5*(m:Int)/\0<=b.2.2.2/\b.2.2.2<=(m:Int)
def okB (k:Int) (l:List SyT) (g:LiT):Prop:=
 (fitN k l=0/\g=zLi)\/(g.1=k/\∃ n:Nat,g.2.1=(n:Int)/\1<=n/\n<=fitN k l/\keyT g=keyL k n l/\(∀ m:Nat,1<=m->m<=fitN k l->keyL k n l<=keyL k m l)/\boL l.length g)
abbrev kOK (k:Int):Prop:=1<=k/\k<=4
def okL (l:List SyT) (b:LiT):Prop:=
 (l=[]/\b=zLi)\/(l≠[]/\kOK b.1/\∃ n:Nat,b.2.1=(n:Int)/\1<=n/\n<=fitN b.1 l/\keyT b=keyL b.1 n l/\(∀ k,kOK k->∀ m:Nat,1<=m->m<=fitN k l->keyL b.1 n l<=keyL k m l)/\boL l.length b)
theorem qr3 {a b:LiT} (ha:kOK a.1) (hb:kOK b.1) (a1:1<=a.2.1/\a.2.1<1048576) (b1:1<=b.2.1/\b.2.1<1048576) (a2:0<=a.2.2.2/\a.2.2.2<4294967296) (b2:0<=b.2.2.2/\b.2.2.2<4294967296) :
  (betB a b=true↔keyT a<keyT b):=by
 obtain ⟨k,n,c,o⟩:=a;obtain ⟨k',n',c',o'⟩:=b;simp only[kOK] at *;unfold betB keyT;simp only;rw[if_neg (by omega)];by_cases h1:c=c'
 ·rw[if_neg (by simpa using h1)];by_cases h2:o=o'
  ·rw[if_neg (by simpa using h2)];by_cases h3:k=k'
   ·rw[if_neg (by simpa using h3)];simp only[decide_eq_true_eq];omega
   ·rw[if_pos h3];simp only[decide_eq_true_eq];omega
  ·rw[if_pos h2];simp only[decide_eq_true_eq];omega
 ·rw[if_pos h1];simp only[decide_eq_true_eq];omega
theorem q9e (k:Int):2<=hdC k/\hdC k<=4:=by unfold hdC;split <;> omega
theorem q9m (k:Int):0<=eaC k/\eaC k<=1:=by unfold eaC;split <;> omega
theorem qrm (k:Int) (s:SyT) (r:List SyT):keyL k 1 (s::r)=keyT (oneF k (bst r).2.2):=by
 have e:(s::r).drop 1=r:=rfl;unfold keyL keyT oneF wB;rw[e];simp only[Int.mul_one,Int.natCast_one];omega
theorem qkq (k:Int) (s:SyT) (r:List SyT) (n:Nat):keyL k (n+1) (s::r)=keyL k n r+eaC k*36028797018963968-1:=by
 have e:(s::r).drop (n+1)=r.drop n:=rfl;unfold keyL;rw[e,Int.natCast_add,Int.natCast_one,Int.mul_add,Int.mul_one];omega
theorem qwn (k:Int) (g:LiT) (hk:g.1=k):keyT (qkd k g)=keyT g+eaC k*36028797018963968-1:=by
 unfold keyT qkd;simp only[hk];omega
theorem q9x (m:Nat):boL m zLi:=by
 unfold boL zLi;simp only;omega
theorem qy8 {k:Int} (hk:kOK k) {s:SyT} {r:List SyT} (hr:okB k r (beg r k)) (hb:boL r.length (bst r)) (hl:(s::r).length<=65536):okB k (s::r) (beg (s::r) k):=by
 rw[qr4];unfold begF;have hh:=q9e k;have he:=q9m k;have hn:=qfj k r;rw[List.length_cons] at hl;by_cases hc:canB k s=false
 ·rw[if_pos hc];exact .inl ⟨by rw[fitN,if_neg (by rw[hc];decide)],rfl⟩
 ·rw[if_neg hc];have hc:canB k s=true:=by simpa using hc
  have hone:boL (s::r).length (oneF k (bst r).2.2):=by
   unfold boL oneF at *;simp only[List.length_cons];omega
  by_cases hg:(beg r k).2.1=0\/goK k s (gtY r 0)=false
  ·rw[if_pos hg];have hf:fitN k (s::r)=1:=by
    rw[fitN,if_pos hc];split
    ·rename_i h;rcases hg with hg | hg
     ·rcases hr with hr | ⟨_,n,h1,h2,_⟩
      ·rw[hr.1]
      ·omega
     ·rw[hg] at h;cases h
    ·rfl
   refine .inr ⟨rfl,1,rfl,Nat.le_refl _,by omega,(qrm k s r).symm,fun m h1 h2=>?_,hone⟩;have:m=1:=by omega
   rw[this];exact Int.le_refl _
  ·rw[if_neg hg];have hg1:¬ (beg r k).2.1=0:=fun h=>hg (.inl h)
   have hg2:goK k s (gtY r 0)=true:=by
    have:¬ goK k s (gtY r 0)=false:=fun h=>hg (.inr h)
    simpa using this
   rcases hr with hr | ⟨e1,n,h1,h2,h3,h4,h5,h6⟩
   ·rw[hr.2] at hg1;exact absurd rfl hg1
   have hf:fitN k (s::r)=1+fitN k r:=by rw[fitN,if_pos hc,if_pos hg2]
   have hm:keyT (qkd k (beg r k))=keyL k (n+1) (s::r):=by rw[qwn k _ e1,qkq,h4]
   have hmb:boL (s::r).length (qkd k (beg r k)):=by
    unfold boL qkd at *;simp only[List.length_cons];omega
   have ho:=qrm k s r;have hmo:∀ m:Nat,1<=m->m<=fitN k (s::r)->m=1\/keyL k (n+1) (s::r)<=keyL k m (s::r):=fun m m1 m2=>by
    rcases Nat.lt_or_ge 1 m with h | h
    ·obtain ⟨q,hq⟩:∃ q,m=q+1:=⟨m-1,by omega⟩;subst hq;have:=h5 q (by omega) (by omega);rw[qkq,qkq];exact .inr (by omega)
    ·exact .inl (by omega)
   have hkey:=qr3 (a:=oneF k (bst r).2.2) (b:=qkd k (beg r k)) hk hk (show 1<=(1:Int)/\(1:Int)<1048576 by omega) (show 1<=(beg r k).2.1+1/\(beg r k).2.1+1<1048576 by omega) (show 0<=(bst r).2.2.2+1/\(bst r).2.2.2+1<4294967296 by unfold boL at hb;omega) (show 0<=(beg r k).2.2.2/\(beg r k).2.2.2<4294967296 by unfold boL at h6;omega);split
   ·rename_i hbt;have hlt:=hkey.1 hbt;rw[<- ho,hm] at hlt;refine .inr ⟨rfl,1,rfl,Nat.le_refl _,by omega,ho.symm,fun m m1 m2=>?_,hone⟩;rcases hmo m m1 m2 with h | h
    ·rw[h];exact Int.le_refl _
    ·omega
   ·rename_i hbt;have hlt:¬ keyT (oneF k (bst r).2.2)<keyT (qkd k (beg r k)):=fun h=>hbt (hkey.2 h)
    rw[<- ho,hm] at hlt;refine .inr ⟨rfl,n+1,by rw[Int.natCast_add,<- h1];rfl,by omega,by omega,hm,fun m m1 m2=>?_,hmb⟩;rcases hmo m m1 m2 with h | h
    ·rw[h];omega
    ·omega
def okU (m:Int) (l:List SyT) (b:LiT):Prop:=
 (b=zLi/\∀ k,1<=k->k<=m->fitN k l=0)\/(kOK b.1/\b.1<=m/\∃ n:Nat,b.2.1=(n:Int)/\1<=n/\n<=fitN b.1 l/\keyT b=keyL b.1 n l/\(∀ k,1<=k->k<=m->∀ q:Nat,1<=q->q<=fitN k l->keyL b.1 n l<=keyL k q l)/\boL l.length b)
theorem qjh {m:Int} {l:List SyT} {b g:LiT} (hm:0<=m/\m<4) (hl:l.length<=65536) (hb:okU m l b) (hg:okB (m+1) l g):okU (m+1) l (upd b g):=by
 have fle:=fun k=>qfj k l
 unfold upd;rcases hg with ⟨h1,h2⟩ | ⟨e1,n,h1,h2,h3,h4,h5,h6⟩
 ·have hx:betB g b=false:=by
   subst h2;unfold betB zLi;simp
  rw[hx,if_neg (by decide)];rcases hb with ⟨q1,q2⟩ | ⟨q1,q2,q,q3,q4,q5,q6,q7,q8⟩
  ·refine .inl ⟨q1,fun k k1 k2=>?_⟩;rcases Int.lt_or_le k (m+1) with h | h
   ·exact q2 k k1 (by omega)
   ·have:k=m+1:=by omega
    rw[this];exact h1
  ·refine .inr ⟨q1,by omega,q,q3,q4,q5,q6,fun k k1 k2 p p1 p2=>?_,q8⟩;rcases Int.lt_or_le k (m+1) with h | h
   ·exact q7 k k1 (by omega) p p1 p2
   ·have:k=m+1:=by omega
    rw[this,h1] at p2;omega
 ·have gk:kOK g.1:=by rw[e1];unfold kOK;omega
  have f1:=fle (m+1);rcases hb with ⟨q1,q2⟩ | ⟨q1,q2,q,q3,q4,q5,q6,q7,q8⟩
  ·have hx:betB g b=true:=by
    subst q1;unfold betB zLi;rw[if_pos (.inr rfl)];simp;omega
   rw[hx,if_pos rfl];refine .inr ⟨gk,by omega,n,h1,h2,by rw[e1];exact h3,by rw[e1];exact h4,fun k k1 k2 p p1 p2=>?_,h6⟩;rcases Int.lt_or_le k (m+1) with h | h
   ·rw[q2 k k1 (by omega)] at p2;omega
   ·have hk:k=m+1:=by omega
    subst hk;rw[e1];exact h5 p p1 p2
  ·have f2:=fle b.1;have hkey:=qr3 (a:=g) (b:=b) gk q1 (by omega) (by omega) (by unfold boL at h6;omega) (by unfold boL at q8;omega);have e2:keyL g.1 n l=keyL (m+1) n l:=by rw[e1]
   split
   ·rename_i hx;have hlt:=hkey.1 hx;refine .inr ⟨gk,by omega,n,h1,h2,by rw[e1];exact h3,by rw[e1];exact h4,fun k k1 k2 p p1 p2=>?_,h6⟩;rcases Int.lt_or_le k (m+1) with h | h
    ·have:=q7 k k1 (by omega) p p1 p2;omega
    ·have hk:k=m+1:=by omega
     subst hk;rw[e2];exact h5 p p1 p2
   ·rename_i hx;have hlt:¬ keyT g<keyT b:=fun h=>hx (hkey.2 h)
    refine .inr ⟨q1,by omega,q,q3,q4,q5,q6,fun k k1 k2 p p1 p2=>?_,q8⟩;rcases Int.lt_or_le k (m+1) with h | h
    ·exact q7 k k1 (by omega) p p1 p2
    ·have hk:k=m+1:=by omega
     subst hk;have:=h5 p p1 p2;omega
theorem q0a (s:SyT) (r:List SyT):(1:Nat)<=fitN 2 (s::r)\/(1:Nat)<=fitN 4 (s::r):=by
 cases h:s.1
 ·right;rw[fitN,if_pos (by simp[canB,h])];split <;> omega
 ·left;rw[fitN,if_pos (by simp[canB,h])];split <;> omega
theorem qrd:∀ l:List SyT,l.length<=65536->(∀ k,kOK k->okB k l (beg l k))/\okL l (bst l)
 | [],_=>⟨fun k _=>.inl ⟨rfl,rfl⟩,.inl ⟨rfl,rfl⟩⟩
 | s::r,hl=>by
  have hr:=qrd r (by rw[List.length_cons] at hl;omega);have hb:boL r.length (bst r):=by
   rcases hr.2 with h | ⟨_,_,n,_,_,_,_,_,h⟩
   ·rw[h.2];exact q9x _
   ·exact h
  have hg:∀ k,kOK k->okB k (s::r) (beg (s::r) k):=fun k hk=>qy8 hk (hr.1 k hk) hb hl
  refine ⟨hg,?_⟩;have h0:okU 0 (s::r) zLi:=.inl ⟨rfl,fun k k1 k2=>by omega⟩;have h1:=qjh (m:=0) (by omega) hl h0 (hg 1 (by unfold kOK;omega));have h2:=qjh (m:=1) (by omega) hl h1 (hg 2 (by unfold kOK;omega));have h3:=qjh (m:=2) (by omega) hl h2 (hg 3 (by unfold kOK;omega));have h4:=qjh (m:=3) (by omega) hl h3 (hg 4 (by unfold kOK;omega));rw[q0r];rcases h4 with ⟨q1,q2⟩ | ⟨q1,q2,q,q3,q4,q5,q6,q7,q8⟩
  ·exfalso;have a:=q2 2 (by omega) (by omega);have b:=q2 4 (by omega) (by omega);rcases q0a s r with h | h <;> omega
  ·exact .inr ⟨by simp,q1,q,q3,q4,q5,q6,fun k hk p p1 p2=>q7 k hk.1 hk.2 p p1 p2,q8⟩
theorem qr2 (l:List SyT) (hl:l.length<=65536):boL l.length (bst l):=by
 rcases (qrd l hl).2 with h | ⟨_,_,n,_,_,_,_,_,h⟩
 ·rw[h.2];exact q9x _
 ·exact h
abbrev suS:Sh:=.pair iI iI
abbrev liS:Sh:=.pair iI (.pair iI suS)
set_option maxRecDepth 100000
theorem qxy (a:Int) (Q:QT) (R:RT):sy tt G0 [] Tryd.f79.ntmps Tryd.f79.results.toList Q R 1000 [.code (qae Tryd.f79)] (entry [iI] (a,())) =
  (Q [.bool (decide (a≠a))] []):=by kernel_rfl
theorem q33 (k:Int) (s:SyT) (Q:QT) (R:RT):sy tt G0 [] Tryd.f74.ntmps Tryd.f74.results.toList Q R 1000 [.code (qae Tryd.f74)] (entry [iI,syS] (k,s,())) =
  (bc (decide (k=(1:Int))) (bc s.1 (Q [.bool (decide (s.2.2=(0:Int)))] [(3,.var [.bool s.1,.int .i64 s.2.1,.int .u8 s.2.2])]) (false=false /\
 Q [.bool false] [(3,.var [.bool s.1,.int .i64 s.2.1,.int .u8 s.2.2])])) (bc (decide (k=(2:Int))) (Q [.bool s.1] [(3,.var [.bool s.1,.int .i64 s.2.1,.int .u8 s.2.2])]) (Q [.bool !s.1] [(3,.var [.bool s.1,.int .i64 s.2.1,.int .u8 s.2.2])]))):=by kernel_rfl
def qcr (s t:SyT):List (Nat × LB):=[(4,.var [.bool s.1,.int .i64 s.2.1,.int .u8 s.2.2]),(5,.var [.bool t.1,.int .i64 t.2.1,.int .u8 t.2.2])]
theorem q3z (k:Int) (s t:SyT) (Q:QT) (R:RT):sy tt G0 [] Tryd.f75.ntmps Tryd.f75.results.toList Q R 1000 [.code (qae Tryd.f75)] (entry [iI,syS,syS] (k,s,t,())) =
  (bc (decide (k=(1:Int))) (bc (decide (k=(1:Int))) (Q [.bool (decide (t.2.1=IntKind.i64.wrap (s.2.1+1)))] (qcr s t)) (bc (decide (k=(3:Int))) (Q [.bool (decide (t.2.2=s.2.2))] (qcr s t)) (Q [.bool true] (qcr s t)))) (bc (decide (k=(2:Int))) (Q [.bool (decide (t.2.1=IntKind.i64.wrap (s.2.1+1)))] (qcr s t)) (bc (decide (k=(3:Int))) (Q [.bool (decide (t.2.2=s.2.2))] (qcr s t)) (Q [.bool true] (qcr s t))))):=by kernel_rfl
theorem vc_or (x:List Int) (Q:QT) (R:RT):sy tt G0 [] Tryd.f76.ntmps Tryd.f76.results.toList Q R 1000 [.code (qae Tryd.f76)] (entry [.sl iI] (x,())) =
  (R (hd Tryd.f76 0) { env:=[(0,.sl iI x),(2,.int .i64 0),(3,.int .i64 0),(6,.sl iI x),(7,.int .i64 (x.length:Int)),(8,.int .i64 0)],blk:=[] }):=by kernel_rfl
theorem q1k (x:List Int) (i:Nat) (Q:QT) (R:RT):sy tt G0 [] Tryd.f76.ntmps Tryd.f76.results.toList Q R 1000 (hd Tryd.f76 0) ⟨[(3,.int .i64 0),(6,.sl iI x),(7,.int .i64 x.length),(8,.int .i64 (i:Nat))],[]⟩ =
  (bc (decide ((i:Int)<(x.length:Int))) ((0:Int)<=(i:Int) /\
 (i:Int)<(x.length:Int) /\
 bc (decide (gt iI x (i:Int).toNat≠0)) (Q [.int .i64 (gt iI x (i:Int).toNat)] []) (R (hd Tryd.f76 0) { env:=[(3,.int .i64 0),(5,.int .i64 (gt iI x (i:Int).toNat)),(6,.sl iI x),(7,.int .i64 (x.length:Int)),(8,.int .i64 (IntKind.i64.wrap ((i:Int)+1))),(9,.bool (decide ((i:Int)<(x.length:Int)))),(10,.elv iI (gt iI x (i:Int).toNat)),(11,.int .i64 (gt iI x (i:Int).toNat)),(12,.int .i64 (gt iI x (i:Int).toNat)),(13,.int .i64 0),(14,.bool (decide (gt iI x (i:Int).toNat≠0))),(16,.int .i64 (IntKind.i64.wrap ((i:Int)+1)))],blk:=[] })) (Q [.int .i64 0] [])):=by kernel_rfl
def ctNan:Ctr:=⟨[iI],fun _=>True,fun _=>[.bool false],fun _=>[]⟩
theorem qzd:Held Tryd.prog G0 79 ctNan:=Held.run cx0 (fn:=Tryd.f79) rfl rfl ⟨by decide,by decide⟩ fun x _=>by
 refine (qxy x.1 _ _).mpr ?_;rw[decide_eq_false (by simp)];exact QC.flat rfl rfl rfl
def CNan:CV:=[(79,.inl ctNan)]
theorem cxNan:CxOK Tryd.prog tt G0 CNan:=cx0.cons qzd (fn:=Tryd.f79) rfl rfl rfl
def ctCan:Ctr:=⟨[iI,syS],fun _=>True,fun x=>[.bool (canB x.1 x.2.1)],fun _=>[]⟩
theorem q6u (k:Int) (o:Bool) (a b:Int) (R:List Item->PS->Prop):sy tt G0 [] Tryd.f74.ntmps Tryd.f74.results.toList (QC ctCan (k,(o,a,b),())) R 1000 [.code (qae Tryd.f74)] (entry [iI,syS] (k,(o,a,b),())):=by
 refine (q33 k (o,a,b) _ _).mpr ?_;refine qaf (fun h=>?_) (fun h=>qaf (fun h2=>?_) (fun h2=>?_))
 ·have h:=of_decide_eq_true h;subst h;refine qaf (fun h=>?_) (fun h=>⟨rfl,?_⟩)
  ·have h:o=true:=h;subst h;exact QC.flat rfl rfl rfl
  ·have h:o=false:=h;subst h;exact QC.flat rfl rfl rfl
 ·have h2:=of_decide_eq_true h2;subst h2;exact QC.flat rfl rfl rfl
 ·have h:=of_decide_eq_false h;have h2:=of_decide_eq_false h2;refine QC.flat ?_ rfl rfl
  show [SV.bool (canB k (o,a,b))]=_
  unfold canB;rw[if_neg h,if_neg h2]
theorem q0q:Held Tryd.prog G0 74 ctCan:=Held.run cx0 (fn:=Tryd.f74) rfl rfl ⟨by decide,by decide⟩ fun ⟨k,⟨o,a,b⟩,_⟩ _=>q6u k o a b _
def ctGoe:Ctr:=⟨[iI,syS,syS],fun _=>True,fun x=>[.bool (goK x.1 x.2.1 x.2.2.1)],fun _=>[]⟩
theorem q6d (k:Int) (s t:SyT) (R:List Item->PS->Prop):sy tt G0 [] Tryd.f75.ntmps Tryd.f75.results.toList (QC ctGoe (k,s,t,())) R 1000 [.code (qae Tryd.f75)] (entry [iI,syS,syS] (k,s,t,())):=by
 refine (q3z k s t _ _).mpr ?_;have out:∀ b,goK k s t=b->ctGoe.out (k,s,t,())=[SV.bool b]:=fun b e=>congrArg (fun b=>[SV.bool b]) e
 refine qaf (fun h=>?_) (fun h=>qaf (fun h2=>?_) (fun h2=>qaf (fun h3=>?_) (fun h3=>?_)))
 ·have h:=of_decide_eq_true h;subst h;exact QC.flat (out _ rfl) rfl rfl
 ·have h2:=of_decide_eq_true h2;subst h2;exact QC.flat (out _ rfl) rfl rfl
 ·have h3:=of_decide_eq_true h3;subst h3;exact QC.flat (out _ rfl) rfl rfl
 ·have h:=of_decide_eq_false h;have h2:=of_decide_eq_false h2;have h3:=of_decide_eq_false h3;exact QC.flat (out _ (by unfold goK;rw[if_neg (by omega),if_neg h3])) rfl rfl
theorem qz9:Held Tryd.prog G0 75 ctGoe:=Held.run cx0 (fn:=Tryd.f75) rfl rfl ⟨by decide,by decide⟩ fun ⟨k,s,t,_⟩ _=>q6d k s t _
def orF:List Int->Int
 | []=>0
 | a::l=>if a≠0 then a else orF l
def ctOr:Ctr:=⟨[.sl iI],fun x=>List.length x.1<1000000,fun x=>[.int .i64 (orF x.1)],fun _=>[]⟩
theorem q5d (x:List Int) (hl:x.length<1000000):∀ (c i:Nat),x.length-i=c->i<=x.length ->
  GD 76 Tryd.f76 (fun rs _=>rs=[.int .i64 (orF (x.drop i))]) (hd Tryd.f76 0) ⟨[(3,.int .i64 0),(6,.sl iI x),(7,.int .i64 x.length),(8,.int .i64 (i:Nat))],[]⟩:=by
 intro c
 induction c with
 | zero=>
  intro i hc hi;refine qmi cx0 (q1k x i _ _) ?_;rw[decide_eq_false (by omega),bc_f,List.drop_eq_nil_of_le (by omega)];rfl
 | succ c ih=>
  intro i hc hi;have hil:i<x.length:=by omega
  have nx:=ih (i+1) (by omega) (by omega);have e:gt iI x i=x[i]:=gtE (e:=iI) hil;refine qmi cx0 (q1k x i _ _) ?_;rw[decide_eq_true (show (i:Int)<(x.length:Int) by omega),bc_t,Int.toNat_natCast,IntWalk.i64_in ((i:Int)+1) (by omega),e];rw[List.drop_eq_getElem_cons hil];refine ⟨by omega,by omega,qaf (fun h=>?_) (fun h=>?_)⟩
  ·have h:x[i]≠0:=of_decide_eq_true h
   show _=_
   rw[orF,if_pos h]
  ·have h:¬ x[i]≠0:=of_decide_eq_false h;rw[orF,if_neg h];exact nx.only ⟨rfl,rfl,rfl,rfl,trivial⟩ trivial
theorem q5e:Held Tryd.prog G0 76 ctOr:=
 Held.of cx0 (fn:=Tryd.f76) rfl rfl ⟨by decide,by decide⟩ fun ⟨x,_⟩ hp=>
  qmi cx0 (vc_or x _ _) (((q5d x hp _ 0 rfl (by omega)).post fun rs blk hq=>QC.flat (by rw[hq];rfl) rfl (by rw[hq];rfl)).only ⟨rfl,rfl,rfl,rfl,trivial⟩ trivial)
def cmF (a b:Int):Int:=if a<b then -1 else if b<a then 1 else 0
def ctCmp:Ctr:=⟨[iI,iI],fun _=>True,fun x=>[.int .i64 (cmF x.1 x.2.1)],fun _=>[]⟩
set_option maxRecDepth 100000
theorem q73 (a b:Int) (Q:QT) (R:RT):sy tt G0 CNan Tryd.f77.ntmps Tryd.f77.results.toList Q R 1000 [.code (qae Tryd.f77)] (entry [iI,iI] (a,b,())) =
  (ctNan.pre (a,()) /\
 ctNan.pre (b,()) /\
 bc (decide (a<b)) (Q [.int .i64 (-1:Int)] []) (bc (decide (b<a)) (Q [.int .i64 1] []) (Q [.int .i64 0] []))):=by kernel_rfl
def qc6 (a b:LiT):List (Nat × LB):=[(2,.var [.int .i64 a.1,.int .i64 a.2.1,.int .i64 a.2.2.1,.int .i64 a.2.2.2]),(3,.var [.int .i64 b.1,.int .i64 b.2.1,.int .i64 b.2.2.1,.int .i64 b.2.2.2])]
theorem q7x (a b:LiT) (Q:QT) (R:RT):sy tt G0 [(77,.inl ctCmp),(76,.inl ctOr)] Tryd.f71.ntmps Tryd.f71.results.toList Q R 1000 [.code (qae Tryd.f71)] (entry [liS,liS] (a,b,())) =
  (bc (decide (a.2.1=(0:Int))) (true=true /\
 bc (decide ((0:Int)<a.2.1)) (Q [.bool (decide (b.2.1=(0:Int)))] (qc6 a b)) (false=false /\
 Q [.bool false] (qc6 a b))) (bc (bif false then true else decide (b.2.1=(0:Int))) (bc (decide ((0:Int)<a.2.1)) (Q [.bool (decide (b.2.1=(0:Int)))] (qc6 a b)) (false=false /\
 Q [.bool false] (qc6 a b))) (bc (!decide ([a.2.2.1,a.2.2.2]=[b.2.2.1,b.2.2.2])) (ctCmp.pre (a.2.2.1,b.2.2.1,()) /\
 ctCmp.pre (a.2.2.2,b.2.2.2,()) /\
 0+2<=(((List.replicate (2:Nat) iI.dflt).set (0:Nat) (cmF a.2.2.1 b.2.2.1)).set (1:Nat) (cmF a.2.2.2 b.2.2.2)).length /\
 ctOr.pre (winL iI 0 2 (((List.replicate (2:Nat) iI.dflt).set (0:Nat) (cmF a.2.2.1 b.2.2.1)).set (1:Nat) (cmF a.2.2.2 b.2.2.2)),()) /\
 Q [.bool (decide (orF (winL iI 0 2 (((List.replicate (2:Nat) iI.dflt).set (0:Nat) (cmF a.2.2.1 b.2.2.1)).set (1:Nat) (cmF a.2.2.2 b.2.2.2)))<0))] [(2,.var [.int .i64 a.1,.int .i64 a.2.1,.int .i64 a.2.2.1,.int .i64 a.2.2.2]),(3,.var [.int .i64 b.1,.int .i64 b.2.1,.int .i64 b.2.2.1,.int .i64 b.2.2.2]),(42,.row 3 iI (((List.replicate (2:Nat) iI.dflt).set (0:Nat) (cmF a.2.2.1 b.2.2.1)).set (1:Nat) (cmF a.2.2.2 b.2.2.2)))]) (bc (decide (a.1≠b.1)) (Q [.bool (decide (a.1<b.1))] (qc6 a b)) (Q [.bool (decide (b.2.1<a.2.1))] (qc6 a b)))))):=by kernel_rfl
theorem q6n (a b:Int) (R:List Item->PS->Prop):sy tt G0 CNan Tryd.f77.ntmps Tryd.f77.results.toList (QC ctCmp (a,b,())) R 1000 [.code (qae Tryd.f77)] (entry [iI,iI] (a,b,())):=by
 refine (q73 a b _ _).mpr ⟨trivial,trivial,?_⟩;have out:∀ n,cmF a b=n->ctCmp.out (a,b,())=[SV.int .i64 n]:=fun b e=>congrArg (fun b=>[SV.int .i64 b]) e
 refine qaf (fun h=>?_) (fun h=>qaf (fun h2=>?_) (fun h2=>?_))
 ·exact QC.flat (out _ (by unfold cmF;rw[if_pos (of_decide_eq_true h)])) rfl rfl
 ·exact QC.flat (out _ (by unfold cmF;rw[if_neg (of_decide_eq_false h),if_pos (of_decide_eq_true h2)])) rfl rfl
 ·exact QC.flat (out _ (by unfold cmF;rw[if_neg (of_decide_eq_false h),if_neg (of_decide_eq_false h2)])) rfl rfl
theorem q0i:Held Tryd.prog G0 77 ctCmp:=Held.run cxNan (fn:=Tryd.f77) rfl rfl ⟨by decide,by decide⟩ fun ⟨a,b,_⟩ _=>q6n a b _
def ctBet:Ctr:=⟨[liS,liS],fun _=>True,fun x=>[.bool (betB x.1 x.2.1)],fun _=>[]⟩
theorem q9n:CxOK Tryd.prog tt G0 [(77,.inl ctCmp),(76,.inl ctOr)]:=(cx0.cons q5e (fn:=Tryd.f76) rfl rfl rfl).cons q0i (fn:=Tryd.f77) rfl rfl rfl
theorem q57 (k n c o k' n' c' o':Int) (R:List Item->PS->Prop):sy tt G0 [(77,.inl ctCmp),(76,.inl ctOr)] Tryd.f71.ntmps Tryd.f71.results.toList (QC ctBet ((k,n,c,o),(k',n',c',o'),())) R 1000 [.code (qae Tryd.f71)] (entry [liS,liS] ((k,n,c,o),(k',n',c',o'),())):=by
 refine (q7x (k,n,c,o) (k',n',c',o') _ _).mpr ?_;have out:∀ b,betB (k,n,c,o) (k',n',c',o')=b->ctBet.out ((k,n,c,o),(k',n',c',o'),())=[SV.bool b]:=fun b e=>congrArg (fun b=>[SV.bool b]) e
 refine qaf (fun h=>⟨rfl,?_⟩) (fun h=>qaf (fun h2=>?_) (fun h2=>?_))
 ·have h:n=0:=of_decide_eq_true h;refine qaf (fun h2=>?_) (fun h2=>⟨rfl,?_⟩)
  ·have h2:0<n:=of_decide_eq_true h2;exact QC.flat (out _ (by unfold betB;rw[if_pos (.inl h)];simp[h2])) rfl rfl
  ·have h2:¬ 0<n:=of_decide_eq_false h2;exact QC.flat (out _ (by unfold betB;rw[if_pos (.inl h)];simp[h2])) rfl rfl
 ·have h2:decide (n'=0)=true:=h2;have h2:n'=0:=of_decide_eq_true h2;refine qaf (fun h3=>?_) (fun h3=>⟨rfl,?_⟩)
  ·have h3:0<n:=of_decide_eq_true h3;exact QC.flat (out _ (by unfold betB;rw[if_pos (.inr h2)];simp[h3])) rfl rfl
  ·have h3:¬ 0<n:=of_decide_eq_false h3;exact QC.flat (out _ (by unfold betB;rw[if_pos (.inr h2)];simp[h3])) rfl rfl
 ·have h:¬ n=0:=of_decide_eq_false h;have h2:decide (n'=0)=false:=h2;have h2:¬ n'=0:=of_decide_eq_false h2;have hz:¬ (n=0\/n'=0):=by omega
  refine qaf (fun h3=>⟨trivial,trivial,Nat.le_refl 2,(show (2:Nat)<1000000 by decide),?_⟩) (fun h3=>qaf (fun h4=>?_) (fun h4=>?_))
  ·have h3:¬ (c=c'/\o=o'):=by
    intro e;rw[e.1,e.2] at h3;simp at h3
   have ev:orF (winL iI 0 2 (((List.replicate 2 iI.dflt).set 0 (cmF c c')).set 1 (cmF o o')))=orF [cmF c c',cmF o o']:=rfl;refine QC.flat (out _ ?_) rfl rfl
   show betB (k,n,c,o) (k',n',c',o')=decide (orF (winL iI 0 2 (((List.replicate 2 iI.dflt).set 0 (cmF c c')).set 1 (cmF o o')))<0)
   rw[ev];unfold betB;simp only[if_neg hz];by_cases hc:c=c'
   ·have ho:o≠o':=fun e=>h3 ⟨hc,e⟩
    rw[if_neg (by simpa using hc),if_pos ho];refine decide_eq_decide.2 ?_;have e1:cmF c c'=0:=by unfold cmF;rw[if_neg (by omega),if_neg (by omega)]
    rw[orF,if_neg (by simpa using e1)];unfold cmF;simp only[orF];split
    ·simp;omega
    ·split
     ·simp;omega
     ·omega
   ·rw[if_pos hc];refine decide_eq_decide.2 ?_;unfold cmF;simp only[orF];split
    ·simp;omega
    ·split
     ·simp;omega
     ·omega
  ·have h3:c=c'/\o=o':=by simpa using h3
   have h4:k≠k':=of_decide_eq_true h4;exact QC.flat (out _ (by unfold betB;simp only[if_neg hz];rw[if_neg (by simpa using h3.1),if_neg (by simpa using h3.2),if_pos h4])) rfl rfl
  ·have h3:c=c'/\o=o':=by simpa using h3
   have h4:¬ k≠k':=of_decide_eq_false h4;exact QC.flat (out _ (by unfold betB;simp only[if_neg hz];rw[if_neg (by simpa using h3.1),if_neg (by simpa using h3.2),if_neg h4])) rfl rfl
theorem qro:Held Tryd.prog G0 71 ctBet:=Held.run q9n (fn:=Tryd.f71) rfl rfl ⟨by decide,by decide⟩ fun ⟨⟨k,n,c,o⟩,⟨k',n',c',o'⟩,_⟩ _=>q57 k n c o k' n' c' o' _
def mdK (k:Int) (l:List SyT):OpT:=(k,(gtY l 0).2.1,(l.length:Int),if k=3 then (gtY l 0).2.2 else 0,if k=2\/k=4 then l.map fun s=>s.2.2 else [])
def isK (k:Int) (l:List SyT) (n:Nat):Prop:=∀ j,j<n->canB k (gtY l j)=true/\(k=1\/k=2->(gtY l j).2.1=(gtY l 0).2.1+j)/\(k=3->(gtY l j).2.2=(gtY l 0).2.2)
theorem qhq {k:Int} {s:SyT} (hk:k=1\/k=2) (h:canB k s=true):s.1=true:=by
 unfold canB at h;rcases hk with e | e
 ·subst e;rw[if_pos rfl] at h;simp at h;exact h.1
 ·subst e;rw[if_neg (by decide),if_pos rfl] at h;exact h
theorem q9f (s:SyT) (r:List SyT) (j:Nat):gtY (s::r) (j+1)=gtY r j:=by
 simp[gt]
theorem qp2 (s:SyT) (r:List SyT):gtY (s::r) 0=s:=by
 simp[gt]
section
variable {m:Int} (hm:m<16777216)
include hm
theorem q2k {k:Int}:∀ {l:List SyT},(∀ s∈l,sOK m s=true)->isK k l (fitN k l)
 | [],_=>fun j h=>by rw[fitN] at h;omega
 | s::r,hr=>by
  have ih:=q2k (k:=k) (l:=r) fun x hx=>hr x (by simp[hx])
  have hs:=hr s (by simp);intro j hj;rw[fitN] at hj;by_cases hc:canB k s=true
  ·rw[if_pos hc] at hj;rcases j with _ | j
   ·rw[qp2];exact ⟨hc,fun _=>by simp,fun _=>rfl⟩
   ·rw[q9f,qp2];by_cases hg:goK k s (gtY r 0)=true
    ·rw[if_pos hg] at hj;obtain ⟨h1,h2,h3⟩:=ih j (by omega);refine ⟨h1,fun hk=>?_,fun hk=>?_⟩
     ·have b:=qpd hs (qhq hk hc);unfold goK at hg;rw[if_pos hk,decide_eq_true_eq,IntWalk.i64_in _ (by omega)] at hg;rw[h2 hk,hg];omega
     ·unfold goK at hg;rw[if_neg (by omega),if_pos hk,decide_eq_true_eq] at hg;rw[h3 hk,hg]
    ·rw[if_neg hg] at hj;omega
  ·rw[if_neg hc] at hj;omega
theorem qpv {k:Int} {l:List SyT} (hk:kOK k) (hr:∀ s∈l,sOK m s=true) (hi:isK k l l.length):qay k.toNat (mdK k l)=l:=by
 have key:∀ (el:Nat->SyT),(∀ j,j<l.length->el j=gtY l j)->gen el l.length 0=l:=fun el h=>by
  refine List.ext_getElem? fun j=>?_
  by_cases hj:j<l.length
  ·rw[qp3 _ _ _ _ (by omega),Nat.zero_add,h j hj,List.getElem?_eq_getElem (by omega),<- qbn (by omega)]
  ·rw[List.getElem?_eq_none (by rw[qkr];omega),List.getElem?_eq_none (by omega)]
 have dat:∀ j,j<l.length->gtB (l.map fun s=>s.2.2) j=(gtY l j).2.2:=fun j hj=>by
  rw[q2i (by rw[List.length_map];omega),List.getElem_map,<- qbn (by omega)]
 have ext3:∀ (s:SyT) (x:Bool) (y z:Int),s.1=x->s.2.1=y->s.2.2=z->(x,y,z)=s:=fun s x y z h1 h2 h3=>by subst h1;subst h2;subst h3;rfl
 have ok:∀ j,j<l.length->sOK m (gtY l j)=true:=fun j hj=>by rw[qbn hj];exact hr _ (List.getElem_mem hj)
 have at':k=1\/k=2->∀ j,j<l.length->(gtY l j).1=true/\IntKind.i64.wrap ((gtY l 0).2.1+(j:Int))=(gtY l j).2.1:=fun hk j hj=>by
  have h:=hi j hj;have o:=qhq hk h.1;have b:=qpd (ok j hj) o;have e:=h.2.1 hk;have h0:=hi 0 (by omega);have b0:=qpd (ok 0 (by omega)) (qhq hk h0.1);exact ⟨o,by rw[IntWalk.i64_in _ (by omega),e]⟩
 have lit:¬ (k=1\/k=2)->∀ j,j<l.length->(gtY l j).1=false/\(gtY l j).2.1=0:=fun hk j hj=>by
  have h:=(hi j hj).1;unfold canB at h;rw[if_neg (by omega),if_neg (by omega)] at h;have o:(gtY l j).1=false:=by simpa using h
  exact ⟨o,q8r (ok j hj) o⟩
 rcases (show k=1\/k=2\/k=3\/k=4 by unfold kOK at hk;omega) with e | e | e | e
 ·subst e;have c:cntO 1 (mdK 1 l)=l.length:=by show ((l.length:Int)).toNat=_;omega
  show gen _ (cntO 1 _) 0=_
  rw[c];refine key _ fun j hj=>?_
  obtain ⟨o,w⟩:=at' (.inl rfl) j hj;have h:=(hi j hj).1;unfold canB at h;rw[if_pos rfl] at h;simp at h;exact ext3 _ _ _ _ o w.symm h.2
 ·subst e;have c:cntO 2 (mdK 2 l)=l.length:=by show (l.map fun s=>s.2.2).length=_;rw[List.length_map]
  show gen _ (cntO 2 _) 0=_
  rw[c];refine key _ fun j hj=>?_
  obtain ⟨o,w⟩:=at' (.inr rfl) j hj;exact ext3 _ _ _ _ o w.symm (dat j hj).symm
 ·subst e;have c:cntO 3 (mdK 3 l)=l.length:=by show ((l.length:Int)).toNat=_;omega
  show gen _ (cntO 3 _) 0=_
  rw[c];refine key _ fun j hj=>?_
  obtain ⟨o,w⟩:=lit (by decide) j hj;exact ext3 _ _ _ _ o w ((hi j hj).2.2 rfl)
 ·subst e;have c:cntO 4 (mdK 4 l)=l.length:=by show (l.map fun s=>s.2.2).length=_;rw[List.length_map]
  show gen _ (cntO 4 _) 0=_
  rw[c];refine key _ fun j hj=>?_
  obtain ⟨o,w⟩:=lit (by decide) j hj;exact ext3 _ _ _ _ o w (dat j hj).symm
theorem qkk {k:Int} {l:List SyT} (hk:kOK k) (hr:∀ s∈l,sOK m s=true) (hi:isK k l l.length) (h1:1<=l.length) (hl:l.length<=65536):isRB (mdK k l) m=true:=by
 have ok:∀ j,j<l.length->sOK m (gtY l j)=true:=fun j hj=>by rw[qbn hj];exact hr _ (List.getElem_mem hj)
 have part:k=1\/k=2->qbg (gtY l 0).2.1 l.length m=true:=fun hk=>by
  have h0:=hi 0 (by omega);have b0:=qpd (ok 0 (by omega)) (qhq hk h0.1);have h9:=hi (l.length-1) (by omega);have b9:=qpd (ok (l.length-1) (by omega)) (qhq hk h9.1);have e:=h9.2.1 hk;have w:IntKind.i64.wrap (m-(l.length:Int))=m-l.length:=IntWalk.i64_in _ (by omega);unfold qbg;rw[w];simp only[Bool.and_eq_true,decide_eq_true_eq];omega
 have lens:decide (1<=(mdK k l).2.2.1)=true/\decide ((mdK k l).2.2.1<=65536)=true:=by
  show decide (1<=(l.length:Int))=true/\decide ((l.length:Int)<=65536)=true
  simp only[decide_eq_true_eq];omega
 have lit:¬ (k=1\/k=2)->(gtY l 0).2.1=0:=fun hk=>by
  have h:=(hi 0 (by omega)).1;unfold canB at h;rw[if_neg (by omega),if_neg (by omega)] at h;have o:(gtY l 0).1=false:=by simpa using h
  exact q8r (ok 0 (by omega)) o
 unfold isRB;rw[lens.1,lens.2];unfold mdK kR;rcases (show k=1\/k=2\/k=3\/k=4 by unfold kOK at hk;omega) with e | e | e | e
 ·subst e;simp[rB,part (.inl rfl)]
 ·subst e;simp[rB,part (.inr rfl)]
 ·subst e;simp[rB,lit (by decide)]
 ·subst e;simp[rB,lit (by decide)]
end
theorem qzg {k:Int} {l:List SyT} (hk:kOK k) (hl:l.length<=65536):cN k.toNat (mdK k l)=hdC k+eaC k*(l.length:Int):=by
 rcases (show k=1\/k=2\/k=3\/k=4 by unfold kOK at hk;omega) with e | e | e | e
 ·subst e;show (4:Int)=hdC 1+eaC 1*_;simp[hdC,eaC]
 ·subst e
  show IntKind.i64.wrap (4+(l.length:Int))=_
  rw[IntWalk.i64_in _ (by omega)];simp[hdC,eaC]
 ·subst e;show (4:Int)=hdC 3+eaC 3*_;simp[hdC,eaC]
 ·subst e
  show IntKind.i64.wrap (2+(l.length:Int))=_
  rw[IntWalk.i64_in _ (by omega)];simp[hdC,eaC]
def cst (l:List SyT):Int:=(bst l).2.2.1
def oct (l:List SyT):Int:=(bst l).2.2.2
theorem eaN (k:Int) (n:Nat):0<=eaC k*(n:Int)/\eaC k*(n:Int)<=n:=by
 unfold eaC;split
 ·omega
 ·omega
theorem q2w {l:List SyT} (hl:l.length<=65536) (h0:l≠[]):kOK (bst l).1/\∃ n:Nat,(bst l).2.1=(n:Int)/\1<=n/\n<=fitN (bst l).1 l/\(∀ k,kOK k->∀ m:Nat,1<=m->m<=fitN k l->keyL (bst l).1 n l<=keyL k m l) /\
  cst l=hdC (bst l).1+eaC (bst l).1*(n:Int)+cst (l.drop n)/\oct l=1+oct (l.drop n):=by
 rcases (qrd l hl).2 with ⟨h,_⟩ | ⟨_,hk,n,h1,h2,h3,h4,h5,h6⟩
 ·exact absurd h h0
 refine ⟨hk,n,h1,h2,h3,h5,?_⟩;have hd:(l.drop n).length<=65536:=by rw[List.length_drop];omega
 have hb:=qr2 (l.drop n) hd;have hf:=qfj (bst l).1 l;unfold keyT keyL wB at h4;unfold boL at hb h6;unfold cst oct;have e1:=eaN (bst l).1 n;generalize eaC (bst l).1*(n:Int)=e at *;generalize (bst (l.drop n))=b at *;rw[List.length_drop] at hb;omega
def chF:Nat->List SyT->List OpT
 | 0,_=>[]
 | f+1,l=>if l=[] then [] else mdK (bst l).1 (l.take (bst l).2.1.toNat)::chF f (l.drop (bst l).2.1.toNat)
def chL (l:List SyT):List OpT:=chF l.length l
theorem qz0 {k:Int} {l:List SyT} {n q:Nat} (hq:n<=q) (h:isK k l q):isK k (l.take n) n:=fun j hj=>by
 have e:∀ j,j<n->gtY (l.take n) j=gtY l j:=fun j hj=>by simp[gt,hj]
 rw[e j hj,e 0 (by omega)];exact h j (by omega)
theorem ch_ok {m:Int} (hm:m<16777216):∀ (f:Nat) (l:List SyT),l.length<=f->l.length<=65536->(∀ s∈l,sOK m s=true) ->
  symF (chF f l)=l/\(∀ x∈chF f l,isRB x m=true)/\q0h (chF f l)=cst l/\((chF f l).length:Int)=oct l:=by
 intro f
 induction f with
 | zero=>
  intro l hf hl hr;have e:l=[]:=List.eq_nil_of_length_eq_zero (by omega);subst e;exact ⟨rfl,(fun x hx=>by cases hx),rfl,rfl⟩
 | succ f ih=>
  intro l hf hl hr;by_cases h0:l=[]
  ·subst h0;exact ⟨rfl,(fun x hx=>by cases hx),rfl,rfl⟩
  ·obtain ⟨hb,q,q1,q2,q3,q4,q5,q6⟩:=q2w hl h0;have hq:=qfj (bst l).1 l;have e:chF (f+1) l=mdK (bst l).1 (l.take q)::chF f (l.drop q):=by rw[chF,if_neg h0,q1,Int.toNat_natCast]
   rw[e];have tl:(l.take q).length=q:=by rw[List.length_take];omega
   have dl:(l.drop q).length=l.length-q:=List.length_drop ..;obtain ⟨i1,i2,i3,i4⟩:=ih (l.drop q) (by omega) (by omega) fun s hs=>hr s (List.mem_of_mem_drop hs)
   have tr:∀ s∈l.take q,sOK m s=true:=fun s hs=>hr s (List.mem_of_mem_take hs)
   have ti:isK (bst l).1 (l.take q) (l.take q).length:=by rw[tl];exact qz0 q3 (q2k hm hr)
   refine ⟨?_,fun x hx=>?_,?_,?_⟩
   ·rw[symF,i1]
    show qay (bst l).1.toNat _++_=_
    rw[qpv hm hb tr ti,List.take_append_drop]
   ·rcases List.mem_cons.1 hx with h | h
    ·subst h;exact qkk hm hb tr ti (by omega) (by omega)
    ·exact i2 x h
   ·rw[q0h,i3]
    show cN (bst l).1.toNat _+_=_
    rw[qzg hb (by omega),q5,tl]
   ·rw[List.length_cons,q6];omega
end Go.Proofs.YtnmkfdgnenkhpaaDoor
