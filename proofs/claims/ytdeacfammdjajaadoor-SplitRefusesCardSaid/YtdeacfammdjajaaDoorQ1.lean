/-
  A part of the proof: what pieces of the program give; conditions: those of each theorem.
-/
import Derived.Test.YtdeacfammdjajaaDoorQ0
set_option linter.unusedVariables false
set_option linter.unusedSimpArgs false
namespace Go.Proofs.YtdeacfammdjajaaDoor
open Go.Px Go.Ax
set_option maxRecDepth 100000
attribute [local irreducible] Go.Px.sy Go.Px.syE
theorem QI.row {ct:CtrI} {x:DI ct.args} {rs:List SV} {blk:List (Nat × LB)} {e:Sh} {et:TypeId} {a k:Nat} {xs:List e.D} (h:ct.out x=[.win true e 0 0 xs.length]) (hr:ct.blk x=[(0,.row et e xs)]) (hs:rs=[.win true e a 0 k]) (hk:k=xs.length) (hb:lk blk a=some (.row et e xs)) (ha:a<BIG):QI ct x rs blk:=by
 subst hs;subst hk;refine ⟨[(0,a)],?_,?_,by simp,λ p hp=>by simp at hp;subst hp;exact ha⟩
 ·rw[h];exact ⟨_,_,rfl,.inl ⟨true,a,rfl,rfl,λ h=>h⟩,rfl⟩
 ·rw[hr];exact ⟨.inl ⟨a,_,rfl,hb,rfl⟩,trivial⟩
def gen (el:Nat->SyT):Nat->Nat->List SyT
 | 0,_=>[]
 | k+1,i=>el i::gen el k (i+1)
theorem qni (el:Nat->SyT):∀ k i,(gen el k i).length=k
 | 0,_=>rfl
 | k+1,i=>by rw[gen,List.length_cons,qni el k]
def elO (t:Nat) (x:OpT) (i:Nat):SyT:=match t with
 | 1=>(true,IntKind.i64.wrap (x.2.1+i),0)
 | 2=>(true,IntKind.i64.wrap (x.2.1+i),gtB x.2.2.2.2 i)
 | 3=>(false,0,x.2.2.2.1)
 | _=>(false,0,gtB x.2.2.2.2 i)
def cntO (t:Nat) (x:OpT):Nat:=match t with
 | 1=>x.2.2.1.toNat
 | 3=>x.2.2.1.toNat
 | _=>x.2.2.2.2.length
def qa8 (t:Nat) (x:OpT):List SyT:=gen (elO t x) (cntO t x) 0
def preA (t:Nat) (x:OpT) (o:List SyT):Prop:=1<=cntO t x/\o.length+cntO t x<268435456/\x.2.2.1<268435456
abbrev KA:List AK:=[.dat opS,.row 82 syS]
def ctA (t:Nat):CtrI:=⟨KA,λ x=>preA t x.1 x.2.1,λ x=>[.win true syS 0 0 (List.length (x.2.1++qa8 t x.1))],λ x=>[(0,.row 82 syS (x.2.1++qa8 t x.1))]⟩
abbrev GQ (t:Nat) (x:OpT) (o:List SyT):List SV->List (Nat × LB)->Prop:=QI (ctA t) (x,o,())
theorem qtn (k f n b:Int) (d:List Int) (o0:List SyT) (hb:n<268435456/\True):∀ (c i:Nat) (o:List SyT),cntO 1 (k,f,n,b,d)-i=c->i<=cntO 1 (k,f,n,b,d)->o.length+c<268435456->o++gen (elO 1 (k,f,n,b,d)) c i=o0++qa8 1 (k,f,n,b,d) ->
  GD 99 Tryd.f99 (GQ 1 (k,f,n,b,d) o0) (hd Tryd.f99 0) ⟨[(1,.win true syS 1 0 o.length),(2,.ptr 2 0),(7,.i n),(8,.i (i:Nat))],[(2,.var [.i k,.i f,.i n,.u b,.sl uB d]),(1,.row 82 syS o)]⟩:=by
 intro c
 induction c with
 | zero=>
  intro i o hc hi hl he;have hn:cntO 1 (k,f,n,b,d)=n.toNat:=rfl;refine qai cx0 _ _ _ ((qn2 k f n b d o i _ _).mpr ?_);rw[decide_eq_false (by omega),bc_f];have he:o=o0++qa8 1 (k,f,n,b,d):=by simpa [gen] using he
  exact QI.row (e:=syS) (et:=82) (a:=1) (xs:=o0++qa8 1 (k,f,n,b,d)) rfl rfl (by rw[he]) rfl (by rw[he];rfl) (by decide)
 | succ c ih=>
  intro i o hc hi hl he;have hn:cntO 1 (k,f,n,b,d)=n.toNat:=rfl;refine qai cx0 _ _ _ ((qn2 k f n b d o i _ _).mpr ?_);rw[decide_eq_true (show (i:Int)<n by omega),bc_t,IntWalk.i64_in ((i:Int)+1) (by omega)];refine ⟨Nat.le_refl 1,rfl,rfl,?_,by decide,?_⟩
  ·show o.length+1<2 ^ 30
   omega
  ·refine Good.onlyR (ih (i+1) (o++[elO 1 (k,f,n,b,d) i]) (by omega) (by omega) (by rw[List.length_append,List.length_singleton];omega) (by rw[List.append_assoc];exact he)) [(1,18)] rfl ⟨by rw[List.length_append];rfl,rfl,rfl,rfl,trivial⟩ ⟨rfl,rfl,trivial⟩
theorem qto:HeldI Tryd.prog G0 99 (ctA 1):=by
 refine HeldI.run cx0 (fn:=Tryd.f99) rfl rfl ⟨by decide,by decide⟩ ?_;rintro ⟨⟨k,f,n,b,d⟩,o,⟨⟩⟩ hp;obtain ⟨h1,h2,h3⟩:preA 1 (k,f,n,b,d) o:=hp;have hn:cntO 1 (k,f,n,b,d)=n.toNat:=rfl;replace h3:n<268435456:=h3;refine (qx7 k f n b d o _ _).mpr ?_;have hb:n<268435456/\True:=⟨h3,trivial⟩;obtain ⟨c,hc⟩:∃ c,cntO 1 (k,f,n,b,d)=c+1:=⟨cntO 1 (k,f,n,b,d)-1,by omega⟩;have e:GD 99 Tryd.f99 (GQ 1 (k,f,n,b,d) o) (hd Tryd.f99 0) ⟨[(1,.win true syS 1099511627776 0 o.length),(2,.ptr 2 0),(7,.i n),(8,.i ((0:Nat):Int))],[(2,.var [.i k,.i f,.i n,.u b,.sl uB d]),(1099511627776,.row 82 syS o)]⟩:=by
  refine qai cx0 _ _ _ ((qub k f n b d o 0 _ _).mpr ?_);rw[decide_eq_true (show ((0:Nat):Int)<n by omega),bc_t,IntWalk.i64_in (((0:Nat):Int)+1) (by omega)];refine ⟨Nat.le_refl 1,rfl,rfl,?_,by decide,?_⟩
  ·show o.length+1<2 ^ 30
   omega
  ·refine Good.onlyR (qtn k f n b d o ⟨h3,trivial⟩ c 1 (o++[elO 1 (k,f,n,b,d) 0]) (by omega) (by omega) (by rw[List.length_append,List.length_singleton];omega) (by rw[List.append_assoc];unfold qa8;rw[hc];rfl)) [(1,18)] rfl ⟨by rw[List.length_append];rfl,rfl,rfl,rfl,trivial⟩ ⟨rfl,rfl,trivial⟩
 exact e.only ⟨rfl,rfl,rfl,rfl,trivial⟩ ⟨rfl,rfl,trivial⟩
theorem qtk (k f n b:Int) (d:List Int) (o0:List SyT) (hb:n<268435456/\d.length<268435456):∀ (c i:Nat) (o:List SyT),cntO 2 (k,f,n,b,d)-i=c->i<=cntO 2 (k,f,n,b,d)->o.length+c<268435456->o++gen (elO 2 (k,f,n,b,d)) c i=o0++qa8 2 (k,f,n,b,d) ->
  GD 103 Tryd.f103 (GQ 2 (k,f,n,b,d) o0) (hd Tryd.f103 0) ⟨[(1,.win true syS 1 0 o.length),(2,.ptr 2 0),(8,.sl uB d),(9,.i d.length),(10,.i (i:Nat))],[(2,.var [.i k,.i f,.i n,.u b,.sl uB d]),(1,.row 82 syS o)]⟩:=by
 intro c
 induction c with
 | zero=>
  intro i o hc hi hl he;have hn:cntO 2 (k,f,n,b,d)=d.length:=rfl;refine qai cx0 _ _ _ ((qn1 k f n b d o i _ _).mpr ?_);rw[decide_eq_false (by omega),bc_f];have he:o=o0++qa8 2 (k,f,n,b,d):=by simpa [gen] using he
  exact QI.row (e:=syS) (et:=82) (a:=1) (xs:=o0++qa8 2 (k,f,n,b,d)) rfl rfl (by rw[he]) rfl (by rw[he];rfl) (by decide)
 | succ c ih=>
  intro i o hc hi hl he;have hn:cntO 2 (k,f,n,b,d)=d.length:=rfl;refine qai cx0 _ _ _ ((qn1 k f n b d o i _ _).mpr ?_);rw[decide_eq_true (show (i:Int)<(d.length:Int) by omega),bc_t,IntWalk.i64_in ((i:Int)+1) (by omega),Int.toNat_natCast];refine ⟨by omega,by omega,Nat.le_refl 1,rfl,rfl,?_,by decide,?_⟩
  ·show o.length+1<2 ^ 30
   omega
  ·refine Good.onlyR (ih (i+1) (o++[elO 2 (k,f,n,b,d) i]) (by omega) (by omega) (by rw[List.length_append,List.length_singleton];omega) (by rw[List.append_assoc];exact he)) [(1,23)] rfl ⟨by rw[List.length_append];rfl,rfl,rfl,rfl,rfl,trivial⟩ ⟨rfl,rfl,trivial⟩
theorem qtl:HeldI Tryd.prog G0 103 (ctA 2):=by
 refine HeldI.run cx0 (fn:=Tryd.f103) rfl rfl ⟨by decide,by decide⟩ ?_;rintro ⟨⟨k,f,n,b,d⟩,o,⟨⟩⟩ hp;obtain ⟨h1,h2,h3⟩:preA 2 (k,f,n,b,d) o:=hp;have hn:cntO 2 (k,f,n,b,d)=d.length:=rfl;replace h3:n<268435456:=h3;refine (qx5 k f n b d o _ _).mpr ?_;have hb:n<268435456/\d.length<268435456:=⟨h3,by omega⟩;obtain ⟨c,hc⟩:∃ c,cntO 2 (k,f,n,b,d)=c+1:=⟨cntO 2 (k,f,n,b,d)-1,by omega⟩;have e:GD 103 Tryd.f103 (GQ 2 (k,f,n,b,d) o) (hd Tryd.f103 0) ⟨[(1,.win true syS 1099511627776 0 o.length),(2,.ptr 2 0),(8,.sl uB d),(9,.i d.length),(10,.i ((0:Nat):Int))],[(2,.var [.i k,.i f,.i n,.u b,.sl uB d]),(1099511627776,.row 82 syS o)]⟩:=by
  refine qai cx0 _ _ _ ((qua k f n b d o 0 _ _).mpr ?_);rw[decide_eq_true (show ((0:Nat):Int)<(d.length:Int) by omega),bc_t,IntWalk.i64_in (((0:Nat):Int)+1) (by omega),Int.toNat_natCast];refine ⟨by omega,by omega,Nat.le_refl 1,rfl,rfl,?_,by decide,?_⟩
  ·show o.length+1<2 ^ 30
   omega
  ·refine Good.onlyR (qtk k f n b d o hb c 1 (o++[elO 2 (k,f,n,b,d) 0]) (by omega) (by omega) (by rw[List.length_append,List.length_singleton];omega) (by rw[List.append_assoc];unfold qa8;rw[hc];rfl)) [(1,23)] rfl ⟨by rw[List.length_append];rfl,rfl,rfl,rfl,rfl,trivial⟩ ⟨rfl,rfl,trivial⟩
 exact e.only ⟨rfl,rfl,rfl,rfl,rfl,trivial⟩ ⟨rfl,rfl,trivial⟩
theorem qu6 (k f n b:Int) (d:List Int) (o0:List SyT) (hb:n<268435456/\True):∀ (c i:Nat) (o:List SyT),cntO 3 (k,f,n,b,d)-i=c->i<=cntO 3 (k,f,n,b,d)->o.length+c<268435456->o++gen (elO 3 (k,f,n,b,d)) c i=o0++qa8 3 (k,f,n,b,d) ->
  GD 106 Tryd.f106 (GQ 3 (k,f,n,b,d) o0) (hd Tryd.f106 0) ⟨[(1,.win true syS 1 0 o.length),(2,.ptr 2 0),(6,.i n),(7,.i (i:Nat))],[(2,.var [.i k,.i f,.i n,.u b,.sl uB d]),(1,.row 82 syS o)]⟩:=by
 intro c
 induction c with
 | zero=>
  intro i o hc hi hl he;have hn:cntO 3 (k,f,n,b,d)=n.toNat:=rfl;refine qai cx0 _ _ _ ((qqw k f n b d o i _ _).mpr ?_);rw[decide_eq_false (by omega),bc_f];have he:o=o0++qa8 3 (k,f,n,b,d):=by simpa [gen] using he
  exact QI.row (e:=syS) (et:=82) (a:=1) (xs:=o0++qa8 3 (k,f,n,b,d)) rfl rfl (by rw[he]) rfl (by rw[he];rfl) (by decide)
 | succ c ih=>
  intro i o hc hi hl he;have hn:cntO 3 (k,f,n,b,d)=n.toNat:=rfl;refine qai cx0 _ _ _ ((qqw k f n b d o i _ _).mpr ?_);rw[decide_eq_true (show (i:Int)<n by omega),bc_t,IntWalk.i64_in ((i:Int)+1) (by omega)];refine ⟨Nat.le_refl 1,rfl,rfl,?_,by decide,?_⟩
  ·show o.length+1<2 ^ 30
   omega
  ·refine Good.onlyR (ih (i+1) (o++[elO 3 (k,f,n,b,d) i]) (by omega) (by omega) (by rw[List.length_append,List.length_singleton];omega) (by rw[List.append_assoc];exact he)) [(1,14)] rfl ⟨by rw[List.length_append];rfl,rfl,rfl,rfl,trivial⟩ ⟨rfl,rfl,trivial⟩
theorem qu7:HeldI Tryd.prog G0 106 (ctA 3):=by
 refine HeldI.run cx0 (fn:=Tryd.f106) rfl rfl ⟨by decide,by decide⟩ ?_;rintro ⟨⟨k,f,n,b,d⟩,o,⟨⟩⟩ hp;obtain ⟨h1,h2,h3⟩:preA 3 (k,f,n,b,d) o:=hp;have hn:cntO 3 (k,f,n,b,d)=n.toNat:=rfl;replace h3:n<268435456:=h3;refine (q2v k f n b d o _ _).mpr ?_;have hb:n<268435456/\True:=⟨h3,trivial⟩;obtain ⟨c,hc⟩:∃ c,cntO 3 (k,f,n,b,d)=c+1:=⟨cntO 3 (k,f,n,b,d)-1,by omega⟩;have e:GD 106 Tryd.f106 (GQ 3 (k,f,n,b,d) o) (hd Tryd.f106 0) ⟨[(1,.win true syS 1099511627776 0 o.length),(2,.ptr 2 0),(6,.i n),(7,.i ((0:Nat):Int))],[(2,.var [.i k,.i f,.i n,.u b,.sl uB d]),(1099511627776,.row 82 syS o)]⟩:=by
  refine qai cx0 _ _ _ ((qxq k f n b d o 0 _ _).mpr ?_);rw[decide_eq_true (show ((0:Nat):Int)<n by omega),bc_t,IntWalk.i64_in (((0:Nat):Int)+1) (by omega)];refine ⟨Nat.le_refl 1,rfl,rfl,?_,by decide,?_⟩
  ·show o.length+1<2 ^ 30
   omega
  ·refine Good.onlyR (qu6 k f n b d o ⟨h3,trivial⟩ c 1 (o++[elO 3 (k,f,n,b,d) 0]) (by omega) (by omega) (by rw[List.length_append,List.length_singleton];omega) (by rw[List.append_assoc];unfold qa8;rw[hc];rfl)) [(1,14)] rfl ⟨by rw[List.length_append];rfl,rfl,rfl,rfl,trivial⟩ ⟨rfl,rfl,trivial⟩
 exact e.only ⟨rfl,rfl,rfl,rfl,trivial⟩ ⟨rfl,rfl,trivial⟩
theorem qwc (k f n b:Int) (d:List Int) (o0:List SyT) (hb:n<268435456/\d.length<268435456):∀ (c i:Nat) (o:List SyT),cntO 4 (k,f,n,b,d)-i=c->i<=cntO 4 (k,f,n,b,d)->o.length+c<268435456->o++gen (elO 4 (k,f,n,b,d)) c i=o0++qa8 4 (k,f,n,b,d) ->
  GD 109 Tryd.f109 (GQ 4 (k,f,n,b,d) o0) (hd Tryd.f109 0) ⟨[(1,.win true syS 1 0 o.length),(2,.ptr 2 0),(8,.sl uB d),(9,.i d.length),(10,.i (i:Nat))],[(2,.var [.i k,.i f,.i n,.u b,.sl uB d]),(1,.row 82 syS o)]⟩:=by
 intro c
 induction c with
 | zero=>
  intro i o hc hi hl he;have hn:cntO 4 (k,f,n,b,d)=d.length:=rfl;refine qai cx0 _ _ _ ((qqy k f n b d o i _ _).mpr ?_);rw[decide_eq_false (by omega),bc_f];have he:o=o0++qa8 4 (k,f,n,b,d):=by simpa [gen] using he
  exact QI.row (e:=syS) (et:=82) (a:=1) (xs:=o0++qa8 4 (k,f,n,b,d)) rfl rfl (by rw[he]) rfl (by rw[he];rfl) (by decide)
 | succ c ih=>
  intro i o hc hi hl he;have hn:cntO 4 (k,f,n,b,d)=d.length:=rfl;refine qai cx0 _ _ _ ((qqy k f n b d o i _ _).mpr ?_);rw[decide_eq_true (show (i:Int)<(d.length:Int) by omega),bc_t,IntWalk.i64_in ((i:Int)+1) (by omega),Int.toNat_natCast];refine ⟨by omega,by omega,Nat.le_refl 1,rfl,rfl,?_,by decide,?_⟩
  ·show o.length+1<2 ^ 30
   omega
  ·refine Good.onlyR (ih (i+1) (o++[elO 4 (k,f,n,b,d) i]) (by omega) (by omega) (by rw[List.length_append,List.length_singleton];omega) (by rw[List.append_assoc];exact he)) [(1,18)] rfl ⟨by rw[List.length_append];rfl,rfl,rfl,rfl,rfl,trivial⟩ ⟨rfl,rfl,trivial⟩
theorem qwd:HeldI Tryd.prog G0 109 (ctA 4):=by
 refine HeldI.run cx0 (fn:=Tryd.f109) rfl rfl ⟨by decide,by decide⟩ ?_;rintro ⟨⟨k,f,n,b,d⟩,o,⟨⟩⟩ hp;obtain ⟨h1,h2,h3⟩:preA 4 (k,f,n,b,d) o:=hp;have hn:cntO 4 (k,f,n,b,d)=d.length:=rfl;replace h3:n<268435456:=h3;refine (q23 k f n b d o _ _).mpr ?_;have hb:n<268435456/\d.length<268435456:=⟨h3,by omega⟩;obtain ⟨c,hc⟩:∃ c,cntO 4 (k,f,n,b,d)=c+1:=⟨cntO 4 (k,f,n,b,d)-1,by omega⟩;have e:GD 109 Tryd.f109 (GQ 4 (k,f,n,b,d) o) (hd Tryd.f109 0) ⟨[(1,.win true syS 1099511627776 0 o.length),(2,.ptr 2 0),(8,.sl uB d),(9,.i d.length),(10,.i ((0:Nat):Int))],[(2,.var [.i k,.i f,.i n,.u b,.sl uB d]),(1099511627776,.row 82 syS o)]⟩:=by
  refine qai cx0 _ _ _ ((qx2 k f n b d o 0 _ _).mpr ?_);rw[decide_eq_true (show ((0:Nat):Int)<(d.length:Int) by omega),bc_t,IntWalk.i64_in (((0:Nat):Int)+1) (by omega),Int.toNat_natCast];refine ⟨by omega,by omega,Nat.le_refl 1,rfl,rfl,?_,by decide,?_⟩
  ·show o.length+1<2 ^ 30
   omega
  ·refine Good.onlyR (qwc k f n b d o hb c 1 (o++[elO 4 (k,f,n,b,d) 0]) (by omega) (by omega) (by rw[List.length_append,List.length_singleton];omega) (by rw[List.append_assoc];unfold qa8;rw[hc];rfl)) [(1,18)] rfl ⟨by rw[List.length_append];rfl,rfl,rfl,rfl,rfl,trivial⟩ ⟨rfl,rfl,trivial⟩
 exact e.only ⟨rfl,rfl,rfl,rfl,rfl,trivial⟩ ⟨rfl,rfl,trivial⟩
open Go.IntKind(i64 u32 u8)
def CA:CV:=(109,.inr (ctA 4))::(106,.inr (ctA 3))::(103,.inr (ctA 2))::(99,.inr (ctA 1))::(46,.inl ctChk)::C1
theorem cxA:CxOK Tryd.prog tt G0 CA:=((((cx1.k qr7 (fn:=Tryd.f46)).consI qto (fn:=Tryd.f99) rfl rfl rfl).consI qtl (fn:=Tryd.f103) rfl rfl rfl).consI qu7 (fn:=Tryd.f106) rfl rfl rfl).consI qwd (fn:=Tryd.f109) rfl rfl rfl
def E1:CV:=(55,.inl (ctO 1 117))::CA
def E2:CV:=(55,.inl (ctO 2 118))::CA
def E3:CV:=(55,.inl (ctO 3 119))::CA
def E4:CV:=(55,.inl (ctO 4 120))::CA
theorem ex1:CxOK Tryd.prog tt G0 E1:=cxA.k qvx (fn:=Tryd.f55)
theorem ex2:CxOK Tryd.prog tt G0 E2:=cxA.k qvw (fn:=Tryd.f55)
theorem ex3:CxOK Tryd.prog tt G0 E3:=cxA.k qvv (fn:=Tryd.f55)
theorem ex4:CxOK Tryd.prog tt G0 E4:=cxA.k qvu (fn:=Tryd.f55)
set_option maxRecDepth 100000
theorem q2r (li:Bool) (m o:Int) (l:List OpT) (Q:QT) (R:RT):sA CA Tryd.f37 Q R [.code (qae Tryd.f37)] (entry [paS] ((li,m,o,l),())) =
  (ctChk.pre ((li,m,o,l),())/\bc (decide ((chkV (li,m,o,l)).2≠0)) (Q [.nils,.i (chkV (li,m,o,l)).2] [(1,.var [.bool li,.i m,.i o,.sl opS l])]) ((0:Int)<=0/\(0:Int)<=o/\o<2 ^ 24/\(↑(24:Nat):Int)*o<=2 ^ 48/\R (hd Tryd.f37 0) { env:=[(0,.agg [.bool li,.i m,.i o,.sl opS l]),(1,.ptr 1 0),(2,.nils),(3,.i 0),(4,.i (chkV (li,m,o,l)).1),(5,.i (chkV (li,m,o,l)).2),(6,.win true syS 19 0 (0:Nat)),(9,SV.tup [.i (chkV (li,m,o,l)).1,.i (chkV (li,m,o,l)).2]),(10,.agg [.bool li,.i m,.i o,.sl opS l]),(11,SV.tup [.i (chkV (li,m,o,l)).1,.i (chkV (li,m,o,l)).2]),(12,.i (chkV (li,m,o,l)).1),(13,.i (chkV (li,m,o,l)).2),(14,.i (chkV (li,m,o,l)).2),(15,.bool (decide ((chkV (li,m,o,l)).2≠0))),(17,.ptr 1 2),(18,.i o),(19,.win true syS 19 0 (0:Nat)),(20,.ptr 1 3),(21,.sl opS l),(22,.i (l.length:Int)),(23,.i 0)],blk:=[(1,.var [.bool li,.i m,.i o,.sl opS l]),(19,.row 82 syS (List.replicate (0) syS.dflt))] })):=by kernel_rfl
theorem qn0 (li:Bool) (m o:Int) (l:List OpT) (s:List SyT) (i:Nat) (Q:QT) (R:RT):sA E1 Tryd.f37 Q R (hd Tryd.f37 0) ⟨[(1,.ptr 1 0),(6,.win true syS 19 0 s.length),(21,.sl opS l),(22,.i l.length),(23,.i (i:Nat))],[(1,.var [.bool li,.i m,.i o,.sl opS l]),(19,.row 82 syS s)]⟩ =
  (bc (decide ((i:Int)<(l.length:Int))) ((0:Int)<=(i:Int)/\(i:Int)<(l.length:Int)/\(ctO (1:Int) (117:Nat)).pre ((gtO l (i:Int).toNat),())/\s.length=s.length/\(ctA (1:Nat)).pre ((gtO l (i:Int).toNat),s,())/\R (hd Tryd.f37 0) { env:=[(1,.ptr 1 0),(6,.win true syS 1122880 0 (List.length (s++qa8 (1:Nat) (gtO l (i:Int).toNat)))),(8,.ptr 8 0),(21,.sl opS l),(22,.i (l.length:Int)),(23,.i (i64.wrap ((i:Int)+1))),(24,.bool (decide ((i:Int)<(l.length:Int)))),(25,.elv opS (gtO l (i:Int).toNat)),(26,.agg (oI (gtO l (i:Int).toNat))),(27,.agg (oI (gtO l (i:Int).toNat))),(28,.ifc (117:Nat) true (oI (gtO l (i:Int).toNat))),(29,.dead),(30,.win true syS 1122880 0 (List.length (s++qa8 (1:Nat) (gtO l (i:Int).toNat)))),(31,.i (i64.wrap ((i:Int)+1)))],blk:=[(1,.var [.bool li,.i m,.i o,.sl opS l]),(8,.var (oI (gtO l (i:Int).toNat))),(1122880,.row 82 syS (s++qa8 (1:Nat) (gtO l (i:Int).toNat)))] }) (Q [.win true syS 19 0 s.length,.i 0] [(1,.var [.bool li,.i m,.i o,.sl opS l]),(19,.row 82 syS s)])):=by kernel_rfl
theorem qtz (li:Bool) (m o:Int) (l:List OpT) (s:List SyT) (i:Nat) (Q:QT) (R:RT):sA E2 Tryd.f37 Q R (hd Tryd.f37 0) ⟨[(1,.ptr 1 0),(6,.win true syS 19 0 s.length),(21,.sl opS l),(22,.i l.length),(23,.i (i:Nat))],[(1,.var [.bool li,.i m,.i o,.sl opS l]),(19,.row 82 syS s)]⟩ =
  (bc (decide ((i:Int)<(l.length:Int))) ((0:Int)<=(i:Int)/\(i:Int)<(l.length:Int)/\(ctO (2:Int) (118:Nat)).pre ((gtO l (i:Int).toNat),())/\s.length=s.length/\(ctA (2:Nat)).pre ((gtO l (i:Int).toNat),s,())/\R (hd Tryd.f37 0) { env:=[(1,.ptr 1 0),(6,.win true syS 1122880 0 (List.length (s++qa8 (2:Nat) (gtO l (i:Int).toNat)))),(8,.ptr 8 0),(21,.sl opS l),(22,.i (l.length:Int)),(23,.i (i64.wrap ((i:Int)+1))),(24,.bool (decide ((i:Int)<(l.length:Int)))),(25,.elv opS (gtO l (i:Int).toNat)),(26,.agg (oI (gtO l (i:Int).toNat))),(27,.agg (oI (gtO l (i:Int).toNat))),(28,.ifc (118:Nat) true (oI (gtO l (i:Int).toNat))),(29,.dead),(30,.win true syS 1122880 0 (List.length (s++qa8 (2:Nat) (gtO l (i:Int).toNat)))),(31,.i (i64.wrap ((i:Int)+1)))],blk:=[(1,.var [.bool li,.i m,.i o,.sl opS l]),(8,.var (oI (gtO l (i:Int).toNat))),(1122880,.row 82 syS (s++qa8 (2:Nat) (gtO l (i:Int).toNat)))] }) (Q [.win true syS 19 0 s.length,.i 0] [(1,.var [.bool li,.i m,.i o,.sl opS l]),(19,.row 82 syS s)])):=by kernel_rfl
theorem qty (li:Bool) (m o:Int) (l:List OpT) (s:List SyT) (i:Nat) (Q:QT) (R:RT):sA E3 Tryd.f37 Q R (hd Tryd.f37 0) ⟨[(1,.ptr 1 0),(6,.win true syS 19 0 s.length),(21,.sl opS l),(22,.i l.length),(23,.i (i:Nat))],[(1,.var [.bool li,.i m,.i o,.sl opS l]),(19,.row 82 syS s)]⟩ =
  (bc (decide ((i:Int)<(l.length:Int))) ((0:Int)<=(i:Int)/\(i:Int)<(l.length:Int)/\(ctO (3:Int) (119:Nat)).pre ((gtO l (i:Int).toNat),())/\s.length=s.length/\(ctA (3:Nat)).pre ((gtO l (i:Int).toNat),s,())/\R (hd Tryd.f37 0) { env:=[(1,.ptr 1 0),(6,.win true syS 1122880 0 (List.length (s++qa8 (3:Nat) (gtO l (i:Int).toNat)))),(8,.ptr 8 0),(21,.sl opS l),(22,.i (l.length:Int)),(23,.i (i64.wrap ((i:Int)+1))),(24,.bool (decide ((i:Int)<(l.length:Int)))),(25,.elv opS (gtO l (i:Int).toNat)),(26,.agg (oI (gtO l (i:Int).toNat))),(27,.agg (oI (gtO l (i:Int).toNat))),(28,.ifc (119:Nat) true (oI (gtO l (i:Int).toNat))),(29,.dead),(30,.win true syS 1122880 0 (List.length (s++qa8 (3:Nat) (gtO l (i:Int).toNat)))),(31,.i (i64.wrap ((i:Int)+1)))],blk:=[(1,.var [.bool li,.i m,.i o,.sl opS l]),(8,.var (oI (gtO l (i:Int).toNat))),(1122880,.row 82 syS (s++qa8 (3:Nat) (gtO l (i:Int).toNat)))] }) (Q [.win true syS 19 0 s.length,.i 0] [(1,.var [.bool li,.i m,.i o,.sl opS l]),(19,.row 82 syS s)])):=by kernel_rfl
theorem qtx (li:Bool) (m o:Int) (l:List OpT) (s:List SyT) (i:Nat) (Q:QT) (R:RT):sA E4 Tryd.f37 Q R (hd Tryd.f37 0) ⟨[(1,.ptr 1 0),(6,.win true syS 19 0 s.length),(21,.sl opS l),(22,.i l.length),(23,.i (i:Nat))],[(1,.var [.bool li,.i m,.i o,.sl opS l]),(19,.row 82 syS s)]⟩ =
  (bc (decide ((i:Int)<(l.length:Int))) ((0:Int)<=(i:Int)/\(i:Int)<(l.length:Int)/\(ctO (4:Int) (120:Nat)).pre ((gtO l (i:Int).toNat),())/\s.length=s.length/\(ctA (4:Nat)).pre ((gtO l (i:Int).toNat),s,())/\R (hd Tryd.f37 0) { env:=[(1,.ptr 1 0),(6,.win true syS 1122880 0 (List.length (s++qa8 (4:Nat) (gtO l (i:Int).toNat)))),(8,.ptr 8 0),(21,.sl opS l),(22,.i (l.length:Int)),(23,.i (i64.wrap ((i:Int)+1))),(24,.bool (decide ((i:Int)<(l.length:Int)))),(25,.elv opS (gtO l (i:Int).toNat)),(26,.agg (oI (gtO l (i:Int).toNat))),(27,.agg (oI (gtO l (i:Int).toNat))),(28,.ifc (120:Nat) true (oI (gtO l (i:Int).toNat))),(29,.dead),(30,.win true syS 1122880 0 (List.length (s++qa8 (4:Nat) (gtO l (i:Int).toNat)))),(31,.i (i64.wrap ((i:Int)+1)))],blk:=[(1,.var [.bool li,.i m,.i o,.sl opS l]),(8,.var (oI (gtO l (i:Int).toNat))),(1122880,.row 82 syS (s++qa8 (4:Nat) (gtO l (i:Int).toNat)))] }) (Q [.win true syS 19 0 s.length,.i 0] [(1,.var [.bool li,.i m,.i o,.sl opS l]),(19,.row 82 syS s)])):=by kernel_rfl
def qcd (x y:OpT):List (Nat × LB):=[(2,.var [.i x.1,.i x.2.1,.i x.2.2.1,.u x.2.2.2.1,.sl uB x.2.2.2.2]),(3,.var [.i y.1,.i y.2.1,.i y.2.2.1,.u y.2.2.2.1,.sl uB y.2.2.2.2])]
theorem qt1 (x y:OpT) (Q:QT) (R:RT):sA [] Tryd.f35 Q R [.code (qae Tryd.f35)] (entry [opS,opS] (x,y,())) =
  (bc (decide (x.1=y.1)) (bc (decide (x.2.1=y.2.1)) (bc (decide (x.2.2.1=y.2.2.1)) (bc (decide (x.2.2.2.1=y.2.2.2.1)) (Q [.bool (decide (List.map toB x.2.2.2.2=List.map toB y.2.2.2.2))] (qcd x y)) (false=false/\Q [.bool false] (qcd x y))) (false=false/\false=false/\Q [.bool false] (qcd x y))) (false=false/\false=false/\false=false/\Q [.bool false] (qcd x y))) (false=false/\false=false/\false=false/\false=false/\Q [.bool false] (qcd x y))):=by kernel_rfl
theorem q13 {l:List Int} {i:Nat} (h:i<l.length):gtB l i=l[i]:=gtE (e:=uB) h
theorem qm3 {ct:Ctr} {x:DL ct.args} {rs:List SV} {blk:List (Nat × LB)} {e:Sh} {et:TypeId} {a k:Nat} {z:Int} {xs:List e.D} (h:ct.out x=[.win true e 0 0 xs.length,.i z]) (hr:ct.rows x=[.row et e xs]) (hs:rs=[.win true e a 0 k,.i z]) (hk:k=xs.length) (hb:lk blk a=some (.row et e xs)):QC ct x rs blk:=by
 subst hs;subst hk;refine ⟨λ i=>if i=0 then some a else none,?_,?_,λ i j b h1 h2=>?_,by rw[hr];rfl⟩
 ·rw[h];exact ⟨_,_,rfl,.inl ⟨true,a,rfl,rfl,λ h=>h⟩,_,_,rfl,rfl,rfl⟩
 ·rw[hr];exact ⟨.inl ⟨a,rfl,hb⟩,trivial⟩
 ·simp only at h1 h2;split at h1
  ·split at h2
   ·omega
   ·cases h2
  ·cases h1
theorem qe8 {ct:Ctr} {x:DL ct.args} {rs:List SV} {blk:List (Nat × LB)} {e:Sh} {et:TypeId} {z:Int} (h:ct.out x=[.win true e 0 0 0,.i z]) (hr:ct.rows x=[.row et e []]) (hs:rs=[.nils,.i z]) (he:0<e.size):QC ct x rs blk:=by
 subst hs;refine ⟨λ _=>none,?_,?_,λ i j b h1 h2=>?_,by rw[hr];rfl⟩
 ·rw[h];exact ⟨_,_,rfl,.inr ⟨rfl,rfl,rfl,rfl⟩,_,_,rfl,rfl,rfl⟩
 ·rw[hr];exact ⟨.inr ⟨rfl,_,_,rfl,he⟩,trivial⟩
 ·simp at h1
def soB (x y:OpT):Bool:=decide (x.1=y.1)&&(decide (x.2.1=y.2.1)&&(decide (x.2.2.1=y.2.2.1)&&(decide (x.2.2.2.1=y.2.2.2.1)&&decide (x.2.2.2.2.map toB=y.2.2.2.2.map toB))))
def ctSO:Ctr:=⟨[opS,opS],λ _=>True,λ x=>[.bool (soB x.1 x.2.1)],λ _=>[]⟩
theorem q3w:Held Tryd.prog G0 35 ctSO:=by
 refine Held.run cx0 (fn:=Tryd.f35) rfl rfl ⟨by decide,by decide⟩ ?_;rintro ⟨x,y,⟨⟩⟩ _;refine (qt1 x y _ _).mpr ?_
 cases e1:decide (x.1=y.1) <;> cases e2:decide (x.2.1=y.2.1) <;> cases e3:decide (x.2.2.1=y.2.2.1) <;> cases e4:decide (x.2.2.2.1=y.2.2.2.1) <;>
  simp only[bc_t,bc_f,cond_true,cond_false,true_and] <;> exact QC.flat (by simp only[ctSO,soB,e1,e2,e3,e4];rfl) rfl rfl
def ofV (l:List SyT) (m:Int):PaT × Int:=if szB m=true/\szB l.length=true/\l.all (sOK m)=true then (if 4096<(opsL l).length then ((false,0,0,[]),2) else ((false,m,l.length,opsL l),0)) else ((false,0,0,[]),60)
def paV (p:PaT):SV:=.agg [.bool p.1,.i p.2.1,.i p.2.2.1,.sl opS p.2.2.2]
def lenS (l:List OpT):Int:=(l.map λ x=>x.2.2.1).sum
theorem q2h {m N:Int}:∀ {l:List OpT} {left i:Int},(chkF m N l left i).2=0->0<=left->(∀ x∈l,isRB x m=true)/\lenS l=left
 | [],left,i,h,h0=>by
  refine ⟨λ x hx=>by simp at hx,?_⟩;simp only[chkF] at h;split at h
  ·cases h
  ·show (0:Int)=left;omega
 | x::l,left,i,h,h0=>by
  simp only[chkF] at h;split at h
  ·cases h
  next h1=>
   split at h
   ·cases h
   next h2=>
    have hr:isRB x m=true:=by simpa using h1
    have hx:=qf7 hr;obtain ⟨k1,k2⟩:=q2h h (by omega);refine ⟨λ y hy=>?_,?_⟩
    ·rcases List.mem_cons.1 hy with rfl | hy
     ·exact hr
     ·exact k1 y hy
    ·simp only[lenS,List.map_cons,List.sum_cons] at k2 |-;omega
theorem qhs {x:OpT} {m:Int} (h:isRB x m=true):(x.1=1\/x.1=2\/x.1=3\/x.1=4)/\(cntO x.1.toNat x:Int)=x.2.2.1:=by
 have hl:=qf7 h;unfold isRB kR at h;simp only[Bool.and_eq_true,decide_eq_true_eq] at h;obtain ⟨_,_,h⟩:=h;obtain ⟨k,f,n,b,d⟩:=x;simp only at h hl |-;split at h
 next e=>subst e;exact ⟨.inl rfl,by show (n.toNat:Int)=n;omega⟩
 ·split at h
  next e=>subst e;simp only[rB,Bool.and_eq_true,decide_eq_true_eq] at h;exact ⟨.inr (.inl rfl),h.2.2⟩
  ·split at h
   next e=>subst e;exact ⟨.inr (.inr (.inl rfl)),by show (n.toNat:Int)=n;omega⟩
   ·split at h
    next e=>subst e;simp only[rB,Bool.and_eq_true,decide_eq_true_eq] at h;exact ⟨.inr (.inr (.inr rfl)),h.2.2⟩
    ·cases h
theorem qko (x:OpT) (l:List OpT):lenS (x::l)=x.2.2.1+lenS l:=by simp only[lenS,List.map_cons,List.sum_cons]
theorem qjq {m:Int}:∀ {l:List OpT},(∀ x∈l,isRB x m=true)->0<=lenS l
 | [],_=>Int.le_refl 0
 | x::l,h=>by
  have h1:=qf7 (h x (by simp));have h2:=qjq (l:=l) λ y hy=>h y (by simp[hy])
  simp only[lenS,List.map_cons,List.sum_cons] at h2 |-;omega
def symF:List OpT->List SyT
 | []=>[]
 | x::l=>qa8 x.1.toNat x++symF l
def symV (p:PaT):List SyT × Int:=if (chkV p).2=0 then (symF p.2.2.2,0) else ([],(chkV p).2)
def ctSym:Ctr:=⟨[paS],λ _=>True,λ x=>[.win true syS 0 0 (symV x.1).1.length,.i (symV x.1).2],λ x=>[.row 82 syS (symV x.1).1]⟩
abbrev SQ (p:PaT):List SV->List (Nat × LB)->Prop:=QC ctSym (p,())
theorem qg0 {p:PaT} (h:(chkV p).2=0):(∀ x∈p.2.2.2,isRB x p.2.1=true)/\lenS p.2.2.2=p.2.2.1/\(0<=p.2.2.1/\p.2.2.1<=65536)/\p.2.2.2.length<=4096:=by
 unfold chkV at h;split at h
 next hg=>
  have hs:0<=p.2.2.1/\p.2.2.1<=65536:=by
   have:=hg.2.1;unfold szB at this;simpa only[Bool.and_eq_true,decide_eq_true_eq] using this
  obtain ⟨h1,h2⟩:=q2h h hs.1;exact ⟨h1,h2,hs,hg.2.2⟩
 ·cases h
theorem qye (li:Bool) (m o:Int) (l:List OpT) (hc:(chkV (li,m,o,l)).2=0):∀ (k i:Nat) (s:List SyT),l.length-i=k->i<=l.length->(s.length:Int)+lenS (l.drop i)<=65536->s++symF (l.drop i)=symF l ->
  GD 37 Tryd.f37 (SQ (li,m,o,l)) (hd Tryd.f37 0) ⟨[(1,.ptr 1 0),(6,.win true syS 19 0 s.length),(21,.sl opS l),(22,.i l.length),(23,.i (i:Nat))],[(1,.var [.bool li,.i m,.i o,.sl opS l]),(19,.row 82 syS s)]⟩:=by
 obtain ⟨hr,hsum,hob,hlen⟩:=qg0 hc;simp only at hr hsum hob hlen;intro k
 induction k with
 | zero=>
  intro i s hk hi hb hs;have hi:i=l.length:=by omega
  subst hi;refine qai ex1 _ _ _ ((qn0 li m o l s _ _ _).mpr ?_);rw[decide_eq_false (by omega),bc_f];rw[List.drop_length,symF,List.append_nil] at hs;have hv:symV (li,m,o,l)=(s,0):=by unfold symV;rw[if_pos hc,hs]
  refine qm3 (e:=syS) (et:=82) (a:=19) (z:=0) (xs:=s) ?_ ?_ rfl rfl rfl
  ·show [_,_]=_;rw[hv]
  ·show [_]=_;rw[hv]
 | succ k ih=>
  intro i s hk hi hb hs;have hil:i<l.length:=by omega
  have hx:=hr l[i] (List.getElem_mem hil);have hk2:=qhs hx;have hl2:=qf7 hx;rw[qln hil] at hb hs;rw[qko] at hb;have hb2:(s.length:Int)+(l[i].2.2.1+lenS (l.drop (i+1)))<=65536:=hb;have hpos:0<=lenS (l.drop (i+1)):=qjq λ y hy=>hr y (List.mem_of_mem_drop hy)
  have hcl:(qa8 l[i].1.toNat l[i]).length=cntO l[i].1.toNat l[i]:=by unfold qa8;exact qni _ _ _
  have hpre:preA l[i].1.toNat l[i] s:=⟨by omega,by omega,by omega⟩;have nx:GD 37 Tryd.f37 (SQ (li,m,o,l)) (hd Tryd.f37 0) ⟨[(1,.ptr 1 0),(6,.win true syS 19 0 (s++qa8 l[i].1.toNat l[i]).length),(21,.sl opS l),(22,.i l.length),(23,.i ((i+1:Nat):Int))],[(1,.var [.bool li,.i m,.i o,.sl opS l]),(19,.row 82 syS (s++qa8 l[i].1.toNat l[i]))]⟩:=
   ih (i+1) _ (by omega) (by omega) (by rw[List.length_append];omega) (by rw[List.append_assoc];exact hs)
  have wi:IntKind.i64.wrap ((i:Int)+1)=((i+1:Nat):Int):=by rw[IntWalk.i64_in _ (by omega)];omega
  rcases hk2.1 with e | e | e | e
  ·rw[e] at hpre nx;refine qai ex1 _ _ _ ((qn0 li m o l s i _ _).mpr ?_);rw[decide_eq_true (show (i:Int)<(l.length:Int) by omega),bc_t,Int.toNat_natCast,qku hil,wi];exact ⟨by omega,by omega,e,rfl,hpre,nx.onlyR [(19,1122880)] rfl ⟨rfl,rfl,rfl,rfl,rfl,trivial⟩ ⟨rfl,rfl,trivial⟩⟩
  ·rw[e] at hpre nx;refine qai ex2 _ _ _ ((qtz li m o l s i _ _).mpr ?_);rw[decide_eq_true (show (i:Int)<(l.length:Int) by omega),bc_t,Int.toNat_natCast,qku hil,wi];exact ⟨by omega,by omega,e,rfl,hpre,nx.onlyR [(19,1122880)] rfl ⟨rfl,rfl,rfl,rfl,rfl,trivial⟩ ⟨rfl,rfl,trivial⟩⟩
  ·rw[e] at hpre nx;refine qai ex3 _ _ _ ((qty li m o l s i _ _).mpr ?_);rw[decide_eq_true (show (i:Int)<(l.length:Int) by omega),bc_t,Int.toNat_natCast,qku hil,wi];exact ⟨by omega,by omega,e,rfl,hpre,nx.onlyR [(19,1122880)] rfl ⟨rfl,rfl,rfl,rfl,rfl,trivial⟩ ⟨rfl,rfl,trivial⟩⟩
  ·rw[e] at hpre nx;refine qai ex4 _ _ _ ((qtx li m o l s i _ _).mpr ?_);rw[decide_eq_true (show (i:Int)<(l.length:Int) by omega),bc_t,Int.toNat_natCast,qku hil,wi];exact ⟨by omega,by omega,e,rfl,hpre,nx.onlyR [(19,1122880)] rfl ⟨rfl,rfl,rfl,rfl,rfl,trivial⟩ ⟨rfl,rfl,trivial⟩⟩
theorem sym_held:Held Tryd.prog G0 37 ctSym:=by
 refine Held.run cxA (fn:=Tryd.f37) rfl rfl ⟨by decide,by decide⟩ ?_;rintro ⟨⟨li,m,o,l⟩,⟨⟩⟩ _;refine (q2r li m o l _ _).mpr ⟨trivial,qag (λ h=>?_) (λ h=>?_)⟩
 ·have h:(chkV (li,m,o,l)).2≠0:=of_decide_eq_true h;have hv:symV (li,m,o,l)=([],(chkV (li,m,o,l)).2):=by unfold symV;rw[if_neg h]
  refine qe8 (e:=syS) (et:=82) (z:=(chkV (li,m,o,l)).2) ?_ ?_ rfl (by decide)
  ·show [_,_]=_;rw[hv];rfl
  ·show [_]=_;rw[hv]
 ·have h:¬ (chkV (li,m,o,l)).2≠0:=of_decide_eq_false h;have h:(chkV (li,m,o,l)).2=0:=by simpa using h
  obtain ⟨hr,hsum,hob,hlen⟩:=qg0 h;simp only at hr hsum hob hlen;refine ⟨Int.le_refl 0,hob.1,?_,?_,?_⟩
  ·exact Int.lt_of_le_of_lt hob.2 (by decide)
  ·exact Int.le_trans (Int.mul_le_mul_of_nonneg_left hob.2 (by decide)) (by decide)
  ·exact (qye li m o l h _ 0 [] rfl (by omega) (by rw[List.drop_zero,hsum];simpa using hob.2) rfl).only ⟨rfl,rfl,rfl,rfl,rfl,trivial⟩ ⟨rfl,rfl,trivial⟩
def CS:CV:=[(35,.inl ctSO)]
theorem cxS:CxOK Tryd.prog tt G0 CS:=cx0.k q3w (fn:=Tryd.f35)
set_option maxRecDepth 100000
def qep (li li2:Bool) (m o m2 o2:Int) (l l2:List OpT):List (Nat × LB):=[(2,.var [.bool li,.i m,.i o,.sl opS l]),(3,.var [.bool li2,.i m2,.i o2,.sl opS l2])]
theorem q2t (li li2:Bool) (m o m2 o2:Int) (l l2:List OpT) (Q:QT) (R:RT):sA CS Tryd.f16 Q R [.code (qae Tryd.f16)] (entry [paS,paS] ((li,m,o,l),(li2,m2,o2,l2),())) =
  (bc (!li == li2) (true=true/\true=true/\true=true/\Q [.bool false] (qep li li2 m o m2 o2 l l2)) (bc (bif false then true else decide (m≠m2)) (true=true/\true=true/\Q [.bool false] (qep li li2 m o m2 o2 l l2)) (bc (bif false then true else decide (o≠o2)) (true=true/\Q [.bool false] (qep li li2 m o m2 o2 l l2)) (bc (bif false then true else decide ((l.length:Int)≠(l2.length:Int))) (Q [.bool false] (qep li li2 m o m2 o2 l l2)) (R (hd Tryd.f16 0) { env:=[(0,.agg [.bool li,.i m,.i o,.sl opS l]),(1,.agg [.bool li2,.i m2,.i o2,.sl opS l2]),(2,.ptr 2 0),(3,.ptr 3 0),(4,.bool false),(5,.i 0),(6,.ptr 2 0),(7,.bool li),(8,.ptr 3 0),(9,.bool li2),(10,.bool !li == li2),(11,.bool false),(12,.ptr 2 1),(13,.i m),(14,.ptr 3 1),(15,.i m2),(16,.bool (decide (m≠m2))),(17,.bool (bif false then true else decide (m≠m2))),(18,.bool false),(19,.ptr 2 2),(20,.i o),(21,.ptr 3 2),(22,.i o2),(23,.bool (decide (o≠o2))),(24,.bool (bif false then true else decide (o≠o2))),(25,.bool false),(26,.ptr 2 3),(27,.sl opS l),(28,.i (l.length:Int)),(29,.ptr 3 3),(30,.sl opS l2),(31,.i (l2.length:Int)),(32,.bool (decide ((l.length:Int)≠(l2.length:Int)))),(33,.bool (bif false then true else decide ((l.length:Int)≠(l2.length:Int))))],blk:=[(2,.var [.bool li,.i m,.i o,.sl opS l]),(3,.var [.bool li2,.i m2,.i o2,.sl opS l2])] }))))):=by kernel_rfl
def qiy (li li2:Bool) (m o m2 o2:Int) (l l2:List OpT):List (Nat × LB):=[(2,.var [.bool li,.i m,.i o,.sl opS l]),(3,.var [.bool li2,.i m2,.i o2,.sl opS l2])]
theorem qqv (li li2:Bool) (m o m2 o2:Int) (l l2:List OpT) (i:Nat) (Q:QT) (R:RT):sA CS Tryd.f16 Q R (hd Tryd.f16 0) ⟨[(2,.ptr 2 0),(3,.ptr 3 0),(5,.i (i:Nat))],[(2,.var [.bool li,.i m,.i o,.sl opS l]),(3,.var [.bool li2,.i m2,.i o2,.sl opS l2])]⟩ =
  (bc (decide ((i:Int)<(l.length:Int))) ((0:Int)<=(i:Int)/\(i:Int)<(l.length:Int)/\(0:Int)<=(i:Int)/\(i:Int)<(l2.length:Int)/\ctSO.pre ((gtO l (i:Int).toNat),(gtO l2 (i:Int).toNat),())/\bc (!soB (gtO l (i:Int).toNat) (gtO l2 (i:Int).toNat)) (Q [.bool false] (qiy li li2 m o m2 o2 l l2)) (R (hd Tryd.f16 0) { env:=[(2,.ptr 2 0),(3,.ptr 3 0),(5,.i (IntKind.i64.wrap ((i:Int)+1))),(34,.i (i:Int)),(35,.ptr 2 3),(36,.sl opS l),(37,.i (l.length:Int)),(38,.bool (decide ((i:Int)<(l.length:Int)))),(39,.i (i:Int)),(40,.i (IntKind.i64.wrap ((i:Int)+1))),(41,.ptr 2 3),(42,.sl opS l),(43,.i (i:Int)),(44,.elv opS (gtO l (i:Int).toNat)),(45,.agg (oI (gtO l (i:Int).toNat))),(46,.ptr 3 3),(47,.sl opS l2),(48,.i (i:Int)),(49,.elv opS (gtO l2 (i:Int).toNat)),(50,.agg (oI (gtO l2 (i:Int).toNat))),(51,.bool (soB (gtO l (i:Int).toNat) (gtO l2 (i:Int).toNat))),(52,.bool !soB (gtO l (i:Int).toNat) (gtO l2 (i:Int).toNat))],blk:=[(2,.var [.bool li,.i m,.i o,.sl opS l]),(3,.var [.bool li2,.i m2,.i o2,.sl opS l2])] })) (Q [.bool true] (qiy li li2 m o m2 o2 l l2))):=by kernel_rfl
theorem qmq {m:Int}:∀ {l:List OpT},(∀ x∈l,isRB x m=true)->((symF l).length:Int)=lenS l
 | [],_=>rfl
 | x::l,h=>by
  have h1:=qhs (h x (by simp));have h2:=qmq (l:=l) λ y hy=>h y (by simp[hy])
  have hcl:(qa8 x.1.toNat x).length=cntO x.1.toNat x:=by unfold qa8;exact qni _ _ _
  rw[qko,symF,List.length_append,hcl];omega
def smL:List OpT->List OpT->Bool
 | [],[]=>true
 | x::l,y::m=>soB x y&&smL l m
 | _,_=>false
def smB (p q:PaT):Bool:=(p.1 == q.1)&&(decide (p.2.1=q.2.1)&&(decide (p.2.2.1=q.2.2.1)&&(decide (p.2.2.2.length=q.2.2.2.length)&&smL p.2.2.2 q.2.2.2)))
def ctSm:Ctr:=⟨[paS,paS],λ x=>List.length x.1.2.2.2<1099511627776,λ x=>[.bool (smB x.1 x.2.1)],λ _=>[]⟩
theorem q3x (li li2:Bool) (m o m2 o2:Int) (l l2:List OpT) (hl:l.length<1099511627776) (he:l.length=l2.length):∀ (k i:Nat),l.length-i=k->i<=l.length ->
  GD 16 Tryd.f16 (λ rs _=>rs=[.bool (smL (l.drop i) (l2.drop i))]) (hd Tryd.f16 0) ⟨[(2,.ptr 2 0),(3,.ptr 3 0),(5,.i (i:Nat))],[(2,.var [.bool li,.i m,.i o,.sl opS l]),(3,.var [.bool li2,.i m2,.i o2,.sl opS l2])]⟩:=by
 intro k
 induction k with
 | zero=>
  intro i hk hi;have hi:i=l.length:=by omega
  subst hi;refine qai cxS _ _ _ ((qqv li li2 m o m2 o2 l l2 _ _ _).mpr ?_);rw[decide_eq_false (by omega),bc_f,List.drop_length,he,List.drop_length];rfl
 | succ k ih=>
  intro i hk hi;have hx:i<l.length:=by omega
  have hy:i<l2.length:=by omega
  refine qai cxS _ _ _ ((qqv li li2 m o m2 o2 l l2 i _ _).mpr ?_);rw[decide_eq_true (show (i:Int)<(l.length:Int) by omega),bc_t,Int.toNat_natCast,qku hx,qku hy,IntWalk.i64_in ((i:Int)+1) (by omega),qln hx,qln hy,smL];refine ⟨by omega,by omega,by omega,by omega,trivial,qag (λ h=>?_) (λ h=>?_)⟩
  ·have h:soB l[i] l2[i]=false:=by simpa using h
   rw[h];rfl
  ·have h:soB l[i] l2[i]=true:=by simpa using h
   rw[h];exact (ih (i+1) (by omega) (by omega)).only ⟨rfl,rfl,rfl,trivial⟩ ⟨rfl,rfl,trivial⟩
theorem qpn:Held Tryd.prog G0 16 ctSm:=by
 refine Held.run cxS (fn:=Tryd.f16) rfl rfl ⟨by decide,by decide⟩ ?_;rintro ⟨⟨li,m,o,l⟩,⟨li2,m2,o2,l2⟩,⟨⟩⟩ hp;replace hp:l.length<1099511627776:=hp;refine (q2t li li2 m o m2 o2 l l2 _ _).mpr ?_
 cases e0:(li == li2)
 ·exact ⟨rfl,rfl,rfl,QC.flat (by show [SV.bool (smB _ _)]=_;simp only[smB,e0];rfl) rfl rfl⟩
 ·rw[Bool.not_true,bc_f];refine qag (λ h=>⟨rfl,rfl,?_⟩) (λ h=>qag (λ h2=>⟨rfl,?_⟩) (λ h2=>qag (λ h3=>?_) (λ h3=>?_)))
  ·have h:m≠m2:=of_decide_eq_true h;exact QC.flat (by show [SV.bool (smB _ _)]=_;simp only[smB,e0,decide_eq_false h];rfl) rfl rfl
  ·have h2:o≠o2:=of_decide_eq_true h2;exact QC.flat (by show [SV.bool (smB _ _)]=_;simp only[smB,e0,decide_eq_false h2,Bool.false_and,Bool.and_false]) rfl rfl
  ·have h3:(l.length:Int)≠l2.length:=of_decide_eq_true h3;have h3:¬ l.length=l2.length:=by omega
   exact QC.flat (by show [SV.bool (smB _ _)]=_;simp only[smB,e0,decide_eq_false h3,Bool.false_and,Bool.and_false]) rfl rfl
  ·have h:m=m2:=by
    have h:¬ m≠m2:=of_decide_eq_false h;simpa using h
   have h2:o=o2:=by
    have h2:¬ o≠o2:=of_decide_eq_false h2;simpa using h2
   have h3:l.length=l2.length:=by
    have h3:¬ (l.length:Int)≠l2.length:=of_decide_eq_false h3;omega
   refine ((q3x li li2 m o m2 o2 l l2 hp h3 _ 0 rfl (by omega)).post λ rs blk hq=>QC.flat ?_ rfl (by rw[hq];rfl)).only ⟨rfl,rfl,rfl,trivial⟩ ⟨rfl,rfl,trivial⟩;rw[hq]
   show [SV.bool (smB _ _)]=_
   simp only[smB,e0,decide_eq_true h,decide_eq_true h2,decide_eq_true h3,Bool.true_and];rfl
theorem q1q {ct:Ctr} {x:DL ct.args} {rs:List SV} {blk:List (Nat × LB)} {e:Sh} {et:TypeId} {a k:Nat} {xs:List e.D} (h:ct.out x=[.win true e 0 0 xs.length]) (hr:ct.rows x=[.row et e xs]) (hs:rs=[.win true e a 0 k]) (hk:k=xs.length) (hb:lk blk a=some (.row et e xs)):QC ct x rs blk:=by
 subst hs;subst hk;refine ⟨λ i=>if i=0 then some a else none,?_,?_,λ i j b h1 h2=>?_,by rw[hr];rfl⟩
 ·rw[h];exact ⟨_,_,rfl,.inl ⟨true,a,rfl,rfl,λ h=>h⟩,rfl⟩
 ·rw[hr];exact ⟨.inl ⟨a,rfl,hb⟩,trivial⟩
 ·simp only at h1 h2;split at h1
  ·split at h2
   ·omega
   ·cases h2
  ·cases h1
def inB (x:List Int) (i:Nat):Int:=if i<x.length then gtB x i else IntKind.u8.wrap (IntKind.i64.wrap (7*(i:Int)))
theorem vc_op (x:List Int) (n:Int) (Q:QT) (R:RT):sA [] Tryd.f36 Q (λ it S=>R it (qbx [2,4,5,6] [2,4,5] S)) [.code (qae Tryd.f36)] (entry [.arr 4 uB,iI] (x,n,())) =
  ((0:Int)<=0/\(0:Int)<(↑(4:Nat):Int)/\0<4/\(4:Int)≠0/\(0:Int)<=2/\(2:Int)<(↑(4:Nat):Int)/\2<4/\(5:Int)≠0/\bc (decide (i64.wrap ((1:Int)+(i64.wrap (gtB x (0))).tmod (4:Int))<=2)) (bc (decide (n=(0:Int))) (R (hd Tryd.f36 0) { env:=[(2,.ptr 2 0),(4,.ptr 4 0),(5,.ptr 5 0),(6,.i 0)],blk:=[(2,.var [.arr (4:Nat) uB x]),(4,.var [.i 0,.i 0,.i 0,.u 0,.nils]),(5,.var [.i 4,.i 0,.i (i64.wrap ((1:Int)+(i64.wrap (gtB x (2))).tmod (5:Int))),.u 0,.nils])] }) ((0:Int)<=1/\(1:Int)<(↑(4:Nat):Int)/\1<4/\n≠0/\(0:Int)<=2/\(2:Int)<(↑(4:Nat):Int)/\2<4/\i64.wrap (n-(i64.wrap (gtB x (1))).tmod n)≠0/\(5:Int)≠0/\bc (decide (i64.wrap ((1:Int)+(i64.wrap (gtB x (0))).tmod (4:Int))=(3:Int))) ((0:Int)<=3/\(3:Int)<(↑(4:Nat):Int)/\3<4/\R (hd Tryd.f36 0) { env:=[(2,.ptr 2 0),(4,.ptr 4 0),(5,.ptr 5 0),(6,.i 0)],blk:=[(2,.var [.arr (4:Nat) uB x]),(4,.var [.i 0,.i 0,.i 0,.u 0,.nils]),(5,.var [.i (i64.wrap ((1:Int)+(i64.wrap (gtB x (0))).tmod (4:Int))),.i ((i64.wrap (gtB x (1))).tmod n),.i (i64.wrap ((1:Int)+((i64.wrap (gtB x (2))).tmod (i64.wrap (n-(i64.wrap (gtB x (1))).tmod n))).tmod (5:Int))),.u (gtB x (3)),.nils])] }) (R (hd Tryd.f36 0) { env:=[(2,.ptr 2 0),(4,.ptr 4 0),(5,.ptr 5 0),(6,.i 0)],blk:=[(2,.var [.arr (4:Nat) uB x]),(4,.var [.i 0,.i 0,.i 0,.u 0,.nils]),(5,.var [.i (i64.wrap ((1:Int)+(i64.wrap (gtB x (0))).tmod (4:Int))),.i ((i64.wrap (gtB x (1))).tmod n),.i (i64.wrap ((1:Int)+((i64.wrap (gtB x (2))).tmod (i64.wrap (n-(i64.wrap (gtB x (1))).tmod n))).tmod (5:Int))),.u 0,.nils])] }))) (bc (decide (i64.wrap ((1:Int)+(i64.wrap (gtB x (0))).tmod (4:Int))=(3:Int))) ((0:Int)<=3/\(3:Int)<(↑(4:Nat):Int)/\3<4/\R (hd Tryd.f36 0) { env:=[(2,.ptr 2 0),(4,.ptr 4 0),(5,.ptr 5 0),(6,.i 0)],blk:=[(2,.var [.arr (4:Nat) uB x]),(4,.var [.i 0,.i 0,.i 0,.u 0,.nils]),(5,.var [.i (i64.wrap ((1:Int)+(i64.wrap (gtB x (0))).tmod (4:Int))),.i 0,.i (i64.wrap ((1:Int)+(i64.wrap (gtB x (2))).tmod (5:Int))),.u (gtB x (3)),.nils])] }) (R (hd Tryd.f36 0) { env:=[(2,.ptr 2 0),(4,.ptr 4 0),(5,.ptr 5 0),(6,.i 0)],blk:=[(2,.var [.arr (4:Nat) uB x]),(4,.var [.i 0,.i 0,.i 0,.u 0,.nils]),(5,.var [.i (i64.wrap ((1:Int)+(i64.wrap (gtB x (0))).tmod (4:Int))),.i 0,.i (i64.wrap ((1:Int)+(i64.wrap (gtB x (2))).tmod (5:Int))),.u 0,.nils])] }))):=by kernel_rfl
def ql3 (x:List Int) (k a n b:Int):List (Nat × LB):=[(2,.var [.arr (4:Nat) uB x]),(4,.var [.i k,.i a,.i n,.u b,.nils]),(5,.var [.i k,.i a,.i n,.u b,.nils])]
theorem q6h (x:List Int) (k a n b:Int) (i:Nat) (Q:QT) (R:RT):sA [] Tryd.f36 Q (λ it S=>R it (qbx [2,4,5,6] [2,4,5,76] S)) (hd Tryd.f36 0) ⟨[(2,.ptr 2 0),(4,.ptr 4 0),(5,.ptr 5 0),(6,.i (i:Nat))],[(2,.var [.arr 4 uB x]),(4,.var [.i 0,.i 0,.i 0,.u 0,.nils]),(5,.var [.i k,.i a,.i n,.u b,.nils])]⟩ =
  (bc (decide ((i:Int)<n)) (bc (decide (k=(2:Int))) (true=true/\(0:Int)<=3/\(3:Int)<(↑(4:Nat):Int)/\3<4/\(0:Int)<=0/\(0:Int)<(↑(4:Nat):Int)/\0<4/\(4:Int)≠0/\(0:Nat)+1<=([(u8.wrap (gtB x (3)*u8.wrap (i64.wrap ((i:Int)+i64.wrap ((i64.wrap (gtB x (0))).tdiv (4:Int))))))]:List uB.D).length/\(([(u8.wrap (gtB x (3)*u8.wrap (i64.wrap ((i:Int)+i64.wrap ((i64.wrap (gtB x (0))).tdiv (4:Int))))))]:List uB.D)).length<2 ^ 30/\(1:Nat)<=2 ^ 10/\R (hd Tryd.f36 0) { env:=[(2,.ptr 2 0),(4,.ptr 4 0),(5,.ptr 5 0),(6,.i (i64.wrap ((i:Int)+1)))],blk:=[(2,.var [.arr (4:Nat) uB x]),(4,.var [.i 0,.i 0,.i 0,.u 0,.nils]),(5,.var [.i k,.i a,.i n,.u b,.win true uB 76 0 (1:Nat)]),(76,.row 5 uB (([(u8.wrap (gtB x (3)*u8.wrap (i64.wrap ((i:Int)+i64.wrap ((i64.wrap (gtB x (0))).tdiv (4:Int))))))]:List uB.D)))] }) (bc (decide (k=(4:Int))) ((0:Int)<=3/\(3:Int)<(↑(4:Nat):Int)/\3<4/\(0:Int)<=0/\(0:Int)<(↑(4:Nat):Int)/\0<4/\(4:Int)≠0/\(0:Nat)+1<=([(u8.wrap (gtB x (3)*u8.wrap (i64.wrap ((i:Int)+i64.wrap ((i64.wrap (gtB x (0))).tdiv (4:Int))))))]:List uB.D).length/\(([(u8.wrap (gtB x (3)*u8.wrap (i64.wrap ((i:Int)+i64.wrap ((i64.wrap (gtB x (0))).tdiv (4:Int))))))]:List uB.D)).length<2 ^ 30/\(1:Nat)<=2 ^ 10/\R (hd Tryd.f36 0) { env:=[(2,.ptr 2 0),(4,.ptr 4 0),(5,.ptr 5 0),(6,.i (i64.wrap ((i:Int)+1)))],blk:=[(2,.var [.arr (4:Nat) uB x]),(4,.var [.i 0,.i 0,.i 0,.u 0,.nils]),(5,.var [.i k,.i a,.i n,.u b,.win true uB 76 0 (1:Nat)]),(76,.row 5 uB (([(u8.wrap (gtB x (3)*u8.wrap (i64.wrap ((i:Int)+i64.wrap ((i64.wrap (gtB x (0))).tdiv (4:Int))))))]:List uB.D)))] }) (Q [.agg [.i k,.i a,.i n,.u b,.nils]] (ql3 x k a n b)))) (false=false/\Q [.agg [.i k,.i a,.i n,.u b,.nils]] (ql3 x k a n b))):=by kernel_rfl
def ql2 (x d:List Int) (k a n b:Int):List (Nat × LB):=[(2,.var [.arr (4:Nat) uB x]),(4,.var [.i k,.i a,.i n,.u b,.win true uB 76 0 d.length]),(5,.var [.i k,.i a,.i n,.u b,.win true uB 76 0 d.length]),(76,.row 5 uB d)]
theorem q6g (x d:List Int) (k a n b:Int) (i:Nat) (Q:QT) (R:RT):sA [] Tryd.f36 Q (λ it S=>R it (qbx [2,4,5,6] [2,4,5,76] S)) (hd Tryd.f36 0) ⟨[(2,.ptr 2 0),(4,.ptr 4 0),(5,.ptr 5 0),(6,.i (i:Nat))],[(2,.var [.arr 4 uB x]),(4,.var [.i 0,.i 0,.i 0,.u 0,.nils]),(5,.var [.i k,.i a,.i n,.u b,.win true uB 76 0 d.length]),(76,.row 5 uB d)]⟩ =
  (bc (decide ((i:Int)<n)) (bc (decide (k=(2:Int))) (true=true/\(0:Int)<=3/\(3:Int)<(↑(4:Nat):Int)/\3<4/\(0:Int)<=0/\(0:Int)<(↑(4:Nat):Int)/\0<4/\(4:Int)≠0/\(0:Nat)+1<=([(u8.wrap (gtB x (3)*u8.wrap (i64.wrap ((i:Int)+i64.wrap ((i64.wrap (gtB x (0))).tdiv (4:Int))))))]:List uB.D).length/\d.length=d.length/\(0:Nat)=(0:Nat)/\d.length+(([(u8.wrap (gtB x (3)*u8.wrap (i64.wrap ((i:Int)+i64.wrap ((i64.wrap (gtB x (0))).tdiv (4:Int))))))]:List uB.D)).length<2 ^ 30/\(1:Nat)<=2 ^ 10/\R (hd Tryd.f36 0) { env:=[(2,.ptr 2 0),(4,.ptr 4 0),(5,.ptr 5 0),(6,.i (i64.wrap ((i:Int)+1)))],blk:=[(2,.var [.arr (4:Nat) uB x]),(4,.var [.i 0,.i 0,.i 0,.u 0,.nils]),(5,.var [.i k,.i a,.i n,.u b,.win true uB 76 0 (d.length+(([(u8.wrap (gtB x (3)*u8.wrap (i64.wrap ((i:Int)+i64.wrap ((i64.wrap (gtB x (0))).tdiv (4:Int))))))]:List uB.D)).length)]),(76,.row 5 uB (d++([(u8.wrap (gtB x (3)*u8.wrap (i64.wrap ((i:Int)+i64.wrap ((i64.wrap (gtB x (0))).tdiv (4:Int))))))]:List uB.D)))] }) (bc (decide (k=(4:Int))) ((0:Int)<=3/\(3:Int)<(↑(4:Nat):Int)/\3<4/\(0:Int)<=0/\(0:Int)<(↑(4:Nat):Int)/\0<4/\(4:Int)≠0/\(0:Nat)+1<=([(u8.wrap (gtB x (3)*u8.wrap (i64.wrap ((i:Int)+i64.wrap ((i64.wrap (gtB x (0))).tdiv (4:Int))))))]:List uB.D).length/\d.length=d.length/\(0:Nat)=(0:Nat)/\d.length+(([(u8.wrap (gtB x (3)*u8.wrap (i64.wrap ((i:Int)+i64.wrap ((i64.wrap (gtB x (0))).tdiv (4:Int))))))]:List uB.D)).length<2 ^ 30/\(1:Nat)<=2 ^ 10/\R (hd Tryd.f36 0) { env:=[(2,.ptr 2 0),(4,.ptr 4 0),(5,.ptr 5 0),(6,.i (i64.wrap ((i:Int)+1)))],blk:=[(2,.var [.arr (4:Nat) uB x]),(4,.var [.i 0,.i 0,.i 0,.u 0,.nils]),(5,.var [.i k,.i a,.i n,.u b,.win true uB 76 0 (d.length+(([(u8.wrap (gtB x (3)*u8.wrap (i64.wrap ((i:Int)+i64.wrap ((i64.wrap (gtB x (0))).tdiv (4:Int))))))]:List uB.D)).length)]),(76,.row 5 uB (d++([(u8.wrap (gtB x (3)*u8.wrap (i64.wrap ((i:Int)+i64.wrap ((i64.wrap (gtB x (0))).tdiv (4:Int))))))]:List uB.D)))] }) (Q [.agg [.i k,.i a,.i n,.u b,.win true uB 76 0 d.length]] (ql2 x d k a n b)))) (false=false/\Q [.agg [.i k,.i a,.i n,.u b,.win true uB 76 0 d.length]] (ql2 x d k a n b))):=by kernel_rfl
def ql1 (x d:List Int) (k a n b:Int):List (Nat × LB):=[(2,.var [.arr (4:Nat) uB x]),(4,.var [.i k,.i a,.i n,.u b,.sl uB d]),(5,.var [.i k,.i a,.i n,.u b,.sl uB d])]
theorem q6f (x d:List Int) (k a n b:Int) (i:Nat) (Q:QT) (R:RT):sA [] Tryd.f36 Q (λ it S=>R it (qbx [2,4,5,6] [2,4,5,76] S)) (hd Tryd.f36 0) ⟨[(2,.ptr 2 0),(4,.ptr 4 0),(5,.ptr 5 0),(6,.i (i:Nat))],[(2,.var [.arr 4 uB x]),(4,.var [.i 0,.i 0,.i 0,.u 0,.nils]),(5,.var [.i k,.i a,.i n,.u b,.sl uB d])]⟩ =
  (bc (decide ((i:Int)<n)) (bc (decide (k=(2:Int))) (true=true/\(0:Int)<=3/\(3:Int)<(↑(4:Nat):Int)/\3<4/\(0:Int)<=0/\(0:Int)<(↑(4:Nat):Int)/\0<4/\(4:Int)≠0/\False) (bc (decide (k=(4:Int))) ((0:Int)<=3/\(3:Int)<(↑(4:Nat):Int)/\3<4/\(0:Int)<=0/\(0:Int)<(↑(4:Nat):Int)/\0<4/\(4:Int)≠0/\False) (Q [.agg [.i k,.i a,.i n,.u b,.sl uB d]] (ql1 x d k a n b)))) (false=false/\Q [.agg [.i k,.i a,.i n,.u b,.sl uB d]] (ql1 x d k a n b))):=by kernel_rfl
def elA (x:List Int) (i:Nat):Int:=u8.wrap (gtB x 3*u8.wrap (i64.wrap ((i:Int)+i64.wrap ((i64.wrap (gtB x 0)).tdiv 4))))
def datA (x:List Int) (n:Nat):List Int:=(List.range n).map (elA x)
theorem qns (x:List Int) (n:Nat):(datA x n).length=n:=by simp[datA]
theorem qw6 (x:List Int) (i:Nat):datA x (i+1)=datA x i++[elA x i]:=by simp[datA,List.range_succ]
def datO (x:List Int) (k n:Int):List Int:=if k=2\/k=4 then datA x n.toNat else []
def opV (x:List Int) (n:Int):OpT:=
 if 1+(gtB x 0).tmod 4<=2 then
  if n=0 then (4,0,1+(gtB x 2).tmod 5,0,datO x 4 (1+(gtB x 2).tmod 5))
  else (1+(gtB x 0).tmod 4,(gtB x 1).tmod n,1+((gtB x 2).tmod (n-(gtB x 1).tmod n)).tmod 5,0,datO x (1+(gtB x 0).tmod 4) (1+((gtB x 2).tmod (n-(gtB x 1).tmod n)).tmod 5))
 else (1+(gtB x 0).tmod 4,0,1+(gtB x 2).tmod 5,if 1+(gtB x 0).tmod 4=3 then gtB x 3 else 0,datO x (1+(gtB x 0).tmod 4) (1+(gtB x 2).tmod 5))
def qsy (x:List Int):Prop:=∀ j,0<=gtB x j/\gtB x j<256
def preN (n:Int):Prop:=0<=n/\n<16777216
def ctOp:Ctr:=⟨[.arr 4 uB,iI],λ x=>qsy x.1/\preN x.2.1,λ x=>mdV (opV x.1 x.2.1),λ _=>[]⟩
abbrev OpQ (o:OpT):List SV->List (Nat × LB)->Prop:=λ rs _=>MtL (λ _=>none) (mdV o) rs
theorem qy8 (x:List Int) (k a b:Int) (n:Nat) (hn:n<16777216) (hk:k=2\/k=4):∀ (m i:Nat),n-i=m->i<=n ->
  GD 36 Tryd.f36 (OpQ (k,a,n,b,datA x n)) (hd Tryd.f36 0) ⟨[(2,.ptr 2 0),(4,.ptr 4 0),(5,.ptr 5 0),(6,.i (i:Nat))],[(2,.var [.arr 4 uB x]),(4,.var [.i 0,.i 0,.i 0,.u 0,.nils]),(5,.var [.i k,.i a,.i (n:Nat),.u b,.win true uB 76 0 (datA x i).length]),(76,.row 5 uB (datA x i))]⟩:=by
 intro m
 induction m with
 | zero=>
  intro i hm hi;have hi:i=n:=by omega
  subst hi;refine Good.frz (i:=76) (e:=uB) (et:=5) (xs:=datA x i) rfl (λ c hc=>?_) ?_
  ·have hc:c∈[0+(datA x i).length<=(datA x i).length]:=hc;rw[List.mem_singleton] at hc;subst hc;omega
  ·have e:GD 36 Tryd.f36 (OpQ (k,a,i,b,datA x i)) (hd Tryd.f36 0) ⟨[(2,.ptr 2 0),(4,.ptr 4 0),(5,.ptr 5 0),(6,.i (i:Nat))],[(2,.var [.arr 4 uB x]),(4,.var [.i 0,.i 0,.i 0,.u 0,.nils]),(5,.var [.i k,.i a,.i (i:Nat),.u b,.sl uB (winL uB 0 (datA x i).length (datA x i))])]⟩:=by
    refine qaw cx0 (q6f x (winL uB 0 (datA x i).length (datA x i)) k a i b i _ _) ?_;rw[decide_eq_false (by omega),bc_f,winA];exact ⟨rfl,_,_,rfl,⟨_,rfl,_,_,rfl,rfl,_,_,rfl,rfl,_,_,rfl,rfl,_,_,rfl,rfl,_,_,rfl,.inl rfl,rfl⟩,rfl⟩
   exact e.only ⟨rfl,rfl,rfl,rfl,trivial⟩ ⟨rfl,rfl,rfl,trivial⟩
 | succ m ih=>
  intro i hm hi;have nx:=ih (i+1) (by omega) (by omega);have hl:=qns x i;have hl2:=qns x (i+1);rw[qw6] at nx hl2;refine qaw cx0 (q6g x (datA x i) k a n b i _ _) ?_;rw[decide_eq_true (show (i:Int)<(n:Int) by omega),bc_t,IntWalk.i64_in ((i:Int)+1) (by omega)];have tl:GD 36 Tryd.f36 (OpQ (k,a,n,b,datA x n)) (hd Tryd.f36 0) ⟨[(2,.ptr 2 0),(4,.ptr 4 0),(5,.ptr 5 0),(6,.i ((i:Int)+1))],[(2,.var [.arr 4 uB x]),(4,.var [.i 0,.i 0,.i 0,.u 0,.nils]),(5,.var [.i k,.i a,.i (n:Nat),.u b,.win true uB 76 0 ((datA x i).length+1)]),(76,.row 5 uB (datA x i++[elA x i]))]⟩:=
   nx.only ⟨rfl,rfl,rfl,rfl,trivial⟩ ⟨rfl,rfl,by rw[List.length_append];rfl,rfl,trivial⟩
  have h30:(datA x i).length+1<2 ^ 30:=by omega
  rcases hk with rfl | rfl
  ·rw[decide_eq_true rfl,bc_t];exact ⟨rfl,by decide,by decide,by decide,by decide,by decide,by decide,by decide,Nat.le_refl 1,rfl,rfl,h30,by decide,tl⟩
  ·rw[decide_eq_false (by decide),bc_f,decide_eq_true rfl,bc_t];exact ⟨by decide,by decide,by decide,by decide,by decide,by decide,by decide,Nat.le_refl 1,rfl,rfl,h30,by decide,tl⟩
theorem qy9 (x:List Int) (k a b:Int) (n:Nat) (hn:n<16777216) (h0:0<n) :
  GD 36 Tryd.f36 (OpQ (k,a,n,b,datO x k n)) (hd Tryd.f36 0) ⟨[(2,.ptr 2 0),(4,.ptr 4 0),(5,.ptr 5 0),(6,.i 0)],[(2,.var [.arr 4 uB x]),(4,.var [.i 0,.i 0,.i 0,.u 0,.nils]),(5,.var [.i k,.i a,.i (n:Nat),.u b,.nils])]⟩:=by
 refine qaw cx0 (q6h x k a n b 0 _ _) ?_;rw[decide_eq_true (show ((0:Nat):Int)<(n:Int) by omega),bc_t,IntWalk.i64_in (((0:Nat):Int)+1) (by omega)];have tl:(k=2\/k=4)->GD 36 Tryd.f36 (OpQ (k,a,n,b,datO x k n)) (hd Tryd.f36 0) ⟨[(2,.ptr 2 0),(4,.ptr 4 0),(5,.ptr 5 0),(6,.i (((0:Nat):Int)+1))],[(2,.var [.arr 4 uB x]),(4,.var [.i 0,.i 0,.i 0,.u 0,.nils]),(5,.var [.i k,.i a,.i (n:Nat),.u b,.win true uB 76 0 1]),(76,.row 5 uB [elA x 0])]⟩:=λ hk=>by
  have:=qy8 x k a b n hn hk _ 1 rfl (by omega);have e:datO x k n=datA x n:=by unfold datO;rw[if_pos hk,Int.toNat_natCast]
  rw[e];exact this
 refine qag (λ h=>?_) (λ h=>qag (λ h2=>?_) (λ h2=>?_))
 ·have h:k=2:=of_decide_eq_true h;exact ⟨rfl,by decide,by decide,by decide,by decide,by decide,by decide,by decide,Nat.le_refl 1,(show 1<2 ^ 30 by decide),by decide,tl (.inl h)⟩
 ·have h2:k=4:=of_decide_eq_true h2;exact ⟨by decide,by decide,by decide,by decide,by decide,by decide,by decide,Nat.le_refl 1,(show 1<2 ^ 30 by decide),by decide,tl (.inr h2)⟩
 ·have h:¬ k=2:=of_decide_eq_false h;have h2:¬ k=4:=of_decide_eq_false h2;have e:datO x k n=[]:=if_neg (by omega);rw[e];exact ⟨_,_,rfl,⟨_,rfl,_,_,rfl,rfl,_,_,rfl,rfl,_,_,rfl,rfl,_,_,rfl,rfl,_,_,rfl,.inr ⟨rfl,rfl⟩,rfl⟩,rfl⟩
theorem qd2 {a b:Int} (h:0<=a) (hb:0<b):0<=a.tmod b/\a.tmod b<b:=⟨Int.tmod_nonneg _ h,Int.tmod_lt_of_pos _ hb⟩
theorem q7q (x:List Int) (n:Int) (hx:qsy x) (hn0:0<=n) (hn1:n<16777216):GD 36 Tryd.f36 (QC ctOp (x,n,())) [.code (qae Tryd.f36)] (entry [.arr 4 uB,iI] (x,n,())):=by
 have wx:∀ j,i64.wrap (gtB x j)=gtB x j:=λ j=>IntWalk.i64_in _ (by have:=hx j;omega)
 have m0:=qd2 (hx 0).1 (b:=4) (by decide);have m2:=qd2 (hx 2).1 (b:=5) (by decide);have w0:i64.wrap (1+(gtB x 0).tmod 4)=1+(gtB x 0).tmod 4:=IntWalk.i64_in _ (by omega);have w2:i64.wrap (1+(gtB x 2).tmod 5)=1+(gtB x 2).tmod 5:=IntWalk.i64_in _ (by omega);have go:∀ (k a len b:Int),0<len->len<16777216->opV x n=(k,a,len,b,datO x k len)->GD 36 Tryd.f36 (QC ctOp (x,n,())) (hd Tryd.f36 0) ⟨[(2,.ptr 2 0),(4,.ptr 4 0),(5,.ptr 5 0),(6,.i 0)],[(2,.var [.arr 4 uB x]),(4,.var [.i 0,.i 0,.i 0,.u 0,.nils]),(5,.var [.i k,.i a,.i len,.u b,.nils])]⟩:=λ k a len b h1 h2 h3=>by
  obtain ⟨N,rfl⟩:=Int.eq_ofNat_of_zero_le (Int.le_of_lt h1);refine (qy9 x k a b N (by omega) (by omega)).post λ rs blk hq=>QC.mt ?_ rfl
  show MtL _ (mdV (opV x n)) _
  rw[h3];exact hq
 refine qaw cx0 (vc_op x n _ _) ?_;simp only[wx,w0,w2];refine ⟨by decide,by decide,by decide,by decide,by decide,by decide,by decide,by decide,qag (λ h=>?_) (λ h=>?_)⟩
 ·have h:1+(gtB x 0).tmod 4<=2:=of_decide_eq_true h;refine qag (λ h2=>?_) (λ h2=>?_)
  ·have h2:n=0:=of_decide_eq_true h2;exact go _ _ _ _ (by omega) (by omega) (by unfold opV;rw[if_pos h,if_pos h2])
  ·have h2:¬ n=0:=of_decide_eq_false h2;have m1:=qd2 (hx 1).1 (b:=n) (by omega);have w1:i64.wrap (n-(gtB x 1).tmod n)=n-(gtB x 1).tmod n:=IntWalk.i64_in _ (by omega);have m3:=qd2 (hx 2).1 (b:=n-(gtB x 1).tmod n) (by omega);have m4:=qd2 m3.1 (b:=5) (by decide);have w3:i64.wrap (1+((gtB x 2).tmod (n-(gtB x 1).tmod n)).tmod 5)=1+((gtB x 2).tmod (n-(gtB x 1).tmod n)).tmod 5:=IntWalk.i64_in _ (by omega);rw[w1,w3];refine ⟨by decide,by decide,by decide,h2,by decide,by decide,by decide,by omega,by decide,qag (λ h3=>?_) (λ h3=>?_)⟩
   ·have h3:1+(gtB x 0).tmod 4=3:=of_decide_eq_true h3;omega
   ·exact go _ _ _ _ (by omega) (by omega) (by unfold opV;rw[if_pos h,if_neg h2])
 ·have h:¬ 1+(gtB x 0).tmod 4<=2:=of_decide_eq_false h;refine qag (λ h3=>?_) (λ h3=>?_)
  ·have h3:1+(gtB x 0).tmod 4=3:=of_decide_eq_true h3;exact ⟨by decide,by decide,by decide,go _ _ _ _ (by omega) (by omega) (by unfold opV;rw[if_neg h,if_pos h3])⟩
  ·have h3:¬ 1+(gtB x 0).tmod 4=3:=of_decide_eq_false h3;exact go _ _ _ _ (by omega) (by omega) (by unfold opV;rw[if_neg h,if_neg h3])
theorem q4c:Held Tryd.prog G0 36 ctOp:=
 Held.of cx0 (fn:=Tryd.f36) rfl rfl ⟨by decide,by decide⟩ λ ⟨x,n,_⟩ hp=>q7q x n hp.1 hp.2.1 hp.2.2
abbrev a4S:Sh:=.arr 4 uB
abbrev raS:Sh:=.pair uB (.sl a4S)
def C54:CV:=[(36,.inl ctOp)]
theorem cx54:CxOK Tryd.prog tt G0 C54:=cx0.k q4c (fn:=Tryd.f36)
set_option maxRecDepth 100000
theorem qxp (z m:Int) (l:List (List Int)) (Q:QT) (R:RT):sA C54 Tryd.f18 Q (λ it S=>R it (qbx [1,2,4,5,6] [2,4,5,32] S)) [.code (qae Tryd.f18)] (entry [raS,iI] ((z,l),m,())) =
  (R (hd Tryd.f18 0) { env:=[(1,.i m),(2,.ptr 2 0),(4,.ptr 4 0),(5,.ptr 5 0),(6,.i 0)],blk:=[(2,.var [.u z,.sl a4S l]),(4,.var [.bool false,.i 0,.i 0,.nils]),(5,.var [.bool false,.i m,.i 0,.nils])] }):=by kernel_rfl
def ql0 (z m o:Int) (l:List (List Int)):List (Nat × LB):=[(2,.var [.u z,.sl a4S l]),(4,.var [.bool false,.i m,.i o,.nils]),(5,.var [.bool false,.i m,.i o,.nils])]
theorem q56 (z m o:Int) (l:List (List Int)) (i:Nat) (Q:QT) (R:RT):sA C54 Tryd.f18 Q (λ it S=>R it (qbx [1,2,4,5,6] [2,4,5,32] S)) (hd Tryd.f18 0) ⟨[(1,.i m),(2,.ptr 2 0),(4,.ptr 4 0),(5,.ptr 5 0),(6,.i (i:Nat))],[(2,.var [.u z,.sl a4S l]),(4,.var [.bool false,.i 0,.i 0,.nils]),(5,.var [.bool false,.i m,.i o,.nils])]⟩ =
  (bc (decide ((i:Int)<(l.length:Int))) (bc (decide ((i:Int)<6)) ((0:Int)<=(i:Int)/\(i:Int)<(l.length:Int)/\ctOp.pre (gt a4S l (i:Int).toNat,m,())/\(0:Nat)+1<=([(opV (gt a4S l (i:Int).toNat) m)]:List opS.D).length/\(([(opV (gt a4S l (i:Int).toNat) m)]:List opS.D)).length<2 ^ 30/\(56:Nat)<=2 ^ 10/\R (hd Tryd.f18 0) { env:=[(1,.i m),(2,.ptr 2 0),(4,.ptr 4 0),(5,.ptr 5 0),(6,.i (IntKind.i64.wrap ((i:Int)+1)))],blk:=[(2,.var [.u z,.sl a4S l]),(4,.var [.bool false,.i 0,.i 0,.nils]),(5,.var [.bool false,.i m,.i (IntKind.i64.wrap (o+(opV (gt a4S l (i:Int).toNat) m).2.2.1)),.win true opS 32 0 (1:Nat)]),(32,.row 55 opS (([(opV (gt a4S l (i:Int).toNat) m)]:List opS.D)))] }) (Q [.agg [.bool false,.i m,.i o,.nils]] (ql0 z m o l))) (false=false/\Q [.agg [.bool false,.i m,.i o,.nils]] (ql0 z m o l))):=by kernel_rfl
def qlz (z m o:Int) (l:List (List Int)) (d:List OpT):List (Nat × LB):=[(2,.var [.u z,.sl a4S l]),(4,.var [.bool false,.i m,.i o,.win true opS 32 0 d.length]),(5,.var [.bool false,.i m,.i o,.win true opS 32 0 d.length]),(32,.row 55 opS d)]
theorem q55 (z m o:Int) (l:List (List Int)) (d:List OpT) (i:Nat) (Q:QT) (R:RT):sA C54 Tryd.f18 Q (λ it S=>R it (qbx [1,2,4,5,6] [2,4,5,32] S)) (hd Tryd.f18 0) ⟨[(1,.i m),(2,.ptr 2 0),(4,.ptr 4 0),(5,.ptr 5 0),(6,.i (i:Nat))],[(2,.var [.u z,.sl a4S l]),(4,.var [.bool false,.i 0,.i 0,.nils]),(5,.var [.bool false,.i m,.i o,.win true opS 32 0 d.length]),(32,.row 55 opS d)]⟩ =
  (bc (decide ((i:Int)<(l.length:Int))) (bc (decide ((i:Int)<6)) ((0:Int)<=(i:Int)/\(i:Int)<(l.length:Int)/\ctOp.pre (gt a4S l (i:Int).toNat,m,())/\(0:Nat)+1<=([(opV (gt a4S l (i:Int).toNat) m)]:List opS.D).length/\d.length=d.length/\(0:Nat)=(0:Nat)/\d.length+(([(opV (gt a4S l (i:Int).toNat) m)]:List opS.D)).length<2 ^ 30/\(56:Nat)<=2 ^ 10/\R (hd Tryd.f18 0) { env:=[(1,.i m),(2,.ptr 2 0),(4,.ptr 4 0),(5,.ptr 5 0),(6,.i (IntKind.i64.wrap ((i:Int)+1)))],blk:=[(2,.var [.u z,.sl a4S l]),(4,.var [.bool false,.i 0,.i 0,.nils]),(5,.var [.bool false,.i m,.i (IntKind.i64.wrap (o+(opV (gt a4S l (i:Int).toNat) m).2.2.1)),.win true opS 32 0 (d.length+(([(opV (gt a4S l (i:Int).toNat) m)]:List opS.D)).length)]),(32,.row 55 opS (d++([(opV (gt a4S l (i:Int).toNat) m)]:List opS.D)))] }) (Q [.agg [.bool false,.i m,.i o,.win true opS 32 0 d.length]] (qlz z m o l d))) (false=false/\Q [.agg [.bool false,.i m,.i o,.win true opS 32 0 d.length]] (qlz z m o l d))):=by kernel_rfl
def qly (z m o:Int) (l:List (List Int)) (d:List OpT):List (Nat × LB):=[(2,.var [.u z,.sl a4S l]),(4,.var [.bool false,.i m,.i o,.sl opS d]),(5,.var [.bool false,.i m,.i o,.sl opS d])]
theorem q54 (z m o:Int) (l:List (List Int)) (d:List OpT) (i:Nat) (Q:QT) (R:RT):sA C54 Tryd.f18 Q (λ it S=>R it (qbx [1,2,4,5,6] [2,4,5,32] S)) (hd Tryd.f18 0) ⟨[(1,.i m),(2,.ptr 2 0),(4,.ptr 4 0),(5,.ptr 5 0),(6,.i (i:Nat))],[(2,.var [.u z,.sl a4S l]),(4,.var [.bool false,.i 0,.i 0,.nils]),(5,.var [.bool false,.i m,.i o,.sl opS d])]⟩ =
  (bc (decide ((i:Int)<(l.length:Int))) (bc (decide ((i:Int)<6)) ((0:Int)<=(i:Int)/\(i:Int)<(l.length:Int)/\ctOp.pre (gt a4S l (i:Int).toNat,m,())/\False) (Q [.agg [.bool false,.i m,.i o,.sl opS d]] (qly z m o l d))) (false=false/\Q [.agg [.bool false,.i m,.i o,.sl opS d]] (qly z m o l d))):=by kernel_rfl
def szL (l:List (List Int)) (m:Int) (i:Nat):List OpT:=(List.range i).map λ j=>opV (gt a4S l j) m
def szK (l:List (List Int)):Nat:=min l.length 6
def szO (l:List (List Int)) (m:Int):List OpT:=szL l m (szK l)
def szV (l:List (List Int)) (m:Int):PaT:=(false,m,lenS (szO l m),szO l m)
theorem qul (l:List (List Int)) (m:Int) (i:Nat):(szL l m i).length=i:=by simp[szL]
theorem qq0 (l:List (List Int)) (m:Int) (i:Nat):szL l m (i+1)=szL l m i++[opV (gt a4S l i) m]:=by simp[szL,List.range_succ]
theorem qrq (a b:List OpT):lenS (a++b)=lenS a+lenS b:=by simp[lenS]
theorem qpy {x:List Int} {m:Int} (hx:qsy x) (h0:0<=m):1<=(opV x m).2.2.1/\(opV x m).2.2.1<=5:=by
 have m2:=qd2 (hx 2).1 (b:=5) (by decide);unfold opV;split
 ·split
  ·show 1<=1+_/\1+_<=5
   omega
  ·have m1:=qd2 (hx 1).1 (b:=m) (by omega);have m3:=qd2 (hx 2).1 (b:=m-(gtB x 1).tmod m) (by omega);have m4:=qd2 m3.1 (b:=5) (by decide)
   show 1<=1+_/\1+_<=5
   omega
 ·show 1<=1+_/\1+_<=5
  omega
theorem qmp {l:List (List Int)} {m:Int} (hl:∀ j,qsy (gt a4S l j)) (h0:0<=m):∀ i,0<=lenS (szL l m i)/\lenS (szL l m i)<=5*i
 | 0=>by simp[szL,lenS]
 | i+1=>by
  have:=qmp hl h0 i;have h:=qpy (hl i) h0;rw[qq0,qrq];have e:lenS [opV (gt a4S l i) m]=(opV (gt a4S l i) m).2.2.1:=by simp[lenS]
  rw[e];omega
def qm4 (l:List (List Int)):Prop:=∀ j,qsy (gt a4S l j)
def qd0 (l:List (List Int)) (m:Int):Prop:=qm4 l/\preN m/\l.length<9223372036854775808
def ctSz:Ctr:=⟨[raS,iI],λ x=>qd0 x.1.2 x.2.1,λ x=>[paV (szV x.1.2 x.2.1)],λ _=>[]⟩
abbrev PaQ (p:PaT):List SV->List (Nat × LB)->Prop:=λ rs _=>MtL (λ _=>none) [paV p] rs
section
variable (z m:Int) (l:List (List Int)) (hl:qm4 l) (hm0:0<=m) (hm1:m<16777216) (hn:l.length<9223372036854775808)
abbrev szBs (i:Nat) (d:List OpT) (o:Int):PS:=⟨[(1,.i m),(2,.ptr 2 0),(4,.ptr 4 0),(5,.ptr 5 0),(6,.i (i:Nat))],[(2,.var [.u z,.sl a4S l]),(4,.var [.bool false,.i 0,.i 0,.nils]),(5,.var [.bool false,.i m,.i o,.win true opS 32 0 d.length]),(32,.row 55 opS d)]⟩
include hl hm0 hm1 hn
theorem q3j (i:Nat) (hi:i=szK l):GD 18 Tryd.f18 (PaQ (szV l m)) (hd Tryd.f18 0) (szBs z m l i (szL l m i) (lenS (szL l m i))):=by
 have _:=And.intro hl (And.intro hm0 (And.intro hm1 hn));have hd:szL l m i=szO l m:=by rw[hi];rfl
 rw[hd];refine Good.frz (i:=32) (e:=opS) (et:=55) (xs:=szO l m) rfl (λ c hc=>?_) ?_
 ·have hc:c∈[0+(szO l m).length<=(szO l m).length]:=hc;rw[List.mem_singleton] at hc;subst hc;omega
 ·have e:GD 18 Tryd.f18 (PaQ (szV l m)) (Px.hd Tryd.f18 0) ⟨[(1,.i m),(2,.ptr 2 0),(4,.ptr 4 0),(5,.ptr 5 0),(6,.i (i:Nat))],[(2,.var [.u z,.sl a4S l]),(4,.var [.bool false,.i 0,.i 0,.nils]),(5,.var [.bool false,.i m,.i (lenS (szO l m)),.sl opS (winL opS 0 (szO l m).length (szO l m))])]⟩:=by
   refine qaw cx54 (q54 z m (lenS (szO l m)) l (winL opS 0 (szO l m).length (szO l m)) i _ _) ?_;rw[winA];have fin:PaQ (szV l m) [SV.agg [SV.bool false,SV.int IntKind.i64 m,SV.int IntKind.i64 (lenS (szO l m)),SV.sl opS (szO l m)]] []:=⟨_,_,rfl,⟨_,rfl,_,_,rfl,rfl,_,_,rfl,rfl,_,_,rfl,rfl,_,_,rfl,.inl rfl,rfl⟩,rfl⟩;refine qag (λ h=>qag (λ h2=>?_) (λ h2=>fin)) (λ h=>⟨rfl,fin⟩);have h:=of_decide_eq_true h;have h2:=of_decide_eq_true h2;unfold szK at hi;omega
  exact e.only ⟨rfl,rfl,rfl,rfl,rfl,trivial⟩ ⟨rfl,rfl,rfl,trivial⟩
theorem qyc:∀ (k i:Nat),szK l-i=k->i<=szK l->GD 18 Tryd.f18 (PaQ (szV l m)) (hd Tryd.f18 0) (szBs z m l i (szL l m i) (lenS (szL l m i))):=by
 intro k
 induction k with
 | zero=>intro i hk hi;exact q3j z m l hl hm0 hm1 hn i (by omega)
 | succ k ih=>
  intro i hk hi;have nx:=ih (i+1) (by omega) (by omega);have hs:=qmp hl hm0 i;have hs2:=qmp hl hm0 (i+1);have h6:i<l.length/\i<6:=by unfold szK at hk hi;omega
  rw[qq0,qrq] at nx hs2;have e1:lenS [opV (gt a4S l i) m]=(opV (gt a4S l i) m).2.2.1:=by simp[lenS]
  rw[e1] at nx hs2;refine qaw cx54 (q55 z m (lenS (szL l m i)) l (szL l m i) i _ _) ?_;rw[decide_eq_true (show (i:Int)<(l.length:Int) by omega),bc_t,decide_eq_true (show (i:Int)<(6:Int) by omega),bc_t,Int.toNat_natCast,IntWalk.i64_in ((i:Int)+1) (by omega),IntWalk.i64_in (lenS (szL l m i)+(opV (gt a4S l i) m).2.2.1) (by omega)];refine ⟨by omega,by omega,⟨hl i,hm0,hm1⟩,Nat.le_refl 1,rfl,rfl,?_,by decide,nx.only ⟨rfl,rfl,rfl,rfl,rfl,trivial⟩ ⟨rfl,rfl,by rw[List.length_append];rfl,rfl,trivial⟩⟩
  show (szL l m i).length+1<2 ^ 30
  rw[qul];omega
theorem qyd:GD 18 Tryd.f18 (PaQ (szV l m)) (hd Tryd.f18 0) ⟨[(1,.i m),(2,.ptr 2 0),(4,.ptr 4 0),(5,.ptr 5 0),(6,.i 0)],[(2,.var [.u z,.sl a4S l]),(4,.var [.bool false,.i 0,.i 0,.nils]),(5,.var [.bool false,.i m,.i 0,.nils])]⟩:=by
 refine qaw cx54 (q56 z m 0 l 0 _ _) ?_;refine qag (λ h=>qag (λ h2=>?_) (λ h2=>?_)) (λ h=>⟨rfl,?_⟩)
 ·have h:=of_decide_eq_true h;have nx:=qyc z m l hl hm0 hm1 hn _ 1 rfl (by unfold szK;omega);have hs:=qpy (hl 0) hm0;have e0:szL l m 1=[opV (gt a4S l 0) m]:=rfl;have e1:lenS [opV (gt a4S l 0) m]=(opV (gt a4S l 0) m).2.2.1:=by simp[lenS]
  rw[e0,e1] at nx;rw[Int.toNat_natCast,IntWalk.i64_in (((0:Nat):Int)+1) (by omega),IntWalk.i64_in (0+(opV (gt a4S l 0) m).2.2.1) (by omega),Int.zero_add];exact ⟨by omega,by omega,⟨hl 0,hm0,hm1⟩,Nat.le_refl 1,(show 1<2 ^ 30 by decide),by decide,nx.only ⟨rfl,rfl,rfl,rfl,rfl,trivial⟩ ⟨rfl,rfl,rfl,rfl,trivial⟩⟩
 ·exact absurd (of_decide_eq_false h2) (by decide)
 ·have h:=of_decide_eq_false h;have e:szO l m=[]:=by
   have:l.length=0:=by omega
   unfold szO szK;rw[this];rfl
  show MtL _ [paV (szV l m)] _
  unfold szV;rw[e];exact ⟨_,_,rfl,⟨_,rfl,_,_,rfl,rfl,_,_,rfl,rfl,_,_,rfl,rfl,_,_,rfl,.inr ⟨rfl,rfl⟩,rfl⟩,rfl⟩
end
theorem qui:Held Tryd.prog G0 18 ctSz:=
 Held.of cx54 (fn:=Tryd.f18) rfl rfl ⟨by decide,by decide⟩ λ ⟨⟨z,l⟩,m,_⟩ hp=>
  qaw cx54 (qxp z m l _ _) ((qyd z m l hp.1 hp.2.1.1 hp.2.1.2 hp.2.2).post λ rs blk hq=>QC.mt hq rfl)
def C30:CV:=[(18,.inl ctSz)]
theorem cx30:CxOK Tryd.prog tt G0 C30:=cx0.k qui (fn:=Tryd.f18)
set_option maxRecDepth 100000
theorem qx1 (z:Int) (l:List (List Int)) (Q:QT) (R:RT):sA C30 Tryd.f17 Q R [.code (qae Tryd.f17)] (entry [raS] ((z,l),())) =
  ((13:Int)≠0/\ctSz.pre ((z,l),(i64.wrap z).tmod (13:Int),())/\Q [.agg [.bool (szV l ((i64.wrap z).tmod (13:Int))).1,.i (szV l ((i64.wrap z).tmod (13:Int))).2.1,.i (szV l ((i64.wrap z).tmod (13:Int))).2.2.1,.sl opS (szV l ((i64.wrap z).tmod (13:Int))).2.2.2]] [(1,.var [.u z,.sl (Sh.arr (4:Nat) uB) l]),(2,.var [.bool (szV l ((i64.wrap z).tmod (13:Int))).1,.i (szV l ((i64.wrap z).tmod (13:Int))).2.1,.i (szV l ((i64.wrap z).tmod (13:Int))).2.2.1,.sl opS (szV l ((i64.wrap z).tmod (13:Int))).2.2.2])]):=by kernel_rfl
def qjd (z:Int) (l:List (List Int)):Prop:=(0<=z/\z<256)/\qm4 l/\l.length<9223372036854775808
def ctM6:Ctr:=⟨[raS],λ x=>qjd x.1.1 x.1.2,λ x=>[paV (szV x.1.2 (x.1.1 % 13))],λ _=>[]⟩
theorem qv8 (z:Int) (l:List (List Int)) (hz:0<=z/\z<256) (hl:qm4 l) (hn:l.length<9223372036854775808):GD 17 Tryd.f17 (QC ctM6 ((z,l),())) [.code (qae Tryd.f17)] (entry [raS] ((z,l),())):=by
 refine qai cx30 _ _ _ ((qx1 z l _ _).mpr ?_);have w:(IntKind.i64.wrap z).tmod 13=z % 13:=by rw[IntWalk.i64_in z (by omega),Int.tmod_eq_emod_of_nonneg hz.1]
 rw[w];exact ⟨by decide,⟨hl,(show preN (z % 13) from ⟨by omega,by omega⟩),hn⟩,QC.flat rfl rfl rfl⟩
theorem qs8:Held Tryd.prog G0 17 ctM6:=
 Held.of cx30 (fn:=Tryd.f17) rfl rfl ⟨by decide,by decide⟩ λ ⟨⟨z,l⟩,_⟩ hp=>qv8 z l hp.1 hp.2.1 hp.2.2
theorem qwt (el:Nat->SyT):∀ n i k,k<n->(gen el n i)[k]?=some (el (i+k))
 | 0,_,_,h=>by omega
 | n+1,i,0,_=>by rw[gen];rfl
 | n+1,i,k+1,h=>by
  rw[gen,List.getElem?_cons_succ,qwt el n (i+1) k (by omega)]
  congr 2;omega
theorem qws (el:Nat->SyT):∀ n i s,s∈gen el n i->∃ k,k<n/\s=el (i+k)
 | 0,_,_,h=>by cases h
 | n+1,i,s,h=>by
  rw[gen] at h;rcases List.mem_cons.1 h with h | h
  ·exact ⟨0,by omega,h⟩
  ·obtain ⟨k,h1,h2⟩:=qws el n (i+1) s h;exact ⟨k+1,by omega,by rw[h2];congr 1;omega⟩
theorem qnr (x:List Int) {k n:Int} (hk:k=2\/k=4) (hn:0<=n):((datO x k n).length:Int)=n:=by
 unfold datO;rw[if_pos hk,qns];omega
theorem qr3 (x:List Int) {k n:Int} (hk:¬ (k=2\/k=4)):datO x k n=[]:=if_neg hk
theorem qvp {x:List Int} {m:Int} (hx:qsy x) (h0:0<=m) (h1:m<16777216):isRB (opV x m) m=true:=by
 have hl:=qpy hx h0;have m0:=qd2 (hx 0).1 (b:=4) (by decide);have m2:=qd2 (hx 2).1 (b:=5) (by decide);have kR:kR (opV x m) m=true:=by
  unfold opV kR;split
  next hk=>
   split
   ·rw[if_neg (show ¬ ((4:Int)=1) by decide),if_neg (show ¬ ((4:Int)=2) by decide),if_neg (show ¬ ((4:Int)=3) by decide),if_pos (show (4:Int)=4 by decide)];simp only[rB,Bool.and_eq_true,decide_eq_true_eq];exact ⟨trivial,trivial,qnr x (.inr rfl) (by omega)⟩
   next hm=>
    have m1:=qd2 (hx 1).1 (b:=m) (by omega);have m3:=qd2 (hx 2).1 (b:=m-(gtB x 1).tmod m) (by omega);have e5:=Int.tmod_eq_emod_of_nonneg (b:=5) m3.1;generalize (gtB x 1).tmod m=f at *;generalize (gtB x 2).tmod (m-f)=g at *;rw[e5];have wp:IntKind.i64.wrap (m-(1+g % 5))=m-(1+g % 5):=IntWalk.i64_in _ (by omega);rcases (show 1+(gtB x 0).tmod 4=1\/1+(gtB x 0).tmod 4=2 by omega) with e | e
    ·rw[e];simp only[rB,qcu,wp,Bool.and_eq_true,decide_eq_true_eq,if_true];rw[qr3 x (by decide)];exact ⟨⟨by omega,by omega⟩,trivial,rfl⟩
    ·rw[e];simp only[rB,qcu,wp,Bool.and_eq_true,decide_eq_true_eq,if_true];rw[if_neg (by decide)];simp only[Bool.and_eq_true,decide_eq_true_eq];exact ⟨⟨by omega,by omega⟩,trivial,qnr x (.inl rfl) (by omega)⟩
  next hk=>
   rcases (show 1+(gtB x 0).tmod 4=3\/1+(gtB x 0).tmod 4=4 by omega) with e | e
   ·rw[e,qr3 x (by decide)];rfl
   ·rw[e];rw[if_neg (show ¬ ((4:Int)=1) by decide),if_neg (show ¬ ((4:Int)=2) by decide),if_neg (show ¬ ((4:Int)=3) by decide),if_pos (show (4:Int)=4 by decide)];simp only[rB,Bool.and_eq_true,decide_eq_true_eq];exact ⟨trivial,if_neg (by decide),qnr x (.inr rfl) (by omega)⟩
 unfold isRB;rw[decide_eq_true (show 1<=(opV x m).2.2.1 by omega),decide_eq_true (show (opV x m).2.2.1<=65536 by omega),kR];rfl
theorem q2i {m N:Int}:∀ {l:List OpT} {left i:Int},(∀ x∈l,isRB x m=true)->lenS l=left->chkF m N l left i=(N,0)
 | [],left,i,_,h=>by
  have h:(0:Int)=left:=h;rw[chkF,if_neg (by omega)]
 | x::l,left,i,hr,h=>by
  have h1:=hr x (by simp);have h2:=qf7 h1;have h3:=qjq (l:=l) λ y hy=>hr y (by simp[hy])
  rw[qko] at h;rw[chkF,if_neg (by rw[h1];decide),if_neg (by omega)];exact q2i (λ y hy=>hr y (by simp[hy])) (by omega)
theorem qql {li:Bool} {m o:Int} {l:List OpT} (h0:0<=m) (h1:m<=65536) (ho:o<=65536) (hl:l.length<=4096) (hr:∀ x∈l,isRB x m=true) (hs:lenS l=o):chkV (li,m,o,l)=((l.length:Int),(0:Int)):=by
 have:=qjq hr;unfold chkV;rw[if_pos ⟨by simp[szB];omega,by simp[szB];omega,hl⟩];exact q2i hr hs
theorem qum {m:Int}:∀ {l:List OpT},(∀ x∈l,isRB x m=true)->∀ s∈symF l,∃ x∈l,∃ k:Nat,(k:Int)<x.2.2.1/\s=elO x.1.toNat x k
 | [],_,s,h=>by cases h
 | x::l,hr,s,h=>by
  rw[symF] at h;rcases List.mem_append.1 h with h | h
  ·obtain ⟨k,h1,h2⟩:=qws _ _ _ _ h;have:=(qhs (hr x (by simp))).2;exact ⟨x,by simp,k,by omega,by rw[h2,Nat.zero_add]⟩
  ·obtain ⟨y,hy,k,h1,h2⟩:=qum (λ y hy=>hr y (by simp[hy])) s h;exact ⟨y,by simp[hy],k,h1,h2⟩
theorem qwi {x:OpT} {m:Int} (h:isRB x m=true) (hm:0<=m/\m<16777216) (hk:x.1=1\/x.1=2):0<=x.2.1/\x.2.1+x.2.2.1<=m:=by
 unfold isRB kR at h;simp only[Bool.and_eq_true,decide_eq_true_eq] at h;obtain ⟨h1,h2,h3⟩:=h;have w:IntKind.i64.wrap (m-x.2.2.1)=m-x.2.2.1:=IntWalk.i64_in _ (by omega);rcases hk with e | e
 ·rw[if_pos e] at h3;simp only[rB,qcu,w,Bool.and_eq_true,decide_eq_true_eq] at h3;omega
 ·rw[if_neg (by omega),if_pos e] at h3;simp only[rB,qcu,w,Bool.and_eq_true,decide_eq_true_eq] at h3;omega
theorem quk {l:List (List Int)} {m:Int} (hl:qm4 l) (h0:0<=m) (h1:m<=65536):∀ x∈szO l m,isRB x m=true:=λ x hx=>by
 unfold szO szL at hx;obtain ⟨j,_,rfl⟩:=List.mem_map.1 hx;exact qvp (hl j) h0 (by omega)
theorem q3i (l:List (List Int)) (m:Int):(szO l m).length<=6:=by
 unfold szO szK;rw[qul];omega
theorem quj {l:List (List Int)} {m:Int} (hl:qm4 l) (h0:0<=m):0<=lenS (szO l m)/\lenS (szO l m)<=30:=by
 have:=qmp hl h0 (szK l);have h6:szK l<=6:=by unfold szK;omega
 unfold szO;omega
theorem q3h {l:List (List Int)} {m:Int} (hl:qm4 l) (h0:0<=m) (h1:m<=65536):chkV (szV l m)=(((szO l m).length:Int),(0:Int)):=by
 have h30:=quj hl h0;have h6:=q3i l m;exact qql h0 h1 (by omega) (by omega) (quk hl h0 h1) rfl
def qz9:List OpT->Int
 | []=>0
 | x::l=>cN x.1.toNat x+qz9 l
theorem qu1 {m:Int} {s:SyT} (h:sOK m s=true) (ho:s.1=true):0<=s.2.1/\s.2.1<m:=by
 unfold sOK at h;rw[if_pos ho] at h;simpa using h
theorem q7j {m:Int} {s:SyT} (h:sOK m s=true) (ho:s.1=false):s.2.1=0:=by
 unfold sOK at h;rw[if_neg (by rw[ho];decide)] at h;simpa using h
section
variable {l:List SyT} {m:Int} (hr:∀ s∈l,sOK m s=true) (hm:m<16777216)
include hr hm
end
def q8a:Ctr:=⟨[.sl syS],λ x=>List.length x.1=0,λ x=>[.sl opS (opsL x.1)],λ _=>[]⟩
def ctOpsA:Ctr:=⟨[.sl syS],λ x=>List.length x.1<16777216,λ x=>[.sl opS (opsL x.1)],λ _=>[]⟩
set_option maxRecDepth 100000
theorem q6i (l:List SyT) (m:Int) (Q:QT) (R:RT):sA ((65,.inl ctOpsA)::(64,.inl ctAre)::C1) Tryd.f49 Q R [.code (qae Tryd.f49)] (entry [.sl syS,iI] (l,m,())) =
  (ctSize.pre (m,())/\bc (!(decide ((0:iI.D)<=m)&&decide (m<=(65536:iI.D)))) (true=true/\true=true/\Q [.agg [.bool false,.i 0,.i 0,.nils],.i 60] [(4,.var [.bool false,.i 0,.i 0,.nils])]) (ctSize.pre ((l.length:Int),())/\bc (bif false then true else !(decide ((0:iI.D)<=(l.length:Int))&&decide ((l.length:Int)<=(65536:iI.D)))) (true=true/\Q [.agg [.bool false,.i 0,.i 0,.nils],.i 60] [(4,.var [.bool false,.i 0,.i 0,.nils])]) (ctAre.pre (l,m,())/\bc (bif false then true else !l.all (sOK m)) (Q [.agg [.bool false,.i 0,.i 0,.nils],.i 60] [(4,.var [.bool false,.i 0,.i 0,.nils])]) (ctOpsA.pre (l,())/\bc (decide ((4096:Int)<(↑(opsL l).length:Int))) (Q [.agg [.bool false,.i 0,.i 0,.nils],.i 2] [(4,.var [.bool false,.i 0,.i 0,.nils])]) (Q [.agg [.bool false,.i m,.i (l.length:Int),.sl opS (opsL l)],.i 0] [(4,.var [.bool false,.i m,.i (l.length:Int),.sl opS (opsL l)])]))))):=by kernel_rfl
theorem qvn:Held Tryd.prog G0 65 q8a:=by
 refine Held.run dxO (fn:=Tryd.f65) rfl rfl ⟨by decide,by decide⟩ ?_;rintro ⟨l,⟨⟩⟩ hp;replace hp:l.length=0:=hp;have e:l=[]:=List.eq_nil_of_length_eq_zero hp;subst e;refine (q1a [] _ _).mpr ?_;refine Good.only (S':=⟨[(0,.sl syS []),(3,.nils),(4,.i ((0:Nat):Int)),(5,.i ((1:Nat):Int))],[]⟩) (qai dxO _ _ _ ((qt2 [] 0 1 _ _).mpr ?_)) ⟨rfl,rfl,rfl,rfl,trivial⟩ trivial;rw[decide_eq_false (by decide),bc_f];exact QC.mt ⟨_,_,rfl,.inr ⟨rfl,rfl⟩,rfl⟩ rfl
theorem qvm:Held Tryd.prog G0 65 ctOpsA:=λ x hp=>by
 by_cases h:List.length x.1=0
 ·exact qvn x h
 ·exact qy4 x ⟨Nat.pos_of_ne_zero h,hp⟩
def ctOfA:Ctr:=⟨[.sl syS,iI],λ x=>List.length x.1<16777216,λ x=>[paV (ofV x.1 x.2.1).1,.i (ofV x.1 x.2.1).2],λ _=>[]⟩
theorem qzb:Held Tryd.prog G0 49 ctOfA:=by
 refine Held.run ((cx1.k q0p (fn:=Tryd.f64)).k qvm (fn:=Tryd.f65)) (fn:=Tryd.f49) rfl rfl ⟨by decide,by decide⟩ ?_;rintro ⟨l,m,⟨⟩⟩ hp;replace hp:l.length<16777216:=hp;have bad:¬ (szB m=true/\szB l.length=true/\l.all (sOK m)=true)->ofV l m=((false,0,0,[]),60):=λ q=>if_neg q
 refine (q6i l m _ _).mpr ⟨trivial,qag (λ h=>⟨rfl,rfl,?_⟩) (λ h=>⟨trivial,qag (λ h2=>⟨rfl,?_⟩) (λ h2=>⟨(show l.length<1099511627776 by omega),qag (λ h3=>?_) (λ h3=>⟨hp,qag (λ h4=>?_) (λ h4=>?_)⟩)⟩)⟩)⟩
 ·have h:(!szB m)=true:=h;have hv:=bad λ q=>by rw[q.1] at h;cases h
  exact QC.mt (by show MtL _ [paV (ofV l m).1,.i (ofV l m).2] _;rw[hv];exact ⟨_,_,rfl,⟨_,rfl,_,_,rfl,rfl,_,_,rfl,rfl,_,_,rfl,rfl,_,_,rfl,.inr ⟨rfl,rfl⟩,rfl⟩,_,_,rfl,rfl,rfl⟩) rfl
 ·have h2:(!szB l.length)=true:=h2;have hv:=bad λ q=>by rw[q.2.1] at h2;cases h2
  exact QC.mt (by show MtL _ [paV (ofV l m).1,.i (ofV l m).2] _;rw[hv];exact ⟨_,_,rfl,⟨_,rfl,_,_,rfl,rfl,_,_,rfl,rfl,_,_,rfl,rfl,_,_,rfl,.inr ⟨rfl,rfl⟩,rfl⟩,_,_,rfl,rfl,rfl⟩) rfl
 ·have h3:(!l.all (sOK m))=true:=h3;have hv:=bad λ q=>by rw[q.2.2] at h3;cases h3
  exact QC.mt (by show MtL _ [paV (ofV l m).1,.i (ofV l m).2] _;rw[hv];exact ⟨_,_,rfl,⟨_,rfl,_,_,rfl,rfl,_,_,rfl,rfl,_,_,rfl,rfl,_,_,rfl,.inr ⟨rfl,rfl⟩,rfl⟩,_,_,rfl,rfl,rfl⟩) rfl
 all_goals
  have h:(!szB m)=false:=h;have h2:(!szB l.length)=false:=h2;have h3:(!l.all (sOK m))=false:=h3;have hg:szB m=true/\szB l.length=true/\l.all (sOK m)=true:=⟨by simpa using h,by simpa using h2,by simpa using h3⟩
 ·have h4:(4096:Int)<((opsL l).length:Int):=of_decide_eq_true h4;have hv:ofV l m=((false,0,0,[]),2):=by unfold ofV;rw[if_pos hg,if_pos (by omega)]
  exact QC.mt (by show MtL _ [paV (ofV l m).1,.i (ofV l m).2] _;rw[hv];exact ⟨_,_,rfl,⟨_,rfl,_,_,rfl,rfl,_,_,rfl,rfl,_,_,rfl,rfl,_,_,rfl,.inr ⟨rfl,rfl⟩,rfl⟩,_,_,rfl,rfl,rfl⟩) rfl
 ·have h4:¬ (4096:Int)<((opsL l).length:Int):=of_decide_eq_false h4;have hv:ofV l m=(((false,m,(l.length:Int),opsL l):PaT),(0:Int)):=by unfold ofV;rw[if_pos hg,if_neg (by omega)]
  exact QC.flat (by show [paV (ofV l m).1,.i (ofV l m).2]=_;rw[hv];rfl) rfl rfl
abbrev LiT:Type:=Int × Int × Int × Int
def zLi:LiT:=(0,0,0,0)
def canB (k:Int) (s:SyT):Bool:=if k=1 then s.1&&decide (s.2.2=0) else if k=2 then s.1 else !s.1
def goK (k:Int) (s t:SyT):Bool:=if k=1\/k=2 then decide (t.2.1=IntKind.i64.wrap (s.2.1+1)) else if k=3 then decide (t.2.2=s.2.2) else true
def hdC (k:Int):Int:=if k=4 then 2 else 4
def eaC (k:Int):Int:=if k=2\/k=4 then 1 else 0
def betB (a b:LiT):Bool:=
 if a.2.1=0\/b.2.1=0 then decide (0<a.2.1)&&decide (b.2.1=0)
 else if a.2.2.1≠b.2.2.1 then decide (a.2.2.1<b.2.2.1)
 else if a.2.2.2≠b.2.2.2 then decide (a.2.2.2<b.2.2.2)
 else if a.1≠b.1 then decide (a.1<b.1)
 else decide (b.2.1<a.2.1)
def oneF (k:Int) (w:Int × Int):LiT:=(k,1,w.1+hdC k+eaC k,w.2+1)
def qkj (k:Int) (g:LiT):LiT:=(k,g.2.1+1,g.2.2.1+eaC k,g.2.2.2)
def begF (k:Int) (s t:SyT) (w:Int × Int) (g:LiT):LiT:=
 if canB k s=false then zLi
 else if g.2.1=0\/goK k s t=false then oneF k w
 else if betB (oneF k w) (qkj k g)=true then oneF k w else qkj k g
def upd (b g:LiT):LiT:=if betB g b=true then g else b
def q7o (g:Int->LiT):LiT:=upd (upd (upd (upd zLi (g 1)) (g 2)) (g 3)) (g 4)
def tb:List SyT->(Int->LiT) × LiT
 | []=>(λ _=>zLi,zLi)
 | s::r=>(λ k=>begF k s (gtY r 0) (tb r).2.2.2 ((tb r).1 k),q7o λ k=>begF k s (gtY r 0) (tb r).2.2.2 ((tb r).1 k))
def bst (l:List SyT):LiT:=(tb l).2
def beg (l:List SyT) (k:Int):LiT:=(tb l).1 k
theorem qsb (s:SyT) (r:List SyT) (k:Int):beg (s::r) k=begF k s (gtY r 0) (bst r).2.2 (beg r k):=rfl
theorem q0j (s:SyT) (r:List SyT):bst (s::r)=q7o λ k=>beg (s::r) k:=rfl
def fitN (k:Int):List SyT->Nat
 | []=>0
 | s::r=>if canB k s=true then (if goK k s (gtY r 0)=true then 1+fitN k r else 1) else 0
theorem qfo (k:Int):∀ l,fitN k l<=l.length
 | []=>Nat.le_refl _
 | s::r=>by
  have:=qfo k r;rw[fitN,List.length_cons];split
  ·split <;> omega
  ·omega
def keyT (b:LiT):Int:=((b.2.2.1*4294967296+b.2.2.2)*8+b.1)*1048576-b.2.1
def wB (b:LiT):Int:=b.2.2.1*4294967296+b.2.2.2
def keyL (k:Int) (n:Nat) (l:List SyT):Int:=(((hdC k+eaC k*(n:Int))*4294967296+1+wB (bst (l.drop n)))*8+k)*1048576-(n:Int)
def boL (m:Nat) (b:LiT):Prop:=0<=b.2.2.1/\b.2.2.1<=5*(m:Int)/\0<=b.2.2.2/\b.2.2.2<=(m:Int)
def okB (k:Int) (l:List SyT) (g:LiT):Prop:=
 (fitN k l=0/\g=zLi)\/(g.1=k/\∃ n:Nat,g.2.1=(n:Int)/\1<=n/\n<=fitN k l/\keyT g=keyL k n l/\(∀ m:Nat,1<=m->m<=fitN k l->keyL k n l<=keyL k m l)/\boL l.length g)
abbrev kOK (k:Int):Prop:=1<=k/\k<=4
def okL (l:List SyT) (b:LiT):Prop:=
 (l=[]/\b=zLi)\/(l≠[]/\kOK b.1/\∃ n:Nat,b.2.1=(n:Int)/\1<=n/\n<=fitN b.1 l/\keyT b=keyL b.1 n l/\(∀ k,kOK k->∀ m:Nat,1<=m->m<=fitN k l->keyL b.1 n l<=keyL k m l)/\boL l.length b)
theorem qsa {a b:LiT} (ha:kOK a.1) (hb:kOK b.1) (a1:1<=a.2.1/\a.2.1<1048576) (b1:1<=b.2.1/\b.2.1<1048576) (a2:0<=a.2.2.2/\a.2.2.2<4294967296) (b2:0<=b.2.2.2/\b.2.2.2<4294967296) :
  (betB a b=true↔keyT a<keyT b):=by
 obtain ⟨k,n,c,o⟩:=a;obtain ⟨k',n',c',o'⟩:=b;simp only[kOK] at *;unfold betB keyT;simp only;rw[if_neg (by omega)];by_cases h1:c=c'
 ·rw[if_neg (by simpa using h1)];by_cases h2:o=o'
  ·rw[if_neg (by simpa using h2)];by_cases h3:k=k'
   ·rw[if_neg (by simpa using h3)];simp only[decide_eq_true_eq];omega
   ·rw[if_pos h3];simp only[decide_eq_true_eq];omega
  ·rw[if_pos h2];simp only[decide_eq_true_eq];omega
 ·rw[if_pos h1];simp only[decide_eq_true_eq];omega
theorem q7z (k:Int):2<=hdC k/\hdC k<=4:=by unfold hdC;split <;> omega
theorem q76 (k:Int):0<=eaC k/\eaC k<=1:=by unfold eaC;split <;> omega
theorem qrs (k:Int) (s:SyT) (r:List SyT):keyL k 1 (s::r)=keyT (oneF k (bst r).2.2):=by
 have e:(s::r).drop 1=r:=rfl;unfold keyL keyT oneF wB;rw[e];simp only[Int.mul_one,Int.natCast_one];omega
theorem qkr (k:Int) (s:SyT) (r:List SyT) (n:Nat):keyL k (n+1) (s::r)=keyL k n r+eaC k*36028797018963968-1:=by
 have e:(s::r).drop (n+1)=r.drop n:=rfl;unfold keyL;rw[e,Int.natCast_add,Int.natCast_one,Int.mul_add,Int.mul_one];omega
theorem qwf (k:Int) (g:LiT) (hk:g.1=k):keyT (qkj k g)=keyT g+eaC k*36028797018963968-1:=by
 unfold keyT qkj;simp only[hk];omega
theorem q8l (m:Nat):boL m zLi:=by
 unfold boL zLi;simp only;omega
theorem qza {k:Int} (hk:kOK k) {s:SyT} {r:List SyT} (hr:okB k r (beg r k)) (hb:boL r.length (bst r)) (hl:(s::r).length<=65536):okB k (s::r) (beg (s::r) k):=by
 rw[qsb];unfold begF;have hh:=q7z k;have he:=q76 k;have hn:=qfo k r;rw[List.length_cons] at hl;by_cases hc:canB k s=false
 ·rw[if_pos hc];exact .inl ⟨by rw[fitN,if_neg (by rw[hc];decide)],rfl⟩
 ·rw[if_neg hc];have hc:canB k s=true:=by simpa using hc
  have hone:boL (s::r).length (oneF k (bst r).2.2):=by
   unfold boL oneF at *;simp only[List.length_cons];omega
  by_cases hg:(beg r k).2.1=0\/goK k s (gtY r 0)=false
  ·rw[if_pos hg];have hf:fitN k (s::r)=1:=by
    rw[fitN,if_pos hc];split
    next h=>
     rcases hg with hg | hg
     ·rcases hr with hr | ⟨_,n,h1,h2,_⟩
      ·rw[hr.1]
      ·omega
     ·rw[hg] at h;cases h
    ·rfl
   refine .inr ⟨rfl,1,rfl,Nat.le_refl _,by omega,(qrs k s r).symm,λ m h1 h2=>?_,hone⟩;have:m=1:=by omega
   rw[this];exact Int.le_refl _
  ·rw[if_neg hg];have hg1:¬ (beg r k).2.1=0:=λ h=>hg (.inl h)
   have hg2:goK k s (gtY r 0)=true:=by
    have:¬ goK k s (gtY r 0)=false:=λ h=>hg (.inr h)
    simpa using this
   rcases hr with hr | ⟨e1,n,h1,h2,h3,h4,h5,h6⟩
   ·rw[hr.2] at hg1;exact absurd rfl hg1
   have hf:fitN k (s::r)=1+fitN k r:=by rw[fitN,if_pos hc,if_pos hg2]
   have hm:keyT (qkj k (beg r k))=keyL k (n+1) (s::r):=by rw[qwf k _ e1,qkr,h4]
   have hmb:boL (s::r).length (qkj k (beg r k)):=by
    unfold boL qkj at *;simp only[List.length_cons];omega
   have ho:=qrs k s r;have hmo:∀ m:Nat,1<=m->m<=fitN k (s::r)->m=1\/keyL k (n+1) (s::r)<=keyL k m (s::r):=λ m m1 m2=>by
    rcases Nat.lt_or_ge 1 m with h | h
    ·obtain ⟨q,hq⟩:∃ q,m=q+1:=⟨m-1,by omega⟩;subst hq;have:=h5 q (by omega) (by omega);rw[qkr,qkr];exact .inr (by omega)
    ·exact .inl (by omega)
   have hkey:=qsa (a:=oneF k (bst r).2.2) (b:=qkj k (beg r k)) hk hk (show 1<=(1:Int)/\(1:Int)<1048576 by omega) (show 1<=(beg r k).2.1+1/\(beg r k).2.1+1<1048576 by omega) (show 0<=(bst r).2.2.2+1/\(bst r).2.2.2+1<4294967296 by unfold boL at hb;omega) (show 0<=(beg r k).2.2.2/\(beg r k).2.2.2<4294967296 by unfold boL at h6;omega);split
   next hbt=>
    have hlt:=hkey.1 hbt;rw[<- ho,hm] at hlt;refine .inr ⟨rfl,1,rfl,Nat.le_refl _,by omega,ho.symm,λ m m1 m2=>?_,hone⟩;rcases hmo m m1 m2 with h | h
    ·rw[h];exact Int.le_refl _
    ·omega
   next hbt=>
    have hlt:¬ keyT (oneF k (bst r).2.2)<keyT (qkj k (beg r k)):=λ h=>hbt (hkey.2 h)
    rw[<- ho,hm] at hlt;refine .inr ⟨rfl,n+1,by rw[Int.natCast_add,<- h1];rfl,by omega,by omega,hm,λ m m1 m2=>?_,hmb⟩;rcases hmo m m1 m2 with h | h
    ·rw[h];omega
    ·omega
def okU (m:Int) (l:List SyT) (b:LiT):Prop:=
 (b=zLi/\∀ k,1<=k->k<=m->fitN k l=0)\/(kOK b.1/\b.1<=m/\∃ n:Nat,b.2.1=(n:Int)/\1<=n/\n<=fitN b.1 l/\keyT b=keyL b.1 n l/\(∀ k,1<=k->k<=m->∀ q:Nat,1<=q->q<=fitN k l->keyL b.1 n l<=keyL k q l)/\boL l.length b)
theorem qjo {m:Int} {l:List SyT} {b g:LiT} (hm:0<=m/\m<4) (hl:l.length<=65536) (hb:okU m l b) (hg:okB (m+1) l g):okU (m+1) l (upd b g):=by
 have fle:=λ k=>qfo k l
 unfold upd;rcases hg with ⟨h1,h2⟩ | ⟨e1,n,h1,h2,h3,h4,h5,h6⟩
 ·have hx:betB g b=false:=by
   subst h2;unfold betB zLi;simp
  rw[hx,if_neg (by decide)];rcases hb with ⟨q1,q2⟩ | ⟨q1,q2,q,q3,q4,q5,q6,q7,q8⟩
  ·refine .inl ⟨q1,λ k k1 k2=>?_⟩;rcases Int.lt_or_le k (m+1) with h | h
   ·exact q2 k k1 (by omega)
   ·have:k=m+1:=by omega
    rw[this];exact h1
  ·refine .inr ⟨q1,by omega,q,q3,q4,q5,q6,λ k k1 k2 p p1 p2=>?_,q8⟩;rcases Int.lt_or_le k (m+1) with h | h
   ·exact q7 k k1 (by omega) p p1 p2
   ·have:k=m+1:=by omega
    rw[this,h1] at p2;omega
 ·have gk:kOK g.1:=by rw[e1];unfold kOK;omega
  have f1:=fle (m+1);rcases hb with ⟨q1,q2⟩ | ⟨q1,q2,q,q3,q4,q5,q6,q7,q8⟩
  ·have hx:betB g b=true:=by
    subst q1;unfold betB zLi;rw[if_pos (.inr rfl)];simp;omega
   rw[hx,if_pos rfl];refine .inr ⟨gk,by omega,n,h1,h2,by rw[e1];exact h3,by rw[e1];exact h4,λ k k1 k2 p p1 p2=>?_,h6⟩;rcases Int.lt_or_le k (m+1) with h | h
   ·rw[q2 k k1 (by omega)] at p2;omega
   ·have hk:k=m+1:=by omega
    subst hk;rw[e1];exact h5 p p1 p2
  ·have f2:=fle b.1;have hkey:=qsa (a:=g) (b:=b) gk q1 (by omega) (by omega) (by unfold boL at h6;omega) (by unfold boL at q8;omega);have e2:keyL g.1 n l=keyL (m+1) n l:=by rw[e1]
   split
   next hx=>
    have hlt:=hkey.1 hx;refine .inr ⟨gk,by omega,n,h1,h2,by rw[e1];exact h3,by rw[e1];exact h4,λ k k1 k2 p p1 p2=>?_,h6⟩;rcases Int.lt_or_le k (m+1) with h | h
    ·have:=q7 k k1 (by omega) p p1 p2;omega
    ·have hk:k=m+1:=by omega
     subst hk;rw[e2];exact h5 p p1 p2
   next hx=>
    have hlt:¬ keyT g<keyT b:=λ h=>hx (hkey.2 h)
    refine .inr ⟨q1,by omega,q,q3,q4,q5,q6,λ k k1 k2 p p1 p2=>?_,q8⟩;rcases Int.lt_or_le k (m+1) with h | h
    ·exact q7 k k1 (by omega) p p1 p2
    ·have hk:k=m+1:=by omega
     subst hk;have:=h5 p p1 p2;omega
theorem qz2 (s:SyT) (r:List SyT):(1:Nat)<=fitN 2 (s::r)\/(1:Nat)<=fitN 4 (s::r):=by
 cases h:s.1
 ·right;rw[fitN,if_pos (by simp[canB,h])];split <;> omega
 ·left;rw[fitN,if_pos (by simp[canB,h])];split <;> omega
theorem qrl:∀ l:List SyT,l.length<=65536->(∀ k,kOK k->okB k l (beg l k))/\okL l (bst l)
 | [],_=>⟨λ k _=>.inl ⟨rfl,rfl⟩,.inl ⟨rfl,rfl⟩⟩
 | s::r,hl=>by
  have hr:=qrl r (by rw[List.length_cons] at hl;omega);have hb:boL r.length (bst r):=by
   rcases hr.2 with h | ⟨_,_,n,_,_,_,_,_,h⟩
   ·rw[h.2];exact q8l _
   ·exact h
  have hg:∀ k,kOK k->okB k (s::r) (beg (s::r) k):=λ k hk=>qza hk (hr.1 k hk) hb hl
  refine ⟨hg,?_⟩;have h0:okU 0 (s::r) zLi:=.inl ⟨rfl,λ k k1 k2=>by omega⟩;have h1:=qjo (m:=0) (by omega) hl h0 (hg 1 (by unfold kOK;omega));have h2:=qjo (m:=1) (by omega) hl h1 (hg 2 (by unfold kOK;omega));have h3:=qjo (m:=2) (by omega) hl h2 (hg 3 (by unfold kOK;omega));have h4:=qjo (m:=3) (by omega) hl h3 (hg 4 (by unfold kOK;omega));rw[q0j];rcases h4 with ⟨q1,q2⟩ | ⟨q1,q2,q,q3,q4,q5,q6,q7,q8⟩
  ·exfalso;have a:=q2 2 (by omega) (by omega);have b:=q2 4 (by omega) (by omega);rcases qz2 s r with h | h <;> omega
  ·exact .inr ⟨by simp,q1,q,q3,q4,q5,q6,λ k hk p p1 p2=>q7 k hk.1 hk.2 p p1 p2,q8⟩
theorem qr9 (l:List SyT) (hl:l.length<=65536):boL l.length (bst l):=by
 rcases (qrl l hl).2 with h | ⟨_,_,n,_,_,_,_,_,h⟩
 ·rw[h.2];exact q8l _
 ·exact h
abbrev suS:Sh:=.pair iI iI
abbrev liS:Sh:=.pair iI (.pair iI suS)
set_option maxRecDepth 100000
theorem qx3 (a:Int) (Q:QT) (R:RT):sA [] Tryd.f82 Q R [.code (qae Tryd.f82)] (entry [iI] (a,())) =
  (Q [.bool (decide (a≠a))] []):=by kernel_rfl
theorem q3c (k:Int) (s:SyT) (Q:QT) (R:RT):sA [] Tryd.f78 Q R [.code (qae Tryd.f78)] (entry [iI,syS] (k,s,())) =
  (bc (decide (k=(1:Int))) (bc s.1 (Q [.bool (decide (s.2.2=(0:Int)))] [(3,.var [.bool s.1,.i s.2.1,.u s.2.2])]) (false=false/\Q [.bool false] [(3,.var [.bool s.1,.i s.2.1,.u s.2.2])])) (bc (decide (k=(2:Int))) (Q [.bool s.1] [(3,.var [.bool s.1,.i s.2.1,.u s.2.2])]) (Q [.bool !s.1] [(3,.var [.bool s.1,.i s.2.1,.u s.2.2])]))):=by kernel_rfl
def qcs (s t:SyT):List (Nat × LB):=[(4,.var [.bool s.1,.i s.2.1,.u s.2.2]),(5,.var [.bool t.1,.i t.2.1,.u t.2.2])]
theorem q3a (k:Int) (s t:SyT) (Q:QT) (R:RT):sA [] Tryd.f79 Q R [.code (qae Tryd.f79)] (entry [iI,syS,syS] (k,s,t,())) =
  (bc (decide (k=(1:Int))) (bc (decide (k=(1:Int))) (Q [.bool (decide (t.2.1=IntKind.i64.wrap (s.2.1+1)))] (qcs s t)) (bc (decide (k=(3:Int))) (Q [.bool (decide (t.2.2=s.2.2))] (qcs s t)) (Q [.bool true] (qcs s t)))) (bc (decide (k=(2:Int))) (Q [.bool (decide (t.2.1=IntKind.i64.wrap (s.2.1+1)))] (qcs s t)) (bc (decide (k=(3:Int))) (Q [.bool (decide (t.2.2=s.2.2))] (qcs s t)) (Q [.bool true] (qcs s t))))):=by kernel_rfl
theorem vc_or (x:List Int) (Q:QT) (R:RT):sA [] Tryd.f80 Q R [.code (qae Tryd.f80)] (entry [.sl iI] (x,())) =
  (R (hd Tryd.f80 0) { env:=[(0,.sl iI x),(2,.i 0),(3,.i 0),(6,.sl iI x),(7,.i (x.length:Int)),(8,.i 0)],blk:=[] }):=by kernel_rfl
theorem q09 (x:List Int) (i:Nat) (Q:QT) (R:RT):sA [] Tryd.f80 Q R (hd Tryd.f80 0) ⟨[(3,.i 0),(6,.sl iI x),(7,.i x.length),(8,.i (i:Nat))],[]⟩ =
  (bc (decide ((i:Int)<(x.length:Int))) ((0:Int)<=(i:Int)/\(i:Int)<(x.length:Int)/\bc (decide (gt iI x (i:Int).toNat≠0)) (Q [.i (gt iI x (i:Int).toNat)] []) (R (hd Tryd.f80 0) { env:=[(3,.i 0),(5,.i (gt iI x (i:Int).toNat)),(6,.sl iI x),(7,.i (x.length:Int)),(8,.i (IntKind.i64.wrap ((i:Int)+1))),(9,.bool (decide ((i:Int)<(x.length:Int)))),(10,.elv iI (gt iI x (i:Int).toNat)),(11,.i (gt iI x (i:Int).toNat)),(12,.i (gt iI x (i:Int).toNat)),(13,.i 0),(14,.bool (decide (gt iI x (i:Int).toNat≠0))),(16,.i (IntKind.i64.wrap ((i:Int)+1)))],blk:=[] })) (Q [.i 0] [])):=by kernel_rfl
def ctNan:Ctr:=⟨[iI],λ _=>True,λ _=>[.bool false],λ _=>[]⟩
theorem qze:Held Tryd.prog G0 82 ctNan:=Held.run cx0 (fn:=Tryd.f82) rfl rfl ⟨by decide,by decide⟩ λ x _=>by
 refine (qx3 x.1 _ _).mpr ?_;rw[decide_eq_false (by simp)];exact QC.flat rfl rfl rfl
def CNan:CV:=[(82,.inl ctNan)]
theorem cxNan:CxOK Tryd.prog tt G0 CNan:=cx0.k qze (fn:=Tryd.f82)
def ctCan:Ctr:=⟨[iI,syS],λ _=>True,λ x=>[.bool (canB x.1 x.2.1)],λ _=>[]⟩
theorem q5w (k:Int) (o:Bool) (a b:Int) (R:List Item->PS->Prop):sA [] Tryd.f78 (QC ctCan (k,(o,a,b),())) R [.code (qae Tryd.f78)] (entry [iI,syS] (k,(o,a,b),())):=by
 refine (q3c k (o,a,b) _ _).mpr ?_;refine qag (λ h=>?_) (λ h=>qag (λ h2=>?_) (λ h2=>?_))
 ·have h:=of_decide_eq_true h;subst h;refine qag (λ h=>?_) (λ h=>⟨rfl,?_⟩)
  ·have h:o=true:=h;subst h;exact QC.flat rfl rfl rfl
  ·have h:o=false:=h;subst h;exact QC.flat rfl rfl rfl
 ·have h2:=of_decide_eq_true h2;subst h2;exact QC.flat rfl rfl rfl
 ·have h:=of_decide_eq_false h;have h2:=of_decide_eq_false h2;refine QC.flat ?_ rfl rfl
  show [SV.bool (canB k (o,a,b))]=_
  unfold canB;rw[if_neg h,if_neg h2]
theorem q0i:Held Tryd.prog G0 78 ctCan:=Held.run cx0 (fn:=Tryd.f78) rfl rfl ⟨by decide,by decide⟩ λ ⟨k,⟨o,a,b⟩,_⟩ _=>q5w k o a b _
def ctGoe:Ctr:=⟨[iI,syS,syS],λ _=>True,λ x=>[.bool (goK x.1 x.2.1 x.2.2.1)],λ _=>[]⟩
theorem q5a (k:Int) (s t:SyT) (R:List Item->PS->Prop):sA [] Tryd.f79 (QC ctGoe (k,s,t,())) R [.code (qae Tryd.f79)] (entry [iI,syS,syS] (k,s,t,())):=by
 refine (q3a k s t _ _).mpr ?_;have out:∀ b,goK k s t=b->ctGoe.out (k,s,t,())=[SV.bool b]:=λ b e=>congrArg (λ b=>[SV.bool b]) e
 refine qag (λ h=>?_) (λ h=>qag (λ h2=>?_) (λ h2=>qag (λ h3=>?_) (λ h3=>?_)))
 ·have h:=of_decide_eq_true h;subst h;exact QC.flat (out _ rfl) rfl rfl
 ·have h2:=of_decide_eq_true h2;subst h2;exact QC.flat (out _ rfl) rfl rfl
 ·have h3:=of_decide_eq_true h3;subst h3;exact QC.flat (out _ rfl) rfl rfl
 ·have h:=of_decide_eq_false h;have h2:=of_decide_eq_false h2;have h3:=of_decide_eq_false h3;exact QC.flat (out _ (by unfold goK;rw[if_neg (by omega),if_neg h3])) rfl rfl
theorem qz0:Held Tryd.prog G0 79 ctGoe:=Held.run cx0 (fn:=Tryd.f79) rfl rfl ⟨by decide,by decide⟩ λ ⟨k,s,t,_⟩ _=>q5a k s t _
def orF:List Int->Int
 | []=>0
 | a::l=>if a≠0 then a else orF l
def ctOr:Ctr:=⟨[.sl iI],λ x=>List.length x.1<1000000,λ x=>[.i (orF x.1)],λ _=>[]⟩
theorem q4a (x:List Int) (hl:x.length<1000000):∀ (c i:Nat),x.length-i=c->i<=x.length ->
  GD 80 Tryd.f80 (λ rs _=>rs=[.i (orF (x.drop i))]) (hd Tryd.f80 0) ⟨[(3,.i 0),(6,.sl iI x),(7,.i x.length),(8,.i (i:Nat))],[]⟩:=by
 intro c
 induction c with
 | zero=>
  intro i hc hi;refine qd4 cx0 (q09 x i _ _) ?_;rw[decide_eq_false (by omega),bc_f,List.drop_eq_nil_of_le (by omega)];rfl
 | succ c ih=>
  intro i hc hi;have hil:i<x.length:=by omega
  have nx:=ih (i+1) (by omega) (by omega);have e:gt iI x i=x[i]:=gtE (e:=iI) hil;refine qd4 cx0 (q09 x i _ _) ?_;rw[decide_eq_true (show (i:Int)<(x.length:Int) by omega),bc_t,Int.toNat_natCast,IntWalk.i64_in ((i:Int)+1) (by omega),e];rw[List.drop_eq_getElem_cons hil];refine ⟨by omega,by omega,qag (λ h=>?_) (λ h=>?_)⟩
  ·have h:x[i]≠0:=of_decide_eq_true h
   show _=_
   rw[orF,if_pos h]
  ·have h:¬ x[i]≠0:=of_decide_eq_false h;rw[orF,if_neg h];exact nx.only ⟨rfl,rfl,rfl,rfl,trivial⟩ trivial
theorem q4b:Held Tryd.prog G0 80 ctOr:=
 Held.of cx0 (fn:=Tryd.f80) rfl rfl ⟨by decide,by decide⟩ λ ⟨x,_⟩ hp=>
  qd4 cx0 (vc_or x _ _) (((q4a x hp _ 0 rfl (by omega)).post λ rs blk hq=>QC.flat (by rw[hq];rfl) rfl (by rw[hq];rfl)).only ⟨rfl,rfl,rfl,rfl,trivial⟩ trivial)
def cmF (a b:Int):Int:=if a<b then -1 else if b<a then 1 else 0
def ctCmp:Ctr:=⟨[iI,iI],λ _=>True,λ x=>[.i (cmF x.1 x.2.1)],λ _=>[]⟩
set_option maxRecDepth 100000
theorem q6x (a b:Int) (Q:QT) (R:RT):sA CNan Tryd.f81 Q R [.code (qae Tryd.f81)] (entry [iI,iI] (a,b,())) =
  (ctNan.pre (a,())/\ctNan.pre (b,())/\bc (decide (a<b)) (Q [.i (-1:Int)] []) (bc (decide (b<a)) (Q [.i 1] []) (Q [.i 0] []))):=by kernel_rfl
def qda (a b:LiT):List (Nat × LB):=[(2,.var [.i a.1,.i a.2.1,.i a.2.2.1,.i a.2.2.2]),(3,.var [.i b.1,.i b.2.1,.i b.2.2.1,.i b.2.2.2])]
theorem q6o (a b:LiT) (Q:QT) (R:RT):sA [(81,.inl ctCmp),(80,.inl ctOr)] Tryd.f77 Q R [.code (qae Tryd.f77)] (entry [liS,liS] (a,b,())) =
  (bc (decide (a.2.1=(0:Int))) (true=true/\bc (decide ((0:Int)<a.2.1)) (Q [.bool (decide (b.2.1=(0:Int)))] (qda a b)) (false=false/\Q [.bool false] (qda a b))) (bc (bif false then true else decide (b.2.1=(0:Int))) (bc (decide ((0:Int)<a.2.1)) (Q [.bool (decide (b.2.1=(0:Int)))] (qda a b)) (false=false/\Q [.bool false] (qda a b))) (bc (!decide ([a.2.2.1,a.2.2.2]=[b.2.2.1,b.2.2.2])) (ctCmp.pre (a.2.2.1,b.2.2.1,())/\ctCmp.pre (a.2.2.2,b.2.2.2,())/\0+2<=(((List.replicate (2:Nat) iI.dflt).set (0:Nat) (cmF a.2.2.1 b.2.2.1)).set (1:Nat) (cmF a.2.2.2 b.2.2.2)).length/\ctOr.pre (winL iI 0 2 (((List.replicate (2:Nat) iI.dflt).set (0:Nat) (cmF a.2.2.1 b.2.2.1)).set (1:Nat) (cmF a.2.2.2 b.2.2.2)),())/\Q [.bool (decide (orF (winL iI 0 2 (((List.replicate (2:Nat) iI.dflt).set (0:Nat) (cmF a.2.2.1 b.2.2.1)).set (1:Nat) (cmF a.2.2.2 b.2.2.2)))<0))] [(2,.var [.i a.1,.i a.2.1,.i a.2.2.1,.i a.2.2.2]),(3,.var [.i b.1,.i b.2.1,.i b.2.2.1,.i b.2.2.2]),(42,.row 3 iI (((List.replicate (2:Nat) iI.dflt).set (0:Nat) (cmF a.2.2.1 b.2.2.1)).set (1:Nat) (cmF a.2.2.2 b.2.2.2)))]) (bc (decide (a.1≠b.1)) (Q [.bool (decide (a.1<b.1))] (qda a b)) (Q [.bool (decide (b.2.1<a.2.1))] (qda a b)))))):=by kernel_rfl
end Go.Proofs.YtdeacfammdjajaaDoor
