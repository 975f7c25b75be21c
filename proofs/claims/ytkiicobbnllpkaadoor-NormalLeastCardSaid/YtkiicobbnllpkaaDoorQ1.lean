/-
  A part of the proof: what pieces of the program give; conditions: those of each theorem.
-/
import Derived.Test.YtkiicobbnllpkaaDoorQ0
set_option linter.unusedVariables false
set_option linter.unusedSimpArgs false
namespace Go.Proofs.YtkiicobbnllpkaaDoor
open Go.Px Go.Ax
set_option maxRecDepth 100000
attribute [local irreducible] Go.Px.sy Go.Px.syE
theorem QI.row {ct:CtrI} {x:DI ct.args} {rs:List SV} {blk:List (Nat × LB)} {e:Sh} {et:TypeId} {a k:Nat} {xs:List e.D} (h:ct.out x=[.win true e 0 0 xs.length]) (hr:ct.blk x=[(0,.row et e xs)]) (hs:rs=[.win true e a 0 k]) (hk:k=xs.length) (hb:lk blk a=some (.row et e xs)) (ha:a<BIG):QI ct x rs blk:=by
 subst hs;subst hk
 refine ⟨[(0,a)],?_,?_,by simp,fun p hp=>by simp at hp;subst hp;exact ha⟩
 ·rw [h]
  exact ⟨_,_,rfl,.inl ⟨true,a,rfl,rfl,fun h=>h⟩,rfl⟩
 ·rw [hr]
  exact ⟨.inl ⟨a,_,rfl,hb,rfl⟩,trivial⟩
def gen (el:Nat→SyT):Nat→Nat→List SyT
 | 0,_=>[]
 | k+1,i=>el i::gen el k (i+1)
theorem gen_len (el:Nat→SyT):∀ k i,(gen el k i).length=k
 | 0,_=>rfl
 | k+1,i=>by rw [gen,List.length_cons,gen_len el k]
def elO (t:Nat) (x:OpT) (i:Nat):SyT:=match t with
 | 1=>(true,IntKind.i64.wrap (x.2.1+i),0)
 | 2=>(true,IntKind.i64.wrap (x.2.1+i),gtB x.2.2.2.2 i)
 | 3=>(false,0,x.2.2.2.1)
 | _=>(false,0,gtB x.2.2.2.2 i)
def cntO (t:Nat) (x:OpT):Nat:=match t with
 | 1=>x.2.2.1.toNat
 | 3=>x.2.2.1.toNat
 | _=>x.2.2.2.2.length
def symsO (t:Nat) (x:OpT):List SyT:=gen (elO t x) (cntO t x) 0
def preA (t:Nat) (x:OpT) (o:List SyT):Prop:=1≤cntO t x∧o.length+cntO t x<268435456∧x.2.2.1<268435456
abbrev KA:List AK:=[.dat opS,.row 52 syS]
def ctA (t:Nat):CtrI:=⟨KA,fun x=>preA t x.1 x.2.1,fun x=>[.win true syS 0 0 (List.length (x.2.1++symsO t x.1))],fun x=>[(0,.row 52 syS (x.2.1++symsO t x.1))]⟩
abbrev GQ (t:Nat) (x:OpT) (o:List SyT):List SV→List (Nat × LB)→Prop:=QI (ctA t) (x,o,())
theorem copyA_loop (k f n b:Int) (d:List Int) (o0:List SyT) (hb:n<268435456∧True):∀ (c i:Nat) (o:List SyT),cntO 1 (k,f,n,b,d) - i=c→i≤cntO 1 (k,f,n,b,d)→o.length+c<268435456→o++gen (elO 1 (k,f,n,b,d)) c i=o0++symsO 1 (k,f,n,b,d) →
  GD 83 Tryd.f83 (GQ 1 (k,f,n,b,d) o0) (hd Tryd.f83 0) ⟨[(1,.win true syS 1 0 o.length),(2,.ptr 2 0),(7,.int .i64 n),(8,.int .i64 (i:Nat))],[(2,.var [.int .i64 k,.int .i64 f,.int .i64 n,.int .u8 b,.sl uB d]),(1,.row 52 syS o)]⟩:=by
 intro c
 induction c with
 | zero=>
  intro i o hc hi hl he
  have hn:cntO 1 (k,f,n,b,d)=n.toNat:=rfl
  refine sy_sound cx0 _ _ _ ((vc_copyA2 k f n b d o i _ _).mpr ?_)
  rw [decide_eq_false (by omega),bc_f]
  have he:o=o0++symsO 1 (k,f,n,b,d):=by simpa [gen] using he
  exact QI.row (e:=syS) (et:=52) (a:=1) (xs:=o0++symsO 1 (k,f,n,b,d)) rfl rfl (by rw [he]) rfl (by rw [he];rfl) (by decide)
 | succ c ih=>
  intro i o hc hi hl he
  have hn:cntO 1 (k,f,n,b,d)=n.toNat:=rfl
  refine sy_sound cx0 _ _ _ ((vc_copyA2 k f n b d o i _ _).mpr ?_)
  rw [decide_eq_true (show (i:Int)<n by omega),bc_t,IntWalk.i64_in ((i:Int)+1) (by omega)]
  refine ⟨Nat.le_refl 1,rfl,rfl,?_,by decide,?_⟩
  ·show o.length+1<2 ^ 30
   omega
  ·refine Good.onlyR (ih (i+1) (o++[elO 1 (k,f,n,b,d) i]) (by omega) (by omega) (by rw [List.length_append,List.length_singleton];omega) (by rw [List.append_assoc];exact he)) [(1,18)] rfl ⟨by rw [List.length_append];rfl,rfl,rfl,rfl,trivial⟩ ⟨rfl,rfl,trivial⟩
theorem copyA_held:HeldI Tryd.prog G0 83 (ctA 1):=by
 refine HeldI.run cx0 (fn:=Tryd.f83) rfl rfl ⟨by decide,by decide⟩ ?_
 rintro ⟨⟨k,f,n,b,d⟩,o,⟨⟩⟩ hp
 obtain ⟨h1,h2,h3⟩:preA 1 (k,f,n,b,d) o:=hp
 have hn:cntO 1 (k,f,n,b,d)=n.toNat:=rfl
 replace h3:n<268435456:=h3
 refine (vc_copyA k f n b d o _ _).mpr ?_
 have hb:n<268435456∧True:=⟨h3,trivial⟩
 obtain ⟨c,hc⟩:∃ c,cntO 1 (k,f,n,b,d)=c+1:=⟨cntO 1 (k,f,n,b,d) - 1,by omega⟩
 have e:GD 83 Tryd.f83 (GQ 1 (k,f,n,b,d) o) (hd Tryd.f83 0) ⟨[(1,.win true syS 1099511627776 0 o.length),(2,.ptr 2 0),(7,.int .i64 n),(8,.int .i64 ((0:Nat):Int))],[(2,.var [.int .i64 k,.int .i64 f,.int .i64 n,.int .u8 b,.sl uB d]),(1099511627776,.row 52 syS o)]⟩:=by
  refine sy_sound cx0 _ _ _ ((vc_copyA1 k f n b d o 0 _ _).mpr ?_)
  rw [decide_eq_true (show ((0:Nat):Int)<n by omega),bc_t,IntWalk.i64_in (((0:Nat):Int)+1) (by omega)]
  refine ⟨Nat.le_refl 1,rfl,rfl,?_,by decide,?_⟩
  ·show o.length+1<2 ^ 30
   omega
  ·refine Good.onlyR (copyA_loop k f n b d o ⟨h3,trivial⟩ c 1 (o++[elO 1 (k,f,n,b,d) 0]) (by omega) (by omega) (by rw [List.length_append,List.length_singleton];omega) (by rw [List.append_assoc];unfold symsO;rw [hc];rfl)) [(1,18)] rfl ⟨by rw [List.length_append];rfl,rfl,rfl,rfl,trivial⟩ ⟨rfl,rfl,trivial⟩
 exact e.only ⟨rfl,rfl,rfl,rfl,trivial⟩ ⟨rfl,rfl,trivial⟩
theorem diffA_loop (k f n b:Int) (d:List Int) (o0:List SyT) (hb:n<268435456∧d.length<268435456):∀ (c i:Nat) (o:List SyT),cntO 2 (k,f,n,b,d) - i=c→i≤cntO 2 (k,f,n,b,d)→o.length+c<268435456→o++gen (elO 2 (k,f,n,b,d)) c i=o0++symsO 2 (k,f,n,b,d) →
  GD 87 Tryd.f87 (GQ 2 (k,f,n,b,d) o0) (hd Tryd.f87 0) ⟨[(1,.win true syS 1 0 o.length),(2,.ptr 2 0),(8,.sl uB d),(9,.int .i64 d.length),(10,.int .i64 (i:Nat))],[(2,.var [.int .i64 k,.int .i64 f,.int .i64 n,.int .u8 b,.sl uB d]),(1,.row 52 syS o)]⟩:=by
 intro c
 induction c with
 | zero=>
  intro i o hc hi hl he
  have hn:cntO 2 (k,f,n,b,d)=d.length:=rfl
  refine sy_sound cx0 _ _ _ ((vc_diffA2 k f n b d o i _ _).mpr ?_)
  rw [decide_eq_false (by omega),bc_f]
  have he:o=o0++symsO 2 (k,f,n,b,d):=by simpa [gen] using he
  exact QI.row (e:=syS) (et:=52) (a:=1) (xs:=o0++symsO 2 (k,f,n,b,d)) rfl rfl (by rw [he]) rfl (by rw [he];rfl) (by decide)
 | succ c ih=>
  intro i o hc hi hl he
  have hn:cntO 2 (k,f,n,b,d)=d.length:=rfl
  refine sy_sound cx0 _ _ _ ((vc_diffA2 k f n b d o i _ _).mpr ?_)
  rw [decide_eq_true (show (i:Int)<(d.length:Int) by omega),bc_t,IntWalk.i64_in ((i:Int)+1) (by omega),Int.toNat_natCast]
  refine ⟨by omega,by omega,Nat.le_refl 1,rfl,rfl,?_,by decide,?_⟩
  ·show o.length+1<2 ^ 30
   omega
  ·refine Good.onlyR (ih (i+1) (o++[elO 2 (k,f,n,b,d) i]) (by omega) (by omega) (by rw [List.length_append,List.length_singleton];omega) (by rw [List.append_assoc];exact he)) [(1,23)] rfl ⟨by rw [List.length_append];rfl,rfl,rfl,rfl,rfl,trivial⟩ ⟨rfl,rfl,trivial⟩
theorem diffA_held:HeldI Tryd.prog G0 87 (ctA 2):=by
 refine HeldI.run cx0 (fn:=Tryd.f87) rfl rfl ⟨by decide,by decide⟩ ?_
 rintro ⟨⟨k,f,n,b,d⟩,o,⟨⟩⟩ hp
 obtain ⟨h1,h2,h3⟩:preA 2 (k,f,n,b,d) o:=hp
 have hn:cntO 2 (k,f,n,b,d)=d.length:=rfl
 replace h3:n<268435456:=h3
 refine (vc_diffA k f n b d o _ _).mpr ?_
 have hb:n<268435456∧d.length<268435456:=⟨h3,by omega⟩
 obtain ⟨c,hc⟩:∃ c,cntO 2 (k,f,n,b,d)=c+1:=⟨cntO 2 (k,f,n,b,d) - 1,by omega⟩
 have e:GD 87 Tryd.f87 (GQ 2 (k,f,n,b,d) o) (hd Tryd.f87 0) ⟨[(1,.win true syS 1099511627776 0 o.length),(2,.ptr 2 0),(8,.sl uB d),(9,.int .i64 d.length),(10,.int .i64 ((0:Nat):Int))],[(2,.var [.int .i64 k,.int .i64 f,.int .i64 n,.int .u8 b,.sl uB d]),(1099511627776,.row 52 syS o)]⟩:=by
  refine sy_sound cx0 _ _ _ ((vc_diffA1 k f n b d o 0 _ _).mpr ?_)
  rw [decide_eq_true (show ((0:Nat):Int)<(d.length:Int) by omega),bc_t,IntWalk.i64_in (((0:Nat):Int)+1) (by omega),Int.toNat_natCast]
  refine ⟨by omega,by omega,Nat.le_refl 1,rfl,rfl,?_,by decide,?_⟩
  ·show o.length+1<2 ^ 30
   omega
  ·refine Good.onlyR (diffA_loop k f n b d o hb c 1 (o++[elO 2 (k,f,n,b,d) 0]) (by omega) (by omega) (by rw [List.length_append,List.length_singleton];omega) (by rw [List.append_assoc];unfold symsO;rw [hc];rfl)) [(1,23)] rfl ⟨by rw [List.length_append];rfl,rfl,rfl,rfl,rfl,trivial⟩ ⟨rfl,rfl,trivial⟩
 exact e.only ⟨rfl,rfl,rfl,rfl,rfl,trivial⟩ ⟨rfl,rfl,trivial⟩
theorem runA_loop (k f n b:Int) (d:List Int) (o0:List SyT) (hb:n<268435456∧True):∀ (c i:Nat) (o:List SyT),cntO 3 (k,f,n,b,d) - i=c→i≤cntO 3 (k,f,n,b,d)→o.length+c<268435456→o++gen (elO 3 (k,f,n,b,d)) c i=o0++symsO 3 (k,f,n,b,d) →
  GD 90 Tryd.f90 (GQ 3 (k,f,n,b,d) o0) (hd Tryd.f90 0) ⟨[(1,.win true syS 1 0 o.length),(2,.ptr 2 0),(6,.int .i64 n),(7,.int .i64 (i:Nat))],[(2,.var [.int .i64 k,.int .i64 f,.int .i64 n,.int .u8 b,.sl uB d]),(1,.row 52 syS o)]⟩:=by
 intro c
 induction c with
 | zero=>
  intro i o hc hi hl he
  have hn:cntO 3 (k,f,n,b,d)=n.toNat:=rfl
  refine sy_sound cx0 _ _ _ ((vc_runA2 k f n b d o i _ _).mpr ?_)
  rw [decide_eq_false (by omega),bc_f]
  have he:o=o0++symsO 3 (k,f,n,b,d):=by simpa [gen] using he
  exact QI.row (e:=syS) (et:=52) (a:=1) (xs:=o0++symsO 3 (k,f,n,b,d)) rfl rfl (by rw [he]) rfl (by rw [he];rfl) (by decide)
 | succ c ih=>
  intro i o hc hi hl he
  have hn:cntO 3 (k,f,n,b,d)=n.toNat:=rfl
  refine sy_sound cx0 _ _ _ ((vc_runA2 k f n b d o i _ _).mpr ?_)
  rw [decide_eq_true (show (i:Int)<n by omega),bc_t,IntWalk.i64_in ((i:Int)+1) (by omega)]
  refine ⟨Nat.le_refl 1,rfl,rfl,?_,by decide,?_⟩
  ·show o.length+1<2 ^ 30
   omega
  ·refine Good.onlyR (ih (i+1) (o++[elO 3 (k,f,n,b,d) i]) (by omega) (by omega) (by rw [List.length_append,List.length_singleton];omega) (by rw [List.append_assoc];exact he)) [(1,14)] rfl ⟨by rw [List.length_append];rfl,rfl,rfl,rfl,trivial⟩ ⟨rfl,rfl,trivial⟩
theorem runA_held:HeldI Tryd.prog G0 90 (ctA 3):=by
 refine HeldI.run cx0 (fn:=Tryd.f90) rfl rfl ⟨by decide,by decide⟩ ?_
 rintro ⟨⟨k,f,n,b,d⟩,o,⟨⟩⟩ hp
 obtain ⟨h1,h2,h3⟩:preA 3 (k,f,n,b,d) o:=hp
 have hn:cntO 3 (k,f,n,b,d)=n.toNat:=rfl
 replace h3:n<268435456:=h3
 refine (vc_runA k f n b d o _ _).mpr ?_
 have hb:n<268435456∧True:=⟨h3,trivial⟩
 obtain ⟨c,hc⟩:∃ c,cntO 3 (k,f,n,b,d)=c+1:=⟨cntO 3 (k,f,n,b,d) - 1,by omega⟩
 have e:GD 90 Tryd.f90 (GQ 3 (k,f,n,b,d) o) (hd Tryd.f90 0) ⟨[(1,.win true syS 1099511627776 0 o.length),(2,.ptr 2 0),(6,.int .i64 n),(7,.int .i64 ((0:Nat):Int))],[(2,.var [.int .i64 k,.int .i64 f,.int .i64 n,.int .u8 b,.sl uB d]),(1099511627776,.row 52 syS o)]⟩:=by
  refine sy_sound cx0 _ _ _ ((vc_runA1 k f n b d o 0 _ _).mpr ?_)
  rw [decide_eq_true (show ((0:Nat):Int)<n by omega),bc_t,IntWalk.i64_in (((0:Nat):Int)+1) (by omega)]
  refine ⟨Nat.le_refl 1,rfl,rfl,?_,by decide,?_⟩
  ·show o.length+1<2 ^ 30
   omega
  ·refine Good.onlyR (runA_loop k f n b d o ⟨h3,trivial⟩ c 1 (o++[elO 3 (k,f,n,b,d) 0]) (by omega) (by omega) (by rw [List.length_append,List.length_singleton];omega) (by rw [List.append_assoc];unfold symsO;rw [hc];rfl)) [(1,14)] rfl ⟨by rw [List.length_append];rfl,rfl,rfl,rfl,trivial⟩ ⟨rfl,rfl,trivial⟩
 exact e.only ⟨rfl,rfl,rfl,rfl,trivial⟩ ⟨rfl,rfl,trivial⟩
theorem litA_loop (k f n b:Int) (d:List Int) (o0:List SyT) (hb:n<268435456∧d.length<268435456):∀ (c i:Nat) (o:List SyT),cntO 4 (k,f,n,b,d) - i=c→i≤cntO 4 (k,f,n,b,d)→o.length+c<268435456→o++gen (elO 4 (k,f,n,b,d)) c i=o0++symsO 4 (k,f,n,b,d) →
  GD 93 Tryd.f93 (GQ 4 (k,f,n,b,d) o0) (hd Tryd.f93 0) ⟨[(1,.win true syS 1 0 o.length),(2,.ptr 2 0),(8,.sl uB d),(9,.int .i64 d.length),(10,.int .i64 (i:Nat))],[(2,.var [.int .i64 k,.int .i64 f,.int .i64 n,.int .u8 b,.sl uB d]),(1,.row 52 syS o)]⟩:=by
 intro c
 induction c with
 | zero=>
  intro i o hc hi hl he
  have hn:cntO 4 (k,f,n,b,d)=d.length:=rfl
  refine sy_sound cx0 _ _ _ ((vc_litA2 k f n b d o i _ _).mpr ?_)
  rw [decide_eq_false (by omega),bc_f]
  have he:o=o0++symsO 4 (k,f,n,b,d):=by simpa [gen] using he
  exact QI.row (e:=syS) (et:=52) (a:=1) (xs:=o0++symsO 4 (k,f,n,b,d)) rfl rfl (by rw [he]) rfl (by rw [he];rfl) (by decide)
 | succ c ih=>
  intro i o hc hi hl he
  have hn:cntO 4 (k,f,n,b,d)=d.length:=rfl
  refine sy_sound cx0 _ _ _ ((vc_litA2 k f n b d o i _ _).mpr ?_)
  rw [decide_eq_true (show (i:Int)<(d.length:Int) by omega),bc_t,IntWalk.i64_in ((i:Int)+1) (by omega),Int.toNat_natCast]
  refine ⟨by omega,by omega,Nat.le_refl 1,rfl,rfl,?_,by decide,?_⟩
  ·show o.length+1<2 ^ 30
   omega
  ·refine Good.onlyR (ih (i+1) (o++[elO 4 (k,f,n,b,d) i]) (by omega) (by omega) (by rw [List.length_append,List.length_singleton];omega) (by rw [List.append_assoc];exact he)) [(1,18)] rfl ⟨by rw [List.length_append];rfl,rfl,rfl,rfl,rfl,trivial⟩ ⟨rfl,rfl,trivial⟩
theorem litA_held:HeldI Tryd.prog G0 93 (ctA 4):=by
 refine HeldI.run cx0 (fn:=Tryd.f93) rfl rfl ⟨by decide,by decide⟩ ?_
 rintro ⟨⟨k,f,n,b,d⟩,o,⟨⟩⟩ hp
 obtain ⟨h1,h2,h3⟩:preA 4 (k,f,n,b,d) o:=hp
 have hn:cntO 4 (k,f,n,b,d)=d.length:=rfl
 replace h3:n<268435456:=h3
 refine (vc_litA k f n b d o _ _).mpr ?_
 have hb:n<268435456∧d.length<268435456:=⟨h3,by omega⟩
 obtain ⟨c,hc⟩:∃ c,cntO 4 (k,f,n,b,d)=c+1:=⟨cntO 4 (k,f,n,b,d) - 1,by omega⟩
 have e:GD 93 Tryd.f93 (GQ 4 (k,f,n,b,d) o) (hd Tryd.f93 0) ⟨[(1,.win true syS 1099511627776 0 o.length),(2,.ptr 2 0),(8,.sl uB d),(9,.int .i64 d.length),(10,.int .i64 ((0:Nat):Int))],[(2,.var [.int .i64 k,.int .i64 f,.int .i64 n,.int .u8 b,.sl uB d]),(1099511627776,.row 52 syS o)]⟩:=by
  refine sy_sound cx0 _ _ _ ((vc_litA1 k f n b d o 0 _ _).mpr ?_)
  rw [decide_eq_true (show ((0:Nat):Int)<(d.length:Int) by omega),bc_t,IntWalk.i64_in (((0:Nat):Int)+1) (by omega),Int.toNat_natCast]
  refine ⟨by omega,by omega,Nat.le_refl 1,rfl,rfl,?_,by decide,?_⟩
  ·show o.length+1<2 ^ 30
   omega
  ·refine Good.onlyR (litA_loop k f n b d o hb c 1 (o++[elO 4 (k,f,n,b,d) 0]) (by omega) (by omega) (by rw [List.length_append,List.length_singleton];omega) (by rw [List.append_assoc];unfold symsO;rw [hc];rfl)) [(1,18)] rfl ⟨by rw [List.length_append];rfl,rfl,rfl,rfl,rfl,trivial⟩ ⟨rfl,rfl,trivial⟩
 exact e.only ⟨rfl,rfl,rfl,rfl,rfl,trivial⟩ ⟨rfl,rfl,trivial⟩
end Go.Proofs.YtkiicobbnllpkaaDoor
namespace Go.Proofs.YtkiicobbnllpkaaDoor
open Go.Px Go.Ax
set_option maxRecDepth 100000
def CA:CV:=(93,.inr (ctA 4))::(90,.inr (ctA 3))::(87,.inr (ctA 2))::(83,.inr (ctA 1))::(49,.inl ctChk)::C1
theorem cxA:CxOK Tryd.prog tt G0 CA:=((((cx1.cons chk_held (fn:=Tryd.f49) rfl rfl rfl).consI copyA_held (fn:=Tryd.f83) rfl rfl rfl).consI diffA_held (fn:=Tryd.f87) rfl rfl rfl).consI runA_held (fn:=Tryd.f90) rfl rfl rfl).consI litA_held (fn:=Tryd.f93) rfl rfl rfl
def E1:CV:=(47,.inl (ctO 1 93))::CA
def E2:CV:=(47,.inl (ctO 2 94))::CA
def E3:CV:=(47,.inl (ctO 3 95))::CA
def E4:CV:=(47,.inl (ctO 4 96))::CA
theorem ex1:CxOK Tryd.prog tt G0 E1:=cxA.cons o1_held (fn:=Tryd.f47) rfl rfl rfl
theorem ex2:CxOK Tryd.prog tt G0 E2:=cxA.cons o2_held (fn:=Tryd.f47) rfl rfl rfl
theorem ex3:CxOK Tryd.prog tt G0 E3:=cxA.cons o3_held (fn:=Tryd.f47) rfl rfl rfl
theorem ex4:CxOK Tryd.prog tt G0 E4:=cxA.cons o4_held (fn:=Tryd.f47) rfl rfl rfl
set_option maxRecDepth 100000
theorem vc_syms (li:Bool) (m o:Int) (l:List OpT) (Q:QT) (R:RT):sy tt G0 CA Tryd.f31.ntmps Tryd.f31.results.toList Q R 1000 [.code (bodyOf Tryd.f31)] (entry [paS] ((li,m,o,l),())) =
  (ctChk.pre ((li,m,o,l),()) ∧
 bc (decide ((chkV (li,m,o,l)).2≠(0:Int))) (Q [.nils,.int .i64 (chkV (li,m,o,l)).2] [(1,.var [.bool li,.int .i64 m,.int .i64 o,.sl opS l])]) ((0:Int)≤(0:Int) ∧
 (0:Int)≤o ∧
 o<(2:Int) ^ (24:Nat) ∧
 (↑(24:Nat):Int) * o≤(2:Int) ^ (48:Nat) ∧
 R (hd Tryd.f31 0) { env:=[(0,.agg [.bool li,.int .i64 m,.int .i64 o,.sl opS l]),(1,.ptr 1 0),(2,.nils),(3,.int .i64 0),(4,.int .i64 (chkV (li,m,o,l)).1),(5,.int .i64 (chkV (li,m,o,l)).2),(6,.win true syS 19 0 (0:Nat)),(9,SV.tup [.int .i64 (chkV (li,m,o,l)).1,.int .i64 (chkV (li,m,o,l)).2]),(10,.agg [.bool li,.int .i64 m,.int .i64 o,.sl opS l]),(11,SV.tup [.int .i64 (chkV (li,m,o,l)).1,.int .i64 (chkV (li,m,o,l)).2]),(12,.int .i64 (chkV (li,m,o,l)).1),(13,.int .i64 (chkV (li,m,o,l)).2),(14,.int .i64 (chkV (li,m,o,l)).2),(15,.bool (decide ((chkV (li,m,o,l)).2≠(0:Int)))),(17,.ptr 1 2),(18,.int .i64 o),(19,.win true syS 19 0 (0:Nat)),(20,.ptr 1 3),(21,.sl opS l),(22,.int .i64 (l.length:Int)),(23,.int .i64 0)],blk:=[(1,.var [.bool li,.int .i64 m,.int .i64 o,.sl opS l]),(19,.row 52 syS (List.replicate (0) syS.dflt))] })):=by kernel_rfl
theorem vc_symsL1 (li:Bool) (m o:Int) (l:List OpT) (s:List SyT) (i:Nat) (Q:QT) (R:RT):sy tt G0 E1 Tryd.f31.ntmps Tryd.f31.results.toList Q R 1000 (hd Tryd.f31 0) ⟨[(1,.ptr 1 0),(6,.win true syS 19 0 s.length),(21,.sl opS l),(22,.int .i64 l.length),(23,.int .i64 (i:Nat))],[(1,.var [.bool li,.int .i64 m,.int .i64 o,.sl opS l]),(19,.row 52 syS s)]⟩ =
  (bc (decide ((i:Int)<(l.length:Int))) ((0:Int)≤(i:Int) ∧
 (i:Int)<(l.length:Int) ∧
 (ctO (1:Int) (93:Nat)).pre ((gtO l (i:Int).toNat),()) ∧
 s.length=s.length ∧
 (ctA (1:Nat)).pre ((gtO l (i:Int).toNat),s,()) ∧
 R (hd Tryd.f31 0) { env:=[(1,.ptr 1 0),(6,.win true syS 1122880 0 (List.length (s++symsO (1:Nat) (gtO l (i:Int).toNat)))),(8,.ptr 8 0),(21,.sl opS l),(22,.int .i64 (l.length:Int)),(23,.int .i64 (IntKind.i64.wrap ((i:Int)+(1:Int)))),(24,.bool (decide ((i:Int)<(l.length:Int)))),(25,.elv opS (gtO l (i:Int).toNat)),(26,.agg [.int .i64 (gtO l (i:Int).toNat).1,.int .i64 (gtO l (i:Int).toNat).2.1,.int .i64 (gtO l (i:Int).toNat).2.2.1,.int .u8 (gtO l (i:Int).toNat).2.2.2.1,.sl uB (gtO l (i:Int).toNat).2.2.2.2]),(27,.agg [.int .i64 (gtO l (i:Int).toNat).1,.int .i64 (gtO l (i:Int).toNat).2.1,.int .i64 (gtO l (i:Int).toNat).2.2.1,.int .u8 (gtO l (i:Int).toNat).2.2.2.1,.sl uB (gtO l (i:Int).toNat).2.2.2.2]),(28,.ifc (93:Nat) true [.int .i64 (gtO l (i:Int).toNat).1,.int .i64 (gtO l (i:Int).toNat).2.1,.int .i64 (gtO l (i:Int).toNat).2.2.1,.int .u8 (gtO l (i:Int).toNat).2.2.2.1,.sl uB (gtO l (i:Int).toNat).2.2.2.2]),(29,.dead),(30,.win true syS 1122880 0 (List.length (s++symsO (1:Nat) (gtO l (i:Int).toNat)))),(31,.int .i64 (IntKind.i64.wrap ((i:Int)+(1:Int))))],blk:=[(1,.var [.bool li,.int .i64 m,.int .i64 o,.sl opS l]),(8,.var [.int .i64 (gtO l (i:Int).toNat).1,.int .i64 (gtO l (i:Int).toNat).2.1,.int .i64 (gtO l (i:Int).toNat).2.2.1,.int .u8 (gtO l (i:Int).toNat).2.2.2.1,.sl uB (gtO l (i:Int).toNat).2.2.2.2]),(1122880,.row 52 syS (s++symsO (1:Nat) (gtO l (i:Int).toNat)))] }) (Q [.win true syS 19 0 s.length,.int .i64 0] [(1,.var [.bool li,.int .i64 m,.int .i64 o,.sl opS l]),(19,.row 52 syS s)])):=by kernel_rfl
theorem vc_symsL2 (li:Bool) (m o:Int) (l:List OpT) (s:List SyT) (i:Nat) (Q:QT) (R:RT):sy tt G0 E2 Tryd.f31.ntmps Tryd.f31.results.toList Q R 1000 (hd Tryd.f31 0) ⟨[(1,.ptr 1 0),(6,.win true syS 19 0 s.length),(21,.sl opS l),(22,.int .i64 l.length),(23,.int .i64 (i:Nat))],[(1,.var [.bool li,.int .i64 m,.int .i64 o,.sl opS l]),(19,.row 52 syS s)]⟩ =
  (bc (decide ((i:Int)<(l.length:Int))) ((0:Int)≤(i:Int) ∧
 (i:Int)<(l.length:Int) ∧
 (ctO (2:Int) (94:Nat)).pre ((gtO l (i:Int).toNat),()) ∧
 s.length=s.length ∧
 (ctA (2:Nat)).pre ((gtO l (i:Int).toNat),s,()) ∧
 R (hd Tryd.f31 0) { env:=[(1,.ptr 1 0),(6,.win true syS 1122880 0 (List.length (s++symsO (2:Nat) (gtO l (i:Int).toNat)))),(8,.ptr 8 0),(21,.sl opS l),(22,.int .i64 (l.length:Int)),(23,.int .i64 (IntKind.i64.wrap ((i:Int)+(1:Int)))),(24,.bool (decide ((i:Int)<(l.length:Int)))),(25,.elv opS (gtO l (i:Int).toNat)),(26,.agg [.int .i64 (gtO l (i:Int).toNat).1,.int .i64 (gtO l (i:Int).toNat).2.1,.int .i64 (gtO l (i:Int).toNat).2.2.1,.int .u8 (gtO l (i:Int).toNat).2.2.2.1,.sl uB (gtO l (i:Int).toNat).2.2.2.2]),(27,.agg [.int .i64 (gtO l (i:Int).toNat).1,.int .i64 (gtO l (i:Int).toNat).2.1,.int .i64 (gtO l (i:Int).toNat).2.2.1,.int .u8 (gtO l (i:Int).toNat).2.2.2.1,.sl uB (gtO l (i:Int).toNat).2.2.2.2]),(28,.ifc (94:Nat) true [.int .i64 (gtO l (i:Int).toNat).1,.int .i64 (gtO l (i:Int).toNat).2.1,.int .i64 (gtO l (i:Int).toNat).2.2.1,.int .u8 (gtO l (i:Int).toNat).2.2.2.1,.sl uB (gtO l (i:Int).toNat).2.2.2.2]),(29,.dead),(30,.win true syS 1122880 0 (List.length (s++symsO (2:Nat) (gtO l (i:Int).toNat)))),(31,.int .i64 (IntKind.i64.wrap ((i:Int)+(1:Int))))],blk:=[(1,.var [.bool li,.int .i64 m,.int .i64 o,.sl opS l]),(8,.var [.int .i64 (gtO l (i:Int).toNat).1,.int .i64 (gtO l (i:Int).toNat).2.1,.int .i64 (gtO l (i:Int).toNat).2.2.1,.int .u8 (gtO l (i:Int).toNat).2.2.2.1,.sl uB (gtO l (i:Int).toNat).2.2.2.2]),(1122880,.row 52 syS (s++symsO (2:Nat) (gtO l (i:Int).toNat)))] }) (Q [.win true syS 19 0 s.length,.int .i64 0] [(1,.var [.bool li,.int .i64 m,.int .i64 o,.sl opS l]),(19,.row 52 syS s)])):=by kernel_rfl
theorem vc_symsL3 (li:Bool) (m o:Int) (l:List OpT) (s:List SyT) (i:Nat) (Q:QT) (R:RT):sy tt G0 E3 Tryd.f31.ntmps Tryd.f31.results.toList Q R 1000 (hd Tryd.f31 0) ⟨[(1,.ptr 1 0),(6,.win true syS 19 0 s.length),(21,.sl opS l),(22,.int .i64 l.length),(23,.int .i64 (i:Nat))],[(1,.var [.bool li,.int .i64 m,.int .i64 o,.sl opS l]),(19,.row 52 syS s)]⟩ =
  (bc (decide ((i:Int)<(l.length:Int))) ((0:Int)≤(i:Int) ∧
 (i:Int)<(l.length:Int) ∧
 (ctO (3:Int) (95:Nat)).pre ((gtO l (i:Int).toNat),()) ∧
 s.length=s.length ∧
 (ctA (3:Nat)).pre ((gtO l (i:Int).toNat),s,()) ∧
 R (hd Tryd.f31 0) { env:=[(1,.ptr 1 0),(6,.win true syS 1122880 0 (List.length (s++symsO (3:Nat) (gtO l (i:Int).toNat)))),(8,.ptr 8 0),(21,.sl opS l),(22,.int .i64 (l.length:Int)),(23,.int .i64 (IntKind.i64.wrap ((i:Int)+(1:Int)))),(24,.bool (decide ((i:Int)<(l.length:Int)))),(25,.elv opS (gtO l (i:Int).toNat)),(26,.agg [.int .i64 (gtO l (i:Int).toNat).1,.int .i64 (gtO l (i:Int).toNat).2.1,.int .i64 (gtO l (i:Int).toNat).2.2.1,.int .u8 (gtO l (i:Int).toNat).2.2.2.1,.sl uB (gtO l (i:Int).toNat).2.2.2.2]),(27,.agg [.int .i64 (gtO l (i:Int).toNat).1,.int .i64 (gtO l (i:Int).toNat).2.1,.int .i64 (gtO l (i:Int).toNat).2.2.1,.int .u8 (gtO l (i:Int).toNat).2.2.2.1,.sl uB (gtO l (i:Int).toNat).2.2.2.2]),(28,.ifc (95:Nat) true [.int .i64 (gtO l (i:Int).toNat).1,.int .i64 (gtO l (i:Int).toNat).2.1,.int .i64 (gtO l (i:Int).toNat).2.2.1,.int .u8 (gtO l (i:Int).toNat).2.2.2.1,.sl uB (gtO l (i:Int).toNat).2.2.2.2]),(29,.dead),(30,.win true syS 1122880 0 (List.length (s++symsO (3:Nat) (gtO l (i:Int).toNat)))),(31,.int .i64 (IntKind.i64.wrap ((i:Int)+(1:Int))))],blk:=[(1,.var [.bool li,.int .i64 m,.int .i64 o,.sl opS l]),(8,.var [.int .i64 (gtO l (i:Int).toNat).1,.int .i64 (gtO l (i:Int).toNat).2.1,.int .i64 (gtO l (i:Int).toNat).2.2.1,.int .u8 (gtO l (i:Int).toNat).2.2.2.1,.sl uB (gtO l (i:Int).toNat).2.2.2.2]),(1122880,.row 52 syS (s++symsO (3:Nat) (gtO l (i:Int).toNat)))] }) (Q [.win true syS 19 0 s.length,.int .i64 0] [(1,.var [.bool li,.int .i64 m,.int .i64 o,.sl opS l]),(19,.row 52 syS s)])):=by kernel_rfl
theorem vc_symsL4 (li:Bool) (m o:Int) (l:List OpT) (s:List SyT) (i:Nat) (Q:QT) (R:RT):sy tt G0 E4 Tryd.f31.ntmps Tryd.f31.results.toList Q R 1000 (hd Tryd.f31 0) ⟨[(1,.ptr 1 0),(6,.win true syS 19 0 s.length),(21,.sl opS l),(22,.int .i64 l.length),(23,.int .i64 (i:Nat))],[(1,.var [.bool li,.int .i64 m,.int .i64 o,.sl opS l]),(19,.row 52 syS s)]⟩ =
  (bc (decide ((i:Int)<(l.length:Int))) ((0:Int)≤(i:Int) ∧
 (i:Int)<(l.length:Int) ∧
 (ctO (4:Int) (96:Nat)).pre ((gtO l (i:Int).toNat),()) ∧
 s.length=s.length ∧
 (ctA (4:Nat)).pre ((gtO l (i:Int).toNat),s,()) ∧
 R (hd Tryd.f31 0) { env:=[(1,.ptr 1 0),(6,.win true syS 1122880 0 (List.length (s++symsO (4:Nat) (gtO l (i:Int).toNat)))),(8,.ptr 8 0),(21,.sl opS l),(22,.int .i64 (l.length:Int)),(23,.int .i64 (IntKind.i64.wrap ((i:Int)+(1:Int)))),(24,.bool (decide ((i:Int)<(l.length:Int)))),(25,.elv opS (gtO l (i:Int).toNat)),(26,.agg [.int .i64 (gtO l (i:Int).toNat).1,.int .i64 (gtO l (i:Int).toNat).2.1,.int .i64 (gtO l (i:Int).toNat).2.2.1,.int .u8 (gtO l (i:Int).toNat).2.2.2.1,.sl uB (gtO l (i:Int).toNat).2.2.2.2]),(27,.agg [.int .i64 (gtO l (i:Int).toNat).1,.int .i64 (gtO l (i:Int).toNat).2.1,.int .i64 (gtO l (i:Int).toNat).2.2.1,.int .u8 (gtO l (i:Int).toNat).2.2.2.1,.sl uB (gtO l (i:Int).toNat).2.2.2.2]),(28,.ifc (96:Nat) true [.int .i64 (gtO l (i:Int).toNat).1,.int .i64 (gtO l (i:Int).toNat).2.1,.int .i64 (gtO l (i:Int).toNat).2.2.1,.int .u8 (gtO l (i:Int).toNat).2.2.2.1,.sl uB (gtO l (i:Int).toNat).2.2.2.2]),(29,.dead),(30,.win true syS 1122880 0 (List.length (s++symsO (4:Nat) (gtO l (i:Int).toNat)))),(31,.int .i64 (IntKind.i64.wrap ((i:Int)+(1:Int))))],blk:=[(1,.var [.bool li,.int .i64 m,.int .i64 o,.sl opS l]),(8,.var [.int .i64 (gtO l (i:Int).toNat).1,.int .i64 (gtO l (i:Int).toNat).2.1,.int .i64 (gtO l (i:Int).toNat).2.2.1,.int .u8 (gtO l (i:Int).toNat).2.2.2.1,.sl uB (gtO l (i:Int).toNat).2.2.2.2]),(1122880,.row 52 syS (s++symsO (4:Nat) (gtO l (i:Int).toNat)))] }) (Q [.win true syS 19 0 s.length,.int .i64 0] [(1,.var [.bool li,.int .i64 m,.int .i64 o,.sl opS l]),(19,.row 52 syS s)])):=by kernel_rfl
def mem_sameOp_m0 (x y:OpT):List (Nat × LB):=[(2,.var [.int .i64 x.1,.int .i64 x.2.1,.int .i64 x.2.2.1,.int .u8 x.2.2.2.1,.sl uB x.2.2.2.2]),(3,.var [.int .i64 y.1,.int .i64 y.2.1,.int .i64 y.2.2.1,.int .u8 y.2.2.2.1,.sl uB y.2.2.2.2])]
theorem vc_sameOp (x y:OpT) (Q:QT) (R:RT):sy tt G0 [] Tryd.f26.ntmps Tryd.f26.results.toList Q R 1000 [.code (bodyOf Tryd.f26)] (entry [opS,opS] (x,y,())) =
  (bc (decide (x.1=y.1)) (bc (decide (x.2.1=y.2.1)) (bc (decide (x.2.2.1=y.2.2.1)) (bc (decide (x.2.2.2.1=y.2.2.2.1)) (Q [.bool (decide (List.map toB x.2.2.2.2=List.map toB y.2.2.2.2))] (mem_sameOp_m0 x y)) (false=false ∧
 Q [.bool false] (mem_sameOp_m0 x y))) (false=false ∧
 false=false ∧
 Q [.bool false] (mem_sameOp_m0 x y))) (false=false ∧
 false=false ∧
 false=false ∧
 Q [.bool false] (mem_sameOp_m0 x y))) (false=false ∧
 false=false ∧
 false=false ∧
 false=false ∧
 Q [.bool false] (mem_sameOp_m0 x y))):=by kernel_rfl
end Go.Proofs.YtkiicobbnllpkaaDoor
namespace Go.Proofs.YtkiicobbnllpkaaDoor
open Go.Px Go.Ax
set_option maxRecDepth 100000
attribute [local irreducible] Go.Px.sy Go.Px.syE
theorem gtB_at {l:List Int} {i:Nat} (h:i<l.length):gtB l i=l[i]:=gtE (e:=uB) h
theorem qc_rowI {ct:Ctr} {x:DL ct.args} {rs:List SV} {blk:List (Nat × LB)} {e:Sh} {et:TypeId} {a k:Nat} {z:Int} {xs:List e.D} (h:ct.out x=[.win true e 0 0 xs.length,.int .i64 z]) (hr:ct.rows x=[.row et e xs]) (hs:rs=[.win true e a 0 k,.int .i64 z]) (hk:k=xs.length) (hb:lk blk a=some (.row et e xs)):QC ct x rs blk:=by
 subst hs;subst hk
 refine ⟨fun i=>if i=0 then some a else none,?_,?_,fun i j b h1 h2=>?_,by rw [hr];rfl⟩
 ·rw [h]
  exact ⟨_,_,rfl,.inl ⟨true,a,rfl,rfl,fun h=>h⟩,_,_,rfl,rfl,rfl⟩
 ·rw [hr]
  exact ⟨.inl ⟨a,rfl,hb⟩,trivial⟩
 ·simp only at h1 h2
  split at h1
  ·split at h2
   ·omega
   ·cases h2
  ·cases h1
theorem qc_nilI {ct:Ctr} {x:DL ct.args} {rs:List SV} {blk:List (Nat × LB)} {e:Sh} {et:TypeId} {z:Int} (h:ct.out x=[.win true e 0 0 0,.int .i64 z]) (hr:ct.rows x=[.row et e []]) (hs:rs=[.nils,.int .i64 z]) (he:0<e.size):QC ct x rs blk:=by
 subst hs
 refine ⟨fun _=>none,?_,?_,fun i j b h1 h2=>?_,by rw [hr];rfl⟩
 ·rw [h]
  exact ⟨_,_,rfl,.inr ⟨rfl,rfl,rfl,rfl⟩,_,_,rfl,rfl,rfl⟩
 ·rw [hr]
  exact ⟨.inr ⟨rfl,_,_,rfl,he⟩,trivial⟩
 ·simp at h1
theorem sy_eq {s t:SyT}:([Cl.cb s.1,Cl.ci .i64 s.2.1,Cl.ci .u8 s.2.2]=[Cl.cb t.1,Cl.ci .i64 t.2.1,Cl.ci .u8 t.2.2])↔s=t:=by
 obtain ⟨a,b,c⟩:=s
 obtain ⟨a',b',c'⟩:=t
 simp
def soB (x y:OpT):Bool:=decide (x.1=y.1) && (decide (x.2.1=y.2.1) && (decide (x.2.2.1=y.2.2.1) && (decide (x.2.2.2.1=y.2.2.2.1) && decide (x.2.2.2.2.map toB=y.2.2.2.2.map toB))))
def ctSO:Ctr:=⟨[opS,opS],fun _=>True,fun x=>[.bool (soB x.1 x.2.1)],fun _=>[]⟩
theorem so_held:Held Tryd.prog G0 26 ctSO:=by
 refine Held.run cx0 (fn:=Tryd.f26) rfl rfl ⟨by decide,by decide⟩ ?_
 rintro ⟨x,y,⟨⟩⟩ _
 refine (vc_sameOp x y _ _).mpr ?_
 cases e1:decide (x.1=y.1) <;> cases e2:decide (x.2.1=y.2.1) <;> cases e3:decide (x.2.2.1=y.2.2.1) <;> cases e4:decide (x.2.2.2.1=y.2.2.2.1) <;>
  simp only [bc_t,bc_f,cond_true,cond_false,true_and] <;> exact QC.flat (by simp only [ctSO,soB,e1,e2,e3,e4];rfl) rfl rfl
def ofV (l:List SyT) (m:Int):PaT × Int:=if szB m=true∧szB l.length=true∧l.all (sOK m)=true then (if 4096<(opsL l).length then ((false,0,0,[]),2) else ((false,m,l.length,opsL l),0)) else ((false,0,0,[]),60)
def paV (p:PaT):SV:=.agg [.bool p.1,.int .i64 p.2.1,.int .i64 p.2.2.1,.sl opS p.2.2.2]
end Go.Proofs.YtkiicobbnllpkaaDoor
namespace Go.Proofs.YtkiicobbnllpkaaDoor
open Go.Px Go.Ax
set_option maxRecDepth 100000
attribute [local irreducible] Go.Px.sy Go.Px.syE
def lenS (l:List OpT):Int:=(l.map fun x=>x.2.2.1).sum
theorem chk_ok {m N:Int}:∀ {l:List OpT} {left i:Int},(chkF m N l left i).2=0→0≤left→(∀ x∈l,isRB x m=true)∧lenS l=left
 | [],left,i,h,h0=>by
  refine ⟨fun x hx=>by simp at hx,?_⟩
  simp only [chkF] at h
  split at h
  ·cases h
  ·show (0:Int)=left;omega
 | x::l,left,i,h,h0=>by
  simp only [chkF] at h
  split at h
  ·cases h
  ·rename_i h1
   split at h
   ·cases h
   ·rename_i h2
    have hr:isRB x m=true:=by simpa using h1
    have hx:=isRB_len hr
    obtain ⟨k1,k2⟩:=chk_ok h (by omega)
    refine ⟨fun y hy=>?_,?_⟩
    ·rcases List.mem_cons.1 hy with rfl | hy
     ·exact hr
     ·exact k1 y hy
    ·simp only [lenS,List.map_cons,List.sum_cons] at k2 ⊢;omega
theorem isRB_kind {x:OpT} {m:Int} (h:isRB x m=true):(x.1=1∨x.1=2∨x.1=3∨x.1=4)∧(cntO x.1.toNat x:Int)=x.2.2.1:=by
 have hl:=isRB_len h
 unfold isRB kR at h
 simp only [Bool.and_eq_true,decide_eq_true_eq] at h
 obtain ⟨_,_,h⟩:=h
 obtain ⟨k,f,n,b,d⟩:=x
 simp only at h hl ⊢
 split at h
 ·rename_i e;subst e;exact ⟨.inl rfl,by show (n.toNat:Int)=n;omega⟩
 ·split at h
  ·rename_i e;subst e
   simp only [rB,Bool.and_eq_true,decide_eq_true_eq] at h
   exact ⟨.inr (.inl rfl),h.2.2⟩
  ·split at h
   ·rename_i e;subst e;exact ⟨.inr (.inr (.inl rfl)),by show (n.toNat:Int)=n;omega⟩
   ·split at h
    ·rename_i e;subst e
     simp only [rB,Bool.and_eq_true,decide_eq_true_eq] at h
     exact ⟨.inr (.inr (.inr rfl)),h.2.2⟩
    ·cases h
theorem lenS_cons (x:OpT) (l:List OpT):lenS (x::l)=x.2.2.1+lenS l:=by simp only [lenS,List.map_cons,List.sum_cons]
theorem lenS_pos {m:Int}:∀ {l:List OpT},(∀ x∈l,isRB x m=true)→0≤lenS l
 | [],_=>Int.le_refl 0
 | x::l,h=>by
  have h1:=isRB_len (h x (by simp))
  have h2:=lenS_pos (l:=l) fun y hy=>h y (by simp [hy])
  simp only [lenS,List.map_cons,List.sum_cons] at h2 ⊢;omega
def symF:List OpT→List SyT
 | []=>[]
 | x::l=>symsO x.1.toNat x++symF l
def symV (p:PaT):List SyT × Int:=if (chkV p).2=0 then (symF p.2.2.2,0) else ([],(chkV p).2)
def ctSym:Ctr:=⟨[paS],fun _=>True,fun x=>[.win true syS 0 0 (symV x.1).1.length,.int .i64 (symV x.1).2],fun x=>[.row 52 syS (symV x.1).1]⟩
abbrev SQ (p:PaT):List SV→List (Nat × LB)→Prop:=QC ctSym (p,())
theorem chkV_ok {p:PaT} (h:(chkV p).2=0):(∀ x∈p.2.2.2,isRB x p.2.1=true)∧lenS p.2.2.2=p.2.2.1∧(0≤p.2.2.1∧p.2.2.1≤65536)∧p.2.2.2.length≤4096:=by
 unfold chkV at h
 split at h
 ·rename_i hg
  have hs:0≤p.2.2.1∧p.2.2.1≤65536:=by
   have:=hg.2.1
   unfold szB at this
   simpa only [Bool.and_eq_true,decide_eq_true_eq] using this
  obtain ⟨h1,h2⟩:=chk_ok h hs.1
  exact ⟨h1,h2,hs,hg.2.2⟩
 ·cases h
theorem sym_loop (li:Bool) (m o:Int) (l:List OpT) (hc:(chkV (li,m,o,l)).2=0):∀ (k i:Nat) (s:List SyT),l.length - i=k→i≤l.length→(s.length:Int)+lenS (l.drop i)≤65536→s++symF (l.drop i)=symF l →
  GD 31 Tryd.f31 (SQ (li,m,o,l)) (hd Tryd.f31 0) ⟨[(1,.ptr 1 0),(6,.win true syS 19 0 s.length),(21,.sl opS l),(22,.int .i64 l.length),(23,.int .i64 (i:Nat))],[(1,.var [.bool li,.int .i64 m,.int .i64 o,.sl opS l]),(19,.row 52 syS s)]⟩:=by
 obtain ⟨hr,hsum,hob,hlen⟩:=chkV_ok hc
 simp only at hr hsum hob hlen
 intro k
 induction k with
 | zero=>
  intro i s hk hi hb hs
  have hi:i=l.length:=by omega
  subst hi
  refine sy_sound ex1 _ _ _ ((vc_symsL1 li m o l s _ _ _).mpr ?_)
  rw [decide_eq_false (by omega),bc_f]
  rw [List.drop_length,symF,List.append_nil] at hs
  have hv:symV (li,m,o,l)=(s,0):=by unfold symV;rw [if_pos hc,hs]
  refine qc_rowI (e:=syS) (et:=52) (a:=19) (z:=0) (xs:=s) ?_ ?_ rfl rfl rfl
  ·show [_,_]=_;rw [hv]
  ·show [_]=_;rw [hv]
 | succ k ih=>
  intro i s hk hi hb hs
  have hil:i<l.length:=by omega
  have hx:=hr l[i] (List.getElem_mem hil)
  have hk2:=isRB_kind hx
  have hl2:=isRB_len hx
  rw [dropc hil] at hb hs
  rw [lenS_cons] at hb
  have hb2:(s.length:Int)+(l[i].2.2.1+lenS (l.drop (i+1)))≤65536:=hb
  have hpos:0≤lenS (l.drop (i+1)):=lenS_pos fun y hy=>hr y (List.mem_of_mem_drop hy)
  have hcl:(symsO l[i].1.toNat l[i]).length=cntO l[i].1.toNat l[i]:=by unfold symsO;exact gen_len _ _ _
  have hpre:preA l[i].1.toNat l[i] s:=⟨by omega,by omega,by omega⟩
  have nx:GD 31 Tryd.f31 (SQ (li,m,o,l)) (hd Tryd.f31 0) ⟨[(1,.ptr 1 0),(6,.win true syS 19 0 (s++symsO l[i].1.toNat l[i]).length),(21,.sl opS l),(22,.int .i64 l.length),(23,.int .i64 ((i+1:Nat):Int))],[(1,.var [.bool li,.int .i64 m,.int .i64 o,.sl opS l]),(19,.row 52 syS (s++symsO l[i].1.toNat l[i]))]⟩:=
   ih (i+1) _ (by omega) (by omega) (by rw [List.length_append];omega) (by rw [List.append_assoc];exact hs)
  have wi:IntKind.i64.wrap ((i:Int)+1)=((i+1:Nat):Int):=by rw [IntWalk.i64_in _ (by omega)];omega
  rcases hk2.1 with e | e | e | e
  ·rw [e] at hpre nx
   refine sy_sound ex1 _ _ _ ((vc_symsL1 li m o l s i _ _).mpr ?_)
   rw [decide_eq_true (show (i:Int)<(l.length:Int) by omega),bc_t,Int.toNat_natCast,gtO_at hil,wi]
   exact ⟨by omega,by omega,e,rfl,hpre,nx.onlyR [(19,1122880)] rfl ⟨rfl,rfl,rfl,rfl,rfl,trivial⟩ ⟨rfl,rfl,trivial⟩⟩
  ·rw [e] at hpre nx
   refine sy_sound ex2 _ _ _ ((vc_symsL2 li m o l s i _ _).mpr ?_)
   rw [decide_eq_true (show (i:Int)<(l.length:Int) by omega),bc_t,Int.toNat_natCast,gtO_at hil,wi]
   exact ⟨by omega,by omega,e,rfl,hpre,nx.onlyR [(19,1122880)] rfl ⟨rfl,rfl,rfl,rfl,rfl,trivial⟩ ⟨rfl,rfl,trivial⟩⟩
  ·rw [e] at hpre nx
   refine sy_sound ex3 _ _ _ ((vc_symsL3 li m o l s i _ _).mpr ?_)
   rw [decide_eq_true (show (i:Int)<(l.length:Int) by omega),bc_t,Int.toNat_natCast,gtO_at hil,wi]
   exact ⟨by omega,by omega,e,rfl,hpre,nx.onlyR [(19,1122880)] rfl ⟨rfl,rfl,rfl,rfl,rfl,trivial⟩ ⟨rfl,rfl,trivial⟩⟩
  ·rw [e] at hpre nx
   refine sy_sound ex4 _ _ _ ((vc_symsL4 li m o l s i _ _).mpr ?_)
   rw [decide_eq_true (show (i:Int)<(l.length:Int) by omega),bc_t,Int.toNat_natCast,gtO_at hil,wi]
   exact ⟨by omega,by omega,e,rfl,hpre,nx.onlyR [(19,1122880)] rfl ⟨rfl,rfl,rfl,rfl,rfl,trivial⟩ ⟨rfl,rfl,trivial⟩⟩
theorem sym_held:Held Tryd.prog G0 31 ctSym:=by
 refine Held.run cxA (fn:=Tryd.f31) rfl rfl ⟨by decide,by decide⟩ ?_
 rintro ⟨⟨li,m,o,l⟩,⟨⟩⟩ _
 refine (vc_syms li m o l _ _).mpr ⟨trivial,bc_of (fun h=>?_) (fun h=>?_)⟩
 ·have h:(chkV (li,m,o,l)).2≠0:=of_decide_eq_true h
  have hv:symV (li,m,o,l)=([],(chkV (li,m,o,l)).2):=by unfold symV;rw [if_neg h]
  refine qc_nilI (e:=syS) (et:=52) (z:=(chkV (li,m,o,l)).2) ?_ ?_ rfl (by decide)
  ·show [_,_]=_;rw [hv];rfl
  ·show [_]=_;rw [hv]
 ·have h:¬ (chkV (li,m,o,l)).2≠0:=of_decide_eq_false h
  have h:(chkV (li,m,o,l)).2=0:=by simpa using h
  obtain ⟨hr,hsum,hob,hlen⟩:=chkV_ok h
  simp only at hr hsum hob hlen
  refine ⟨Int.le_refl 0,hob.1,?_,?_,?_⟩
  ·exact Int.lt_of_le_of_lt hob.2 (by decide)
  ·exact Int.le_trans (Int.mul_le_mul_of_nonneg_left hob.2 (by decide)) (by decide)
  ·exact (sym_loop li m o l h _ 0 [] rfl (by omega) (by rw [List.drop_zero,hsum];simpa using hob.2) rfl).only ⟨rfl,rfl,rfl,rfl,rfl,trivial⟩ ⟨rfl,rfl,trivial⟩
def costF:Int→List OpT→Int
 | s,[]=>s
 | s,x::l=>costF (IntKind.i64.wrap (s+cN x.1.toNat x)) l
end Go.Proofs.YtkiicobbnllpkaaDoor
namespace Go.Proofs.YtkiicobbnllpkaaDoor
open Go.Px Go.Ax
set_option maxRecDepth 100000
def CS:CV:=[(26,.inl ctSO)]
theorem cxS:CxOK Tryd.prog tt G0 CS:=cx0.cons so_held (fn:=Tryd.f26) rfl rfl rfl
set_option maxRecDepth 100000
def mem_same_m0 (li li2:Bool) (m o m2 o2:Int) (l l2:List OpT):List (Nat × LB):=[(2,.var [.bool li,.int .i64 m,.int .i64 o,.sl opS l]),(3,.var [.bool li2,.int .i64 m2,.int .i64 o2,.sl opS l2])]
theorem vc_same (li li2:Bool) (m o m2 o2:Int) (l l2:List OpT) (Q:QT) (R:RT):sy tt G0 CS Tryd.f17.ntmps Tryd.f17.results.toList Q R 1000 [.code (bodyOf Tryd.f17)] (entry [paS,paS] ((li,m,o,l),(li2,m2,o2,l2),())) =
  (bc (!li == li2) (true=true ∧
 true=true ∧
 true=true ∧
 Q [.bool false] (mem_same_m0 li li2 m o m2 o2 l l2)) (bc (bif false then true else decide (m≠m2)) (true=true ∧
 true=true ∧
 Q [.bool false] (mem_same_m0 li li2 m o m2 o2 l l2)) (bc (bif false then true else decide (o≠o2)) (true=true ∧
 Q [.bool false] (mem_same_m0 li li2 m o m2 o2 l l2)) (bc (bif false then true else decide ((l.length:Int)≠(l2.length:Int))) (Q [.bool false] (mem_same_m0 li li2 m o m2 o2 l l2)) (R (hd Tryd.f17 0) { env:=[(0,.agg [.bool li,.int .i64 m,.int .i64 o,.sl opS l]),(1,.agg [.bool li2,.int .i64 m2,.int .i64 o2,.sl opS l2]),(2,.ptr 2 0),(3,.ptr 3 0),(4,.bool false),(5,.int .i64 0),(6,.ptr 2 0),(7,.bool li),(8,.ptr 3 0),(9,.bool li2),(10,.bool !li == li2),(11,.bool false),(12,.ptr 2 1),(13,.int .i64 m),(14,.ptr 3 1),(15,.int .i64 m2),(16,.bool (decide (m≠m2))),(17,.bool (bif false then true else decide (m≠m2))),(18,.bool false),(19,.ptr 2 2),(20,.int .i64 o),(21,.ptr 3 2),(22,.int .i64 o2),(23,.bool (decide (o≠o2))),(24,.bool (bif false then true else decide (o≠o2))),(25,.bool false),(26,.ptr 2 3),(27,.sl opS l),(28,.int .i64 (l.length:Int)),(29,.ptr 3 3),(30,.sl opS l2),(31,.int .i64 (l2.length:Int)),(32,.bool (decide ((l.length:Int)≠(l2.length:Int)))),(33,.bool (bif false then true else decide ((l.length:Int)≠(l2.length:Int))))],blk:=[(2,.var [.bool li,.int .i64 m,.int .i64 o,.sl opS l]),(3,.var [.bool li2,.int .i64 m2,.int .i64 o2,.sl opS l2])] }))))):=by kernel_rfl
def mem_sameL_m0 (li li2:Bool) (m o m2 o2:Int) (l l2:List OpT):List (Nat × LB):=[(2,.var [.bool li,.int .i64 m,.int .i64 o,.sl opS l]),(3,.var [.bool li2,.int .i64 m2,.int .i64 o2,.sl opS l2])]
theorem vc_sameL (li li2:Bool) (m o m2 o2:Int) (l l2:List OpT) (i:Nat) (Q:QT) (R:RT):sy tt G0 CS Tryd.f17.ntmps Tryd.f17.results.toList Q R 1000 (hd Tryd.f17 0) ⟨[(2,.ptr 2 0),(3,.ptr 3 0),(5,.int .i64 (i:Nat))],[(2,.var [.bool li,.int .i64 m,.int .i64 o,.sl opS l]),(3,.var [.bool li2,.int .i64 m2,.int .i64 o2,.sl opS l2])]⟩ =
  (bc (decide ((i:Int)<(l.length:Int))) ((0:Int)≤(i:Int) ∧
 (i:Int)<(l.length:Int) ∧
 (0:Int)≤(i:Int) ∧
 (i:Int)<(l2.length:Int) ∧
 ctSO.pre ((gtO l (i:Int).toNat),(gtO l2 (i:Int).toNat),()) ∧
 bc (!soB (gtO l (i:Int).toNat) (gtO l2 (i:Int).toNat)) (Q [.bool false] (mem_sameL_m0 li li2 m o m2 o2 l l2)) (R (hd Tryd.f17 0) { env:=[(2,.ptr 2 0),(3,.ptr 3 0),(5,.int .i64 (IntKind.i64.wrap ((i:Int)+(1:Int)))),(34,.int .i64 (i:Int)),(35,.ptr 2 3),(36,.sl opS l),(37,.int .i64 (l.length:Int)),(38,.bool (decide ((i:Int)<(l.length:Int)))),(39,.int .i64 (i:Int)),(40,.int .i64 (IntKind.i64.wrap ((i:Int)+(1:Int)))),(41,.ptr 2 3),(42,.sl opS l),(43,.int .i64 (i:Int)),(44,.elv opS (gtO l (i:Int).toNat)),(45,.agg [.int .i64 (gtO l (i:Int).toNat).1,.int .i64 (gtO l (i:Int).toNat).2.1,.int .i64 (gtO l (i:Int).toNat).2.2.1,.int .u8 (gtO l (i:Int).toNat).2.2.2.1,.sl uB (gtO l (i:Int).toNat).2.2.2.2]),(46,.ptr 3 3),(47,.sl opS l2),(48,.int .i64 (i:Int)),(49,.elv opS (gtO l2 (i:Int).toNat)),(50,.agg [.int .i64 (gtO l2 (i:Int).toNat).1,.int .i64 (gtO l2 (i:Int).toNat).2.1,.int .i64 (gtO l2 (i:Int).toNat).2.2.1,.int .u8 (gtO l2 (i:Int).toNat).2.2.2.1,.sl uB (gtO l2 (i:Int).toNat).2.2.2.2]),(51,.bool (soB (gtO l (i:Int).toNat) (gtO l2 (i:Int).toNat))),(52,.bool !soB (gtO l (i:Int).toNat) (gtO l2 (i:Int).toNat))],blk:=[(2,.var [.bool li,.int .i64 m,.int .i64 o,.sl opS l]),(3,.var [.bool li2,.int .i64 m2,.int .i64 o2,.sl opS l2])] })) (Q [.bool true] (mem_sameL_m0 li li2 m o m2 o2 l l2))):=by kernel_rfl
end Go.Proofs.YtkiicobbnllpkaaDoor
namespace Go.Proofs.YtkiicobbnllpkaaDoor
open Go.Px Go.Ax
set_option maxRecDepth 100000
attribute [local irreducible] Go.Px.sy Go.Px.syE
theorem symF_len {m:Int}:∀ {l:List OpT},(∀ x∈l,isRB x m=true)→((symF l).length:Int)=lenS l
 | [],_=>rfl
 | x::l,h=>by
  have h1:=isRB_kind (h x (by simp))
  have h2:=symF_len (l:=l) fun y hy=>h y (by simp [hy])
  have hcl:(symsO x.1.toNat x).length=cntO x.1.toNat x:=by unfold symsO;exact gen_len _ _ _
  rw [lenS_cons,symF,List.length_append,hcl];omega
theorem symV_len (p:PaT):(symV p).1.length<16777216:=by
 unfold symV
 split
 ·rename_i h
  obtain ⟨h1,h2,h3,_⟩:=chkV_ok h
  have:=symF_len h1
  have h4:=h3.2
  simp only
  omega
 ·show 0<16777216
  decide
def smL:List OpT→List OpT→Bool
 | [],[]=>true
 | x::l,y::m=>soB x y && smL l m
 | _,_=>false
def smB (p q:PaT):Bool:=(p.1 == q.1) && (decide (p.2.1=q.2.1) && (decide (p.2.2.1=q.2.2.1) && (decide (p.2.2.2.length=q.2.2.2.length) && smL p.2.2.2 q.2.2.2)))
def ctSm:Ctr:=⟨[paS,paS],fun x=>List.length x.1.2.2.2<1099511627776,fun x=>[.bool (smB x.1 x.2.1)],fun _=>[]⟩
theorem sm_loop (li li2:Bool) (m o m2 o2:Int) (l l2:List OpT) (hl:l.length<1099511627776) (he:l.length=l2.length):∀ (k i:Nat),l.length - i=k→i≤l.length →
  GD 17 Tryd.f17 (fun rs _=>rs=[.bool (smL (l.drop i) (l2.drop i))]) (hd Tryd.f17 0) ⟨[(2,.ptr 2 0),(3,.ptr 3 0),(5,.int .i64 (i:Nat))],[(2,.var [.bool li,.int .i64 m,.int .i64 o,.sl opS l]),(3,.var [.bool li2,.int .i64 m2,.int .i64 o2,.sl opS l2])]⟩:=by
 intro k
 induction k with
 | zero=>
  intro i hk hi
  have hi:i=l.length:=by omega
  subst hi
  refine sy_sound cxS _ _ _ ((vc_sameL li li2 m o m2 o2 l l2 _ _ _).mpr ?_)
  rw [decide_eq_false (by omega),bc_f,List.drop_length,he,List.drop_length]
  rfl
 | succ k ih=>
  intro i hk hi
  have hx:i<l.length:=by omega
  have hy:i<l2.length:=by omega
  refine sy_sound cxS _ _ _ ((vc_sameL li li2 m o m2 o2 l l2 i _ _).mpr ?_)
  rw [decide_eq_true (show (i:Int)<(l.length:Int) by omega),bc_t,Int.toNat_natCast,gtO_at hx,gtO_at hy,IntWalk.i64_in ((i:Int)+1) (by omega),dropc hx,dropc hy,smL]
  refine ⟨by omega,by omega,by omega,by omega,trivial,bc_of (fun h=>?_) (fun h=>?_)⟩
  ·have h:soB l[i] l2[i]=false:=by simpa using h
   rw [h];rfl
  ·have h:soB l[i] l2[i]=true:=by simpa using h
   rw [h]
   exact (ih (i+1) (by omega) (by omega)).only ⟨rfl,rfl,rfl,trivial⟩ ⟨rfl,rfl,trivial⟩
theorem sm_held:Held Tryd.prog G0 17 ctSm:=by
 refine Held.run cxS (fn:=Tryd.f17) rfl rfl ⟨by decide,by decide⟩ ?_
 rintro ⟨⟨li,m,o,l⟩,⟨li2,m2,o2,l2⟩,⟨⟩⟩ hp
 replace hp:l.length<1099511627776:=hp
 refine (vc_same li li2 m o m2 o2 l l2 _ _).mpr ?_
 cases e0:(li == li2)
 ·exact ⟨rfl,rfl,rfl,QC.flat (by show [SV.bool (smB _ _)]=_;simp only [smB,e0];rfl) rfl rfl⟩
 ·rw [Bool.not_true,bc_f]
  refine bc_of (fun h=>⟨rfl,rfl,?_⟩) (fun h=>bc_of (fun h2=>⟨rfl,?_⟩) (fun h2=>bc_of (fun h3=>?_) (fun h3=>?_)))
  ·have h:m≠m2:=of_decide_eq_true h
   exact QC.flat (by show [SV.bool (smB _ _)]=_;simp only [smB,e0,decide_eq_false h];rfl) rfl rfl
  ·have h2:o≠o2:=of_decide_eq_true h2
   exact QC.flat (by show [SV.bool (smB _ _)]=_;simp only [smB,e0,decide_eq_false h2,Bool.false_and,Bool.and_false]) rfl rfl
  ·have h3:(l.length:Int)≠l2.length:=of_decide_eq_true h3
   have h3:¬ l.length=l2.length:=by omega
   exact QC.flat (by show [SV.bool (smB _ _)]=_;simp only [smB,e0,decide_eq_false h3,Bool.false_and,Bool.and_false]) rfl rfl
  ·have h:m=m2:=by
    have h:¬ m≠m2:=of_decide_eq_false h
    simpa using h
   have h2:o=o2:=by
    have h2:¬ o≠o2:=of_decide_eq_false h2
    simpa using h2
   have h3:l.length=l2.length:=by
    have h3:¬ (l.length:Int)≠l2.length:=of_decide_eq_false h3
    omega
   refine ((sm_loop li li2 m o m2 o2 l l2 hp h3 _ 0 rfl (by omega)).post fun rs blk hq=>QC.flat ?_ rfl (by rw [hq];rfl)).only ⟨rfl,rfl,rfl,trivial⟩ ⟨rfl,rfl,trivial⟩
   rw [hq]
   show [SV.bool (smB _ _)]=_
   simp only [smB,e0,decide_eq_true h,decide_eq_true h2,decide_eq_true h3,Bool.true_and];rfl
end Go.Proofs.YtkiicobbnllpkaaDoor
namespace Go.Proofs.YtkiicobbnllpkaaDoor
open Go.Px Go.Ax
set_option maxRecDepth 100000
set_option maxRecDepth 100000
theorem vc_rin (n a b:Int) (Q:QT) (R:RT):sy tt G0 [] Tryd.f52.ntmps Tryd.f52.results.toList Q R 1000 [.code (bodyOf Tryd.f52)] (entry [iI,iI,iI] (n,a,b,())) =
  (bc (decide (a≤n)) (Q [.bool (decide (n≤b))] []) (false=false ∧
 Q [.bool false] [])):=by kernel_rfl
end Go.Proofs.YtkiicobbnllpkaaDoor
namespace Go.Proofs.YtkiicobbnllpkaaDoor
open Go.Px Go.Ax
set_option maxRecDepth 100000
attribute [local irreducible] Go.Px.sy Go.Px.syE
theorem qc_row {ct:Ctr} {x:DL ct.args} {rs:List SV} {blk:List (Nat × LB)} {e:Sh} {et:TypeId} {a k:Nat} {xs:List e.D} (h:ct.out x=[.win true e 0 0 xs.length]) (hr:ct.rows x=[.row et e xs]) (hs:rs=[.win true e a 0 k]) (hk:k=xs.length) (hb:lk blk a=some (.row et e xs)):QC ct x rs blk:=by
 subst hs;subst hk
 refine ⟨fun i=>if i=0 then some a else none,?_,?_,fun i j b h1 h2=>?_,by rw [hr];rfl⟩
 ·rw [h]
  exact ⟨_,_,rfl,.inl ⟨true,a,rfl,rfl,fun h=>h⟩,rfl⟩
 ·rw [hr]
  exact ⟨.inl ⟨a,rfl,hb⟩,trivial⟩
 ·simp only at h1 h2
  split at h1
  ·split at h2
   ·omega
   ·cases h2
  ·cases h1
def ctIn:Ctr:=⟨[iI,iI,iI],fun _=>True,fun x=>[.bool (decide (x.2.1≤x.1) && decide (x.1≤x.2.2.1))],fun _=>[]⟩
theorem in_held:Held Tryd.prog G0 52 ctIn:=by
 refine Held.run cx0 (fn:=Tryd.f52) rfl rfl ⟨by decide,by decide⟩ ?_
 rintro ⟨n,a,b,⟨⟩⟩ _
 refine (vc_rin n a b _ _).mpr (bc_of (fun h=>?_) (fun h=>⟨rfl,?_⟩))
 ·exact QC.flat (by simp only [ctIn,h];rfl) rfl rfl
 ·exact QC.flat (by simp only [ctIn,h];rfl) rfl rfl
def inB (x:List Int) (i:Nat):Int:=if i<x.length then gtB x i else IntKind.u8.wrap (IntKind.i64.wrap (7 * (i:Int)))
end Go.Proofs.YtkiicobbnllpkaaDoor
namespace Go.Proofs.YtkiicobbnllpkaaDoor
open Go.Px Go.Ax
set_option maxRecDepth 100000
set_option maxRecDepth 100000
end Go.Proofs.YtkiicobbnllpkaaDoor
namespace Go.Proofs.YtkiicobbnllpkaaDoor
open Go.Px Go.Ax
set_option maxRecDepth 100000
attribute [local irreducible] Go.Px.sy Go.Px.syE
def preB4 (x:List Int):Prop:=∀ j,0≤gtB x j∧gtB x j<256
def preN (n:Int):Prop:=0≤n∧n<16777216
theorem tm_pos {a b:Int} (h:0≤a) (hb:0<b):0≤a.tmod b∧a.tmod b<b:=⟨Int.tmod_nonneg _ h,Int.tmod_lt_of_pos _ hb⟩
end Go.Proofs.YtkiicobbnllpkaaDoor
namespace Go.Proofs.YtkiicobbnllpkaaDoor
open Go.Px Go.Ax
set_option maxRecDepth 100000
abbrev a4S:Sh:=.arr 4 uB
set_option maxRecDepth 100000
end Go.Proofs.YtkiicobbnllpkaaDoor
namespace Go.Proofs.YtkiicobbnllpkaaDoor
open Go.Px Go.Ax
set_option maxRecDepth 100000
attribute [local irreducible] Go.Px.sy Go.Px.syE
def preL4 (l:List (List Int)):Prop:=∀ j,preB4 (gt a4S l j)
section
variable (z m:Int) (l:List (List Int)) (hl:preL4 l) (hm0:0≤m) (hm1:m<16777216) (hn:l.length<9223372036854775808)
include hl hm0 hm1 hn
end
end Go.Proofs.YtkiicobbnllpkaaDoor
namespace Go.Proofs.YtkiicobbnllpkaaDoor
open Go.Px Go.Ax
set_option maxRecDepth 100000
abbrev a2S:Sh:=.arr 2 uB
set_option maxRecDepth 100000
theorem vc_raw (l:List (List Int)) (n:Int) (Q:QT) (R:RT):sy tt G0 [] Tryd.f12.ntmps Tryd.f12.results.toList Q (fun it S=>R it (keepS [0,1,5,6] [5,8] S)) 1000 [.code (bodyOf Tryd.f12)] (entry [.sl a2S,iI] (l,n,())) =
  (R (hd Tryd.f12 0) { env:=[(0,.sl (Sh.arr (2:Nat) uB) l),(1,.int .i64 n),(5,.win true syS 8 0 (0:Nat)),(6,.int .i64 0)],blk:=[(8,.row 52 syS (List.replicate (0:Nat) syS.dflt))] }):=by kernel_rfl
theorem vc_rawL (l:List (List Int)) (o:List SyT) (n:Int) (i:Nat) (Q:QT) (R:RT):sy tt G0 [] Tryd.f12.ntmps Tryd.f12.results.toList Q (fun it S=>R it (keepS [0,1,5,6] [5,93] S)) 1000 (hd Tryd.f12 0) ⟨[(0,.sl a2S l),(1,.int .i64 n),(5,.win true syS 5 0 o.length),(6,.int .i64 (i:Nat))],[(5,.row 52 syS o)]⟩ =
  (bc (decide ((i:Int)<(l.length:Int))) (bc (decide ((i:Int)<(20:Int))) ((0:Int)≤(i:Int) ∧
 (i:Int)<(l.length:Int) ∧
 (0:Int)≤(0:Int) ∧
 (0:Int)<(↑(2:Nat):Int) ∧
 (4:Int)≠(0:Int) ∧
 bc (decide ((0:Int)<Int.tmod (gtB (gt (Sh.arr (2:Nat) uB) l (i:Int).toNat) (0)) (4:Int))) ((0:Int)≤(i:Int) ∧
 (i:Int)<(l.length:Int) ∧
 (0:Int)≤(1:Int) ∧
 (1:Int)<(↑(2:Nat):Int) ∧
 (3:Int)≠(0:Int) ∧
 bc (decide ((0:Int)<n)) ((0:Int)≤(i:Int) ∧
 (i:Int)<(l.length:Int) ∧
 (0:Int)≤(1:Int) ∧
 (1:Int)<(↑(2:Nat):Int) ∧
 n≠(0:Int) ∧
 bc (decide ((0:Int)<n)) (bc (decide ((0:Int)<(i:Int))) ((0:Int)≤IntKind.i64.wrap ((i:Int) - (1:Int)) ∧
 IntKind.i64.wrap ((i:Int) - (1:Int))<(o.length:Int) ∧
 (0:Nat)+(IntKind.i64.wrap ((i:Int) - (1:Int))).toNat<o.length ∧
 bc (bif true then (gtY o ((0:Nat)+(IntKind.i64.wrap ((i:Int) - (1:Int))).toNat)).1 else false) ((0:Int)≤(i:Int) ∧
 (i:Int)<(l.length:Int) ∧
 (0:Int)≤(0:Int) ∧
 (0:Int)<(↑(2:Nat):Int) ∧
 (4:Int)≠(0:Int) ∧
 bc (decide ((1:Int)<Int.tmod (gtB (gt (Sh.arr (2:Nat) uB) l (i:Int).toNat) (0)) (4:Int))) ((0:Int)≤IntKind.i64.wrap ((i:Int) - (1:Int)) ∧
 IntKind.i64.wrap ((i:Int) - (1:Int))<(o.length:Int) ∧
 (0:Nat)+(IntKind.i64.wrap ((i:Int) - (1:Int))).toNat<o.length ∧
 bc (decide (IntKind.i64.wrap ((gtY o ((0:Nat)+(IntKind.i64.wrap ((i:Int) - (1:Int))).toNat)).2.1+(1:Int))<n)) ((0:Int)≤IntKind.i64.wrap ((i:Int) - (1:Int)) ∧
 IntKind.i64.wrap ((i:Int) - (1:Int))<(o.length:Int) ∧
 (0:Nat)+(IntKind.i64.wrap ((i:Int) - (1:Int))).toNat<o.length ∧
 (0:Nat)+(1:Nat)≤([(bif true then decide ((0:Int)<n) else false,IntKind.i64.wrap ((gtY o ((0:Nat)+(IntKind.i64.wrap ((i:Int) - (1:Int))).toNat)).2.1+(1:Int)),Int.tmod (gtB (gt (Sh.arr (2:Nat) uB) l (i:Int).toNat) (1)) (3:Int))]:List syS.D).length ∧
 o.length=o.length ∧
 (0:Nat)=(0:Nat) ∧
 o.length+(winL ((fun self=>self.6) (mkT (3:Nat) (24:Nat) true (TK.struct [((0:Nat),(4:TypeId)),((1:Nat),(3:TypeId)),((2:Nat),(5:TypeId))]) syS (some IntKind.i8))) (0:Nat) (1:Nat) ([(bif true then decide ((0:Int)<n) else false,IntKind.i64.wrap ((gtY o ((0:Nat)+(IntKind.i64.wrap ((i:Int) - (1:Int))).toNat)).2.1+(1:Int)),Int.tmod (gtB (gt (Sh.arr (2:Nat) uB) l (i:Int).toNat) (1)) (3:Int))]:List syS.D)).length<(2:Nat) ^ (30:Nat) ∧
 (24:Nat)≤(2:Nat) ^ (10:Nat) ∧
 R (hd Tryd.f12 0) { env:=[(0,.sl (Sh.arr (2:Nat) uB) l),(1,.int .i64 n),(5,.win true syS 93 0 (o.length+(winL ((fun self=>self.6) (mkT (3:Nat) (24:Nat) true (TK.struct [((0:Nat),(4:TypeId)),((1:Nat),(3:TypeId)),((2:Nat),(5:TypeId))]) syS (some IntKind.i8))) (0:Nat) (1:Nat) ([(bif true then decide ((0:Int)<n) else false,IntKind.i64.wrap ((gtY o ((0:Nat)+(IntKind.i64.wrap ((i:Int) - (1:Int))).toNat)).2.1+(1:Int)),Int.tmod (gtB (gt (Sh.arr (2:Nat) uB) l (i:Int).toNat) (1)) (3:Int))]:List syS.D)).length)),(6,.int .i64 (IntKind.i64.wrap ((i:Int)+(1:Int))))],blk:=[(93,.row 52 syS (o++([(bif true then decide ((0:Int)<n) else false,IntKind.i64.wrap ((gtY o ((0:Nat)+(IntKind.i64.wrap ((i:Int) - (1:Int))).toNat)).2.1+(1:Int)),Int.tmod (gtB (gt (Sh.arr (2:Nat) uB) l (i:Int).toNat) (1)) (3:Int))]:List syS.D)))] }) ((0:Nat)+(1:Nat)≤([(bif true then decide ((0:Int)<n) else false,(IntKind.i64.wrap (gtB (gt (Sh.arr (2:Nat) uB) l (i:Int).toNat) (1))).tmod n,Int.tmod (gtB (gt (Sh.arr (2:Nat) uB) l (i:Int).toNat) (1)) (3:Int))]:List syS.D).length ∧
 o.length=o.length ∧
 (0:Nat)=(0:Nat) ∧
 o.length+(winL ((fun self=>self.6) (mkT (3:Nat) (24:Nat) true (TK.struct [((0:Nat),(4:TypeId)),((1:Nat),(3:TypeId)),((2:Nat),(5:TypeId))]) syS (some IntKind.i8))) (0:Nat) (1:Nat) ([(bif true then decide ((0:Int)<n) else false,(IntKind.i64.wrap (gtB (gt (Sh.arr (2:Nat) uB) l (i:Int).toNat) (1))).tmod n,Int.tmod (gtB (gt (Sh.arr (2:Nat) uB) l (i:Int).toNat) (1)) (3:Int))]:List syS.D)).length<(2:Nat) ^ (30:Nat) ∧
 (24:Nat)≤(2:Nat) ^ (10:Nat) ∧
 R (hd Tryd.f12 0) { env:=[(0,.sl (Sh.arr (2:Nat) uB) l),(1,.int .i64 n),(5,.win true syS 93 0 (o.length+(winL ((fun self=>self.6) (mkT (3:Nat) (24:Nat) true (TK.struct [((0:Nat),(4:TypeId)),((1:Nat),(3:TypeId)),((2:Nat),(5:TypeId))]) syS (some IntKind.i8))) (0:Nat) (1:Nat) ([(bif true then decide ((0:Int)<n) else false,(IntKind.i64.wrap (gtB (gt (Sh.arr (2:Nat) uB) l (i:Int).toNat) (1))).tmod n,Int.tmod (gtB (gt (Sh.arr (2:Nat) uB) l (i:Int).toNat) (1)) (3:Int))]:List syS.D)).length)),(6,.int .i64 (IntKind.i64.wrap ((i:Int)+(1:Int))))],blk:=[(93,.row 52 syS (o++([(bif true then decide ((0:Int)<n) else false,(IntKind.i64.wrap (gtB (gt (Sh.arr (2:Nat) uB) l (i:Int).toNat) (1))).tmod n,Int.tmod (gtB (gt (Sh.arr (2:Nat) uB) l (i:Int).toNat) (1)) (3:Int))]:List syS.D)))] })) (false=false ∧
 (0:Nat)+(1:Nat)≤([(bif true then decide ((0:Int)<n) else false,(IntKind.i64.wrap (gtB (gt (Sh.arr (2:Nat) uB) l (i:Int).toNat) (1))).tmod n,Int.tmod (gtB (gt (Sh.arr (2:Nat) uB) l (i:Int).toNat) (1)) (3:Int))]:List syS.D).length ∧
 o.length=o.length ∧
 (0:Nat)=(0:Nat) ∧
 o.length+(winL ((fun self=>self.6) (mkT (3:Nat) (24:Nat) true (TK.struct [((0:Nat),(4:TypeId)),((1:Nat),(3:TypeId)),((2:Nat),(5:TypeId))]) syS (some IntKind.i8))) (0:Nat) (1:Nat) ([(bif true then decide ((0:Int)<n) else false,(IntKind.i64.wrap (gtB (gt (Sh.arr (2:Nat) uB) l (i:Int).toNat) (1))).tmod n,Int.tmod (gtB (gt (Sh.arr (2:Nat) uB) l (i:Int).toNat) (1)) (3:Int))]:List syS.D)).length<(2:Nat) ^ (30:Nat) ∧
 (24:Nat)≤(2:Nat) ^ (10:Nat) ∧
 R (hd Tryd.f12 0) { env:=[(0,.sl (Sh.arr (2:Nat) uB) l),(1,.int .i64 n),(5,.win true syS 93 0 (o.length+(winL ((fun self=>self.6) (mkT (3:Nat) (24:Nat) true (TK.struct [((0:Nat),(4:TypeId)),((1:Nat),(3:TypeId)),((2:Nat),(5:TypeId))]) syS (some IntKind.i8))) (0:Nat) (1:Nat) ([(bif true then decide ((0:Int)<n) else false,(IntKind.i64.wrap (gtB (gt (Sh.arr (2:Nat) uB) l (i:Int).toNat) (1))).tmod n,Int.tmod (gtB (gt (Sh.arr (2:Nat) uB) l (i:Int).toNat) (1)) (3:Int))]:List syS.D)).length)),(6,.int .i64 (IntKind.i64.wrap ((i:Int)+(1:Int))))],blk:=[(93,.row 52 syS (o++([(bif true then decide ((0:Int)<n) else false,(IntKind.i64.wrap (gtB (gt (Sh.arr (2:Nat) uB) l (i:Int).toNat) (1))).tmod n,Int.tmod (gtB (gt (Sh.arr (2:Nat) uB) l (i:Int).toNat) (1)) (3:Int))]:List syS.D)))] })) (false=false ∧
 false=false ∧
 (0:Nat)+(1:Nat)≤([(bif true then decide ((0:Int)<n) else false,(IntKind.i64.wrap (gtB (gt (Sh.arr (2:Nat) uB) l (i:Int).toNat) (1))).tmod n,Int.tmod (gtB (gt (Sh.arr (2:Nat) uB) l (i:Int).toNat) (1)) (3:Int))]:List syS.D).length ∧
 o.length=o.length ∧
 (0:Nat)=(0:Nat) ∧
 o.length+(winL ((fun self=>self.6) (mkT (3:Nat) (24:Nat) true (TK.struct [((0:Nat),(4:TypeId)),((1:Nat),(3:TypeId)),((2:Nat),(5:TypeId))]) syS (some IntKind.i8))) (0:Nat) (1:Nat) ([(bif true then decide ((0:Int)<n) else false,(IntKind.i64.wrap (gtB (gt (Sh.arr (2:Nat) uB) l (i:Int).toNat) (1))).tmod n,Int.tmod (gtB (gt (Sh.arr (2:Nat) uB) l (i:Int).toNat) (1)) (3:Int))]:List syS.D)).length<(2:Nat) ^ (30:Nat) ∧
 (24:Nat)≤(2:Nat) ^ (10:Nat) ∧
 R (hd Tryd.f12 0) { env:=[(0,.sl (Sh.arr (2:Nat) uB) l),(1,.int .i64 n),(5,.win true syS 93 0 (o.length+(winL ((fun self=>self.6) (mkT (3:Nat) (24:Nat) true (TK.struct [((0:Nat),(4:TypeId)),((1:Nat),(3:TypeId)),((2:Nat),(5:TypeId))]) syS (some IntKind.i8))) (0:Nat) (1:Nat) ([(bif true then decide ((0:Int)<n) else false,(IntKind.i64.wrap (gtB (gt (Sh.arr (2:Nat) uB) l (i:Int).toNat) (1))).tmod n,Int.tmod (gtB (gt (Sh.arr (2:Nat) uB) l (i:Int).toNat) (1)) (3:Int))]:List syS.D)).length)),(6,.int .i64 (IntKind.i64.wrap ((i:Int)+(1:Int))))],blk:=[(93,.row 52 syS (o++([(bif true then decide ((0:Int)<n) else false,(IntKind.i64.wrap (gtB (gt (Sh.arr (2:Nat) uB) l (i:Int).toNat) (1))).tmod n,Int.tmod (gtB (gt (Sh.arr (2:Nat) uB) l (i:Int).toNat) (1)) (3:Int))]:List syS.D)))] })) (false=false ∧
 false=false ∧
 false=false ∧
 (0:Nat)+(1:Nat)≤([(bif true then decide ((0:Int)<n) else false,(IntKind.i64.wrap (gtB (gt (Sh.arr (2:Nat) uB) l (i:Int).toNat) (1))).tmod n,Int.tmod (gtB (gt (Sh.arr (2:Nat) uB) l (i:Int).toNat) (1)) (3:Int))]:List syS.D).length ∧
 o.length=o.length ∧
 (0:Nat)=(0:Nat) ∧
 o.length+(winL ((fun self=>self.6) (mkT (3:Nat) (24:Nat) true (TK.struct [((0:Nat),(4:TypeId)),((1:Nat),(3:TypeId)),((2:Nat),(5:TypeId))]) syS (some IntKind.i8))) (0:Nat) (1:Nat) ([(bif true then decide ((0:Int)<n) else false,(IntKind.i64.wrap (gtB (gt (Sh.arr (2:Nat) uB) l (i:Int).toNat) (1))).tmod n,Int.tmod (gtB (gt (Sh.arr (2:Nat) uB) l (i:Int).toNat) (1)) (3:Int))]:List syS.D)).length<(2:Nat) ^ (30:Nat) ∧
 (24:Nat)≤(2:Nat) ^ (10:Nat) ∧
 R (hd Tryd.f12 0) { env:=[(0,.sl (Sh.arr (2:Nat) uB) l),(1,.int .i64 n),(5,.win true syS 93 0 (o.length+(winL ((fun self=>self.6) (mkT (3:Nat) (24:Nat) true (TK.struct [((0:Nat),(4:TypeId)),((1:Nat),(3:TypeId)),((2:Nat),(5:TypeId))]) syS (some IntKind.i8))) (0:Nat) (1:Nat) ([(bif true then decide ((0:Int)<n) else false,(IntKind.i64.wrap (gtB (gt (Sh.arr (2:Nat) uB) l (i:Int).toNat) (1))).tmod n,Int.tmod (gtB (gt (Sh.arr (2:Nat) uB) l (i:Int).toNat) (1)) (3:Int))]:List syS.D)).length)),(6,.int .i64 (IntKind.i64.wrap ((i:Int)+(1:Int))))],blk:=[(93,.row 52 syS (o++([(bif true then decide ((0:Int)<n) else false,(IntKind.i64.wrap (gtB (gt (Sh.arr (2:Nat) uB) l (i:Int).toNat) (1))).tmod n,Int.tmod (gtB (gt (Sh.arr (2:Nat) uB) l (i:Int).toNat) (1)) (3:Int))]:List syS.D)))] })) (false=false ∧
 false=false ∧
 false=false ∧
 false=false ∧
 (0:Nat)+(1:Nat)≤([(bif true then decide ((0:Int)<n) else false,(IntKind.i64.wrap (gtB (gt (Sh.arr (2:Nat) uB) l (i:Int).toNat) (1))).tmod n,Int.tmod (gtB (gt (Sh.arr (2:Nat) uB) l (i:Int).toNat) (1)) (3:Int))]:List syS.D).length ∧
 o.length=o.length ∧
 (0:Nat)=(0:Nat) ∧
 o.length+(winL ((fun self=>self.6) (mkT (3:Nat) (24:Nat) true (TK.struct [((0:Nat),(4:TypeId)),((1:Nat),(3:TypeId)),((2:Nat),(5:TypeId))]) syS (some IntKind.i8))) (0:Nat) (1:Nat) ([(bif true then decide ((0:Int)<n) else false,(IntKind.i64.wrap (gtB (gt (Sh.arr (2:Nat) uB) l (i:Int).toNat) (1))).tmod n,Int.tmod (gtB (gt (Sh.arr (2:Nat) uB) l (i:Int).toNat) (1)) (3:Int))]:List syS.D)).length<(2:Nat) ^ (30:Nat) ∧
 (24:Nat)≤(2:Nat) ^ (10:Nat) ∧
 R (hd Tryd.f12 0) { env:=[(0,.sl (Sh.arr (2:Nat) uB) l),(1,.int .i64 n),(5,.win true syS 93 0 (o.length+(winL ((fun self=>self.6) (mkT (3:Nat) (24:Nat) true (TK.struct [((0:Nat),(4:TypeId)),((1:Nat),(3:TypeId)),((2:Nat),(5:TypeId))]) syS (some IntKind.i8))) (0:Nat) (1:Nat) ([(bif true then decide ((0:Int)<n) else false,(IntKind.i64.wrap (gtB (gt (Sh.arr (2:Nat) uB) l (i:Int).toNat) (1))).tmod n,Int.tmod (gtB (gt (Sh.arr (2:Nat) uB) l (i:Int).toNat) (1)) (3:Int))]:List syS.D)).length)),(6,.int .i64 (IntKind.i64.wrap ((i:Int)+(1:Int))))],blk:=[(93,.row 52 syS (o++([(bif true then decide ((0:Int)<n) else false,(IntKind.i64.wrap (gtB (gt (Sh.arr (2:Nat) uB) l (i:Int).toNat) (1))).tmod n,Int.tmod (gtB (gt (Sh.arr (2:Nat) uB) l (i:Int).toNat) (1)) (3:Int))]:List syS.D)))] })) (bc (decide ((0:Int)<n)) (bc (decide ((0:Int)<(i:Int))) ((0:Int)≤IntKind.i64.wrap ((i:Int) - (1:Int)) ∧
 IntKind.i64.wrap ((i:Int) - (1:Int))<(o.length:Int) ∧
 (0:Nat)+(IntKind.i64.wrap ((i:Int) - (1:Int))).toNat<o.length ∧
 bc (bif true then (gtY o ((0:Nat)+(IntKind.i64.wrap ((i:Int) - (1:Int))).toNat)).1 else false) ((0:Int)≤(i:Int) ∧
 (i:Int)<(l.length:Int) ∧
 (0:Int)≤(0:Int) ∧
 (0:Int)<(↑(2:Nat):Int) ∧
 (4:Int)≠(0:Int) ∧
 bc (decide ((1:Int)<Int.tmod (gtB (gt (Sh.arr (2:Nat) uB) l (i:Int).toNat) (0)) (4:Int))) ((0:Int)≤IntKind.i64.wrap ((i:Int) - (1:Int)) ∧
 IntKind.i64.wrap ((i:Int) - (1:Int))<(o.length:Int) ∧
 (0:Nat)+(IntKind.i64.wrap ((i:Int) - (1:Int))).toNat<o.length ∧
 bc (decide (IntKind.i64.wrap ((gtY o ((0:Nat)+(IntKind.i64.wrap ((i:Int) - (1:Int))).toNat)).2.1+(1:Int))<n)) ((0:Int)≤IntKind.i64.wrap ((i:Int) - (1:Int)) ∧
 IntKind.i64.wrap ((i:Int) - (1:Int))<(o.length:Int) ∧
 (0:Nat)+(IntKind.i64.wrap ((i:Int) - (1:Int))).toNat<o.length ∧
 (0:Nat)+(1:Nat)≤([(bif true then decide ((0:Int)<n) else false,IntKind.i64.wrap ((gtY o ((0:Nat)+(IntKind.i64.wrap ((i:Int) - (1:Int))).toNat)).2.1+(1:Int)),Int.tmod (gtB (gt (Sh.arr (2:Nat) uB) l (i:Int).toNat) (1)) (3:Int))]:List syS.D).length ∧
 o.length=o.length ∧
 (0:Nat)=(0:Nat) ∧
 o.length+(winL ((fun self=>self.6) (mkT (3:Nat) (24:Nat) true (TK.struct [((0:Nat),(4:TypeId)),((1:Nat),(3:TypeId)),((2:Nat),(5:TypeId))]) syS (some IntKind.i8))) (0:Nat) (1:Nat) ([(bif true then decide ((0:Int)<n) else false,IntKind.i64.wrap ((gtY o ((0:Nat)+(IntKind.i64.wrap ((i:Int) - (1:Int))).toNat)).2.1+(1:Int)),Int.tmod (gtB (gt (Sh.arr (2:Nat) uB) l (i:Int).toNat) (1)) (3:Int))]:List syS.D)).length<(2:Nat) ^ (30:Nat) ∧
 (24:Nat)≤(2:Nat) ^ (10:Nat) ∧
 R (hd Tryd.f12 0) { env:=[(0,.sl (Sh.arr (2:Nat) uB) l),(1,.int .i64 n),(5,.win true syS 93 0 (o.length+(winL ((fun self=>self.6) (mkT (3:Nat) (24:Nat) true (TK.struct [((0:Nat),(4:TypeId)),((1:Nat),(3:TypeId)),((2:Nat),(5:TypeId))]) syS (some IntKind.i8))) (0:Nat) (1:Nat) ([(bif true then decide ((0:Int)<n) else false,IntKind.i64.wrap ((gtY o ((0:Nat)+(IntKind.i64.wrap ((i:Int) - (1:Int))).toNat)).2.1+(1:Int)),Int.tmod (gtB (gt (Sh.arr (2:Nat) uB) l (i:Int).toNat) (1)) (3:Int))]:List syS.D)).length)),(6,.int .i64 (IntKind.i64.wrap ((i:Int)+(1:Int))))],blk:=[(93,.row 52 syS (o++([(bif true then decide ((0:Int)<n) else false,IntKind.i64.wrap ((gtY o ((0:Nat)+(IntKind.i64.wrap ((i:Int) - (1:Int))).toNat)).2.1+(1:Int)),Int.tmod (gtB (gt (Sh.arr (2:Nat) uB) l (i:Int).toNat) (1)) (3:Int))]:List syS.D)))] }) ((0:Nat)+(1:Nat)≤([(bif true then decide ((0:Int)<n) else false,(0:Int),Int.tmod (gtB (gt (Sh.arr (2:Nat) uB) l (i:Int).toNat) (1)) (3:Int))]:List syS.D).length ∧
 o.length=o.length ∧
 (0:Nat)=(0:Nat) ∧
 o.length+(winL ((fun self=>self.6) (mkT (3:Nat) (24:Nat) true (TK.struct [((0:Nat),(4:TypeId)),((1:Nat),(3:TypeId)),((2:Nat),(5:TypeId))]) syS (some IntKind.i8))) (0:Nat) (1:Nat) ([(bif true then decide ((0:Int)<n) else false,(0:Int),Int.tmod (gtB (gt (Sh.arr (2:Nat) uB) l (i:Int).toNat) (1)) (3:Int))]:List syS.D)).length<(2:Nat) ^ (30:Nat) ∧
 (24:Nat)≤(2:Nat) ^ (10:Nat) ∧
 R (hd Tryd.f12 0) { env:=[(0,.sl (Sh.arr (2:Nat) uB) l),(1,.int .i64 n),(5,.win true syS 93 0 (o.length+(winL ((fun self=>self.6) (mkT (3:Nat) (24:Nat) true (TK.struct [((0:Nat),(4:TypeId)),((1:Nat),(3:TypeId)),((2:Nat),(5:TypeId))]) syS (some IntKind.i8))) (0:Nat) (1:Nat) ([(bif true then decide ((0:Int)<n) else false,(0:Int),Int.tmod (gtB (gt (Sh.arr (2:Nat) uB) l (i:Int).toNat) (1)) (3:Int))]:List syS.D)).length)),(6,.int .i64 (IntKind.i64.wrap ((i:Int)+(1:Int))))],blk:=[(93,.row 52 syS (o++([(bif true then decide ((0:Int)<n) else false,(0:Int),Int.tmod (gtB (gt (Sh.arr (2:Nat) uB) l (i:Int).toNat) (1)) (3:Int))]:List syS.D)))] })) (false=false ∧
 (0:Nat)+(1:Nat)≤([(bif true then decide ((0:Int)<n) else false,(0:Int),Int.tmod (gtB (gt (Sh.arr (2:Nat) uB) l (i:Int).toNat) (1)) (3:Int))]:List syS.D).length ∧
 o.length=o.length ∧
 (0:Nat)=(0:Nat) ∧
 o.length+(winL ((fun self=>self.6) (mkT (3:Nat) (24:Nat) true (TK.struct [((0:Nat),(4:TypeId)),((1:Nat),(3:TypeId)),((2:Nat),(5:TypeId))]) syS (some IntKind.i8))) (0:Nat) (1:Nat) ([(bif true then decide ((0:Int)<n) else false,(0:Int),Int.tmod (gtB (gt (Sh.arr (2:Nat) uB) l (i:Int).toNat) (1)) (3:Int))]:List syS.D)).length<(2:Nat) ^ (30:Nat) ∧
 (24:Nat)≤(2:Nat) ^ (10:Nat) ∧
 R (hd Tryd.f12 0) { env:=[(0,.sl (Sh.arr (2:Nat) uB) l),(1,.int .i64 n),(5,.win true syS 93 0 (o.length+(winL ((fun self=>self.6) (mkT (3:Nat) (24:Nat) true (TK.struct [((0:Nat),(4:TypeId)),((1:Nat),(3:TypeId)),((2:Nat),(5:TypeId))]) syS (some IntKind.i8))) (0:Nat) (1:Nat) ([(bif true then decide ((0:Int)<n) else false,(0:Int),Int.tmod (gtB (gt (Sh.arr (2:Nat) uB) l (i:Int).toNat) (1)) (3:Int))]:List syS.D)).length)),(6,.int .i64 (IntKind.i64.wrap ((i:Int)+(1:Int))))],blk:=[(93,.row 52 syS (o++([(bif true then decide ((0:Int)<n) else false,(0:Int),Int.tmod (gtB (gt (Sh.arr (2:Nat) uB) l (i:Int).toNat) (1)) (3:Int))]:List syS.D)))] })) (false=false ∧
 false=false ∧
 (0:Nat)+(1:Nat)≤([(bif true then decide ((0:Int)<n) else false,(0:Int),Int.tmod (gtB (gt (Sh.arr (2:Nat) uB) l (i:Int).toNat) (1)) (3:Int))]:List syS.D).length ∧
 o.length=o.length ∧
 (0:Nat)=(0:Nat) ∧
 o.length+(winL ((fun self=>self.6) (mkT (3:Nat) (24:Nat) true (TK.struct [((0:Nat),(4:TypeId)),((1:Nat),(3:TypeId)),((2:Nat),(5:TypeId))]) syS (some IntKind.i8))) (0:Nat) (1:Nat) ([(bif true then decide ((0:Int)<n) else false,(0:Int),Int.tmod (gtB (gt (Sh.arr (2:Nat) uB) l (i:Int).toNat) (1)) (3:Int))]:List syS.D)).length<(2:Nat) ^ (30:Nat) ∧
 (24:Nat)≤(2:Nat) ^ (10:Nat) ∧
 R (hd Tryd.f12 0) { env:=[(0,.sl (Sh.arr (2:Nat) uB) l),(1,.int .i64 n),(5,.win true syS 93 0 (o.length+(winL ((fun self=>self.6) (mkT (3:Nat) (24:Nat) true (TK.struct [((0:Nat),(4:TypeId)),((1:Nat),(3:TypeId)),((2:Nat),(5:TypeId))]) syS (some IntKind.i8))) (0:Nat) (1:Nat) ([(bif true then decide ((0:Int)<n) else false,(0:Int),Int.tmod (gtB (gt (Sh.arr (2:Nat) uB) l (i:Int).toNat) (1)) (3:Int))]:List syS.D)).length)),(6,.int .i64 (IntKind.i64.wrap ((i:Int)+(1:Int))))],blk:=[(93,.row 52 syS (o++([(bif true then decide ((0:Int)<n) else false,(0:Int),Int.tmod (gtB (gt (Sh.arr (2:Nat) uB) l (i:Int).toNat) (1)) (3:Int))]:List syS.D)))] })) (false=false ∧
 false=false ∧
 false=false ∧
 (0:Nat)+(1:Nat)≤([(bif true then decide ((0:Int)<n) else false,(0:Int),Int.tmod (gtB (gt (Sh.arr (2:Nat) uB) l (i:Int).toNat) (1)) (3:Int))]:List syS.D).length ∧
 o.length=o.length ∧
 (0:Nat)=(0:Nat) ∧
 o.length+(winL ((fun self=>self.6) (mkT (3:Nat) (24:Nat) true (TK.struct [((0:Nat),(4:TypeId)),((1:Nat),(3:TypeId)),((2:Nat),(5:TypeId))]) syS (some IntKind.i8))) (0:Nat) (1:Nat) ([(bif true then decide ((0:Int)<n) else false,(0:Int),Int.tmod (gtB (gt (Sh.arr (2:Nat) uB) l (i:Int).toNat) (1)) (3:Int))]:List syS.D)).length<(2:Nat) ^ (30:Nat) ∧
 (24:Nat)≤(2:Nat) ^ (10:Nat) ∧
 R (hd Tryd.f12 0) { env:=[(0,.sl (Sh.arr (2:Nat) uB) l),(1,.int .i64 n),(5,.win true syS 93 0 (o.length+(winL ((fun self=>self.6) (mkT (3:Nat) (24:Nat) true (TK.struct [((0:Nat),(4:TypeId)),((1:Nat),(3:TypeId)),((2:Nat),(5:TypeId))]) syS (some IntKind.i8))) (0:Nat) (1:Nat) ([(bif true then decide ((0:Int)<n) else false,(0:Int),Int.tmod (gtB (gt (Sh.arr (2:Nat) uB) l (i:Int).toNat) (1)) (3:Int))]:List syS.D)).length)),(6,.int .i64 (IntKind.i64.wrap ((i:Int)+(1:Int))))],blk:=[(93,.row 52 syS (o++([(bif true then decide ((0:Int)<n) else false,(0:Int),Int.tmod (gtB (gt (Sh.arr (2:Nat) uB) l (i:Int).toNat) (1)) (3:Int))]:List syS.D)))] })) (false=false ∧
 false=false ∧
 false=false ∧
 false=false ∧
 (0:Nat)+(1:Nat)≤([(bif true then decide ((0:Int)<n) else false,(0:Int),Int.tmod (gtB (gt (Sh.arr (2:Nat) uB) l (i:Int).toNat) (1)) (3:Int))]:List syS.D).length ∧
 o.length=o.length ∧
 (0:Nat)=(0:Nat) ∧
 o.length+(winL ((fun self=>self.6) (mkT (3:Nat) (24:Nat) true (TK.struct [((0:Nat),(4:TypeId)),((1:Nat),(3:TypeId)),((2:Nat),(5:TypeId))]) syS (some IntKind.i8))) (0:Nat) (1:Nat) ([(bif true then decide ((0:Int)<n) else false,(0:Int),Int.tmod (gtB (gt (Sh.arr (2:Nat) uB) l (i:Int).toNat) (1)) (3:Int))]:List syS.D)).length<(2:Nat) ^ (30:Nat) ∧
 (24:Nat)≤(2:Nat) ^ (10:Nat) ∧
 R (hd Tryd.f12 0) { env:=[(0,.sl (Sh.arr (2:Nat) uB) l),(1,.int .i64 n),(5,.win true syS 93 0 (o.length+(winL ((fun self=>self.6) (mkT (3:Nat) (24:Nat) true (TK.struct [((0:Nat),(4:TypeId)),((1:Nat),(3:TypeId)),((2:Nat),(5:TypeId))]) syS (some IntKind.i8))) (0:Nat) (1:Nat) ([(bif true then decide ((0:Int)<n) else false,(0:Int),Int.tmod (gtB (gt (Sh.arr (2:Nat) uB) l (i:Int).toNat) (1)) (3:Int))]:List syS.D)).length)),(6,.int .i64 (IntKind.i64.wrap ((i:Int)+(1:Int))))],blk:=[(93,.row 52 syS (o++([(bif true then decide ((0:Int)<n) else false,(0:Int),Int.tmod (gtB (gt (Sh.arr (2:Nat) uB) l (i:Int).toNat) (1)) (3:Int))]:List syS.D)))] }))) (false=false ∧
 (0:Int)≤(i:Int) ∧
 (i:Int)<(l.length:Int) ∧
 (0:Int)≤(1:Int) ∧
 (1:Int)<(↑(2:Nat):Int) ∧
 (3:Int)≠(0:Int) ∧
 false=false ∧
 false=false ∧
 false=false ∧
 false=false ∧
 (0:Nat)+(1:Nat)≤([(false,(0:Int),Int.tmod (gtB (gt (Sh.arr (2:Nat) uB) l (i:Int).toNat) (1)) (3:Int))]:List syS.D).length ∧
 o.length=o.length ∧
 (0:Nat)=(0:Nat) ∧
 o.length+(winL ((fun self=>self.6) (mkT (3:Nat) (24:Nat) true (TK.struct [((0:Nat),(4:TypeId)),((1:Nat),(3:TypeId)),((2:Nat),(5:TypeId))]) syS (some IntKind.i8))) (0:Nat) (1:Nat) ([(false,(0:Int),Int.tmod (gtB (gt (Sh.arr (2:Nat) uB) l (i:Int).toNat) (1)) (3:Int))]:List syS.D)).length<(2:Nat) ^ (30:Nat) ∧
 (24:Nat)≤(2:Nat) ^ (10:Nat) ∧
 R (hd Tryd.f12 0) { env:=[(0,.sl (Sh.arr (2:Nat) uB) l),(1,.int .i64 n),(5,.win true syS 93 0 (o.length+(winL ((fun self=>self.6) (mkT (3:Nat) (24:Nat) true (TK.struct [((0:Nat),(4:TypeId)),((1:Nat),(3:TypeId)),((2:Nat),(5:TypeId))]) syS (some IntKind.i8))) (0:Nat) (1:Nat) ([(false,(0:Int),Int.tmod (gtB (gt (Sh.arr (2:Nat) uB) l (i:Int).toNat) (1)) (3:Int))]:List syS.D)).length)),(6,.int .i64 (IntKind.i64.wrap ((i:Int)+(1:Int))))],blk:=[(93,.row 52 syS (o++([(false,(0:Int),Int.tmod (gtB (gt (Sh.arr (2:Nat) uB) l (i:Int).toNat) (1)) (3:Int))]:List syS.D)))] })) (Q [.win true syS 5 0 o.length] [(5,.row 52 syS o)])) (false=false ∧
 Q [.win true syS 5 0 o.length] [(5,.row 52 syS o)])):=by kernel_rfl
end Go.Proofs.YtkiicobbnllpkaaDoor
namespace Go.Proofs.YtkiicobbnllpkaaDoor
open Go.Px Go.Ax
set_option maxRecDepth 100000
attribute [local irreducible] Go.Px.sy Go.Px.syE
def preM6 (z:Int) (l:List (List Int)):Prop:=(0≤z∧z<256)∧preL4 l∧l.length<9223372036854775808
def rawE (l:List (List Int)) (n:Int) (i:Nat) (o:List SyT):SyT:=
 if 0<(gtB (gt a2S l i) 0).tmod 4∧0<n then
  if 0<i∧(gtY o (i - 1)).1=true∧1<(gtB (gt a2S l i) 0).tmod 4∧(gtY o (i - 1)).2.1+1<n then (true,(gtY o (i - 1)).2.1+1,(gtB (gt a2S l i) 1).tmod 3)
  else (true,(gtB (gt a2S l i) 1).tmod n,(gtB (gt a2S l i) 1).tmod 3)
 else (false,0,(gtB (gt a2S l i) 1).tmod 3)
def rawL (l:List (List Int)) (n:Int):Nat→List SyT
 | 0=>[]
 | i+1=>rawL l n i++[rawE l n i (rawL l n i)]
def rawK (l:List (List Int)):Nat:=min l.length 20
theorem rawL_len (l:List (List Int)) (n:Int):∀ i,(rawL l n i).length=i
 | 0=>rfl
 | i+1=>by rw [rawL,List.length_append,rawL_len l n i];rfl
def preL2 (l:List (List Int)):Prop:=∀ j k,0≤gtB (gt a2S l j) k∧gtB (gt a2S l j) k<256
theorem rawE_ok {l:List (List Int)} {n:Int} {i:Nat} {o:List SyT} (hl:preL2 l) (ho:∀ s∈o,sOK n s=true) (hi:o.length=i):sOK n (rawE l n i o)=true:=by
 unfold rawE
 split
 ·rename_i h
  split
  ·rename_i h2
   have hg:gtY o (i - 1)∈o:=by
    rw [gtY_at (show i - 1<o.length by omega)];exact List.getElem_mem _
   have:=ho _ hg
   simp [sOK,h2.2.1] at this ⊢
   omega
  ·have m1:=tm_pos (hl i 1).1 (b:=n) h.2
   simp [sOK];omega
 ·simp [sOK]
theorem rawL_ok {l:List (List Int)} {n:Int} (hl:preL2 l):∀ i,∀ s∈rawL l n i,sOK n s=true
 | 0=>fun s hs=>by cases hs
 | i+1=>fun s hs=>by
  rw [rawL] at hs
  rcases List.mem_append.1 hs with h | h
  ·exact rawL_ok hl i s h
  ·rw [List.mem_singleton] at h;subst h;exact rawE_ok hl (rawL_ok hl i) (rawL_len l n i)
def preRw (l:List (List Int)) (n:Int):Prop:=preL2 l∧preN n
def ctRaw:Ctr:=⟨[.sl a2S,iI],fun x=>preRw x.1 x.2.1,fun x=>[.win true syS 0 0 (rawL x.1 x.2.1 (rawK x.1)).length],fun x=>[.row 52 syS (rawL x.1 x.2.1 (rawK x.1))]⟩
theorem raw_loop (l:List (List Int)) (n:Int) (hl:preL2 l) (hn0:0≤n) (hn1:n<16777216):∀ (k i:Nat),rawK l - i=k→i≤rawK l →
  GD 12 Tryd.f12 (QC ctRaw (l,n,())) (hd Tryd.f12 0) ⟨[(0,.sl a2S l),(1,.int .i64 n),(5,.win true syS 5 0 (rawL l n i).length),(6,.int .i64 (i:Nat))],[(5,.row 52 syS (rawL l n i))]⟩:=by
 intro k
 induction k with
 | zero=>
  intro i hk hi
  have hi:i=rawK l:=by omega
  refine sy_goK cx0 (vc_rawL l (rawL l n i) n i _ _) ?_
  have fin:QC ctRaw (l,n,()) [SV.win true syS 5 0 (rawL l n i).length] [(5,.row 52 syS (rawL l n i))]:=by
   rw [hi]
   exact qc_row (e:=syS) (et:=52) (a:=5) (xs:=rawL l n (rawK l)) rfl rfl rfl rfl rfl
  refine bc_of (fun h=>bc_of (fun h2=>?_) (fun h2=>fin)) (fun h=>⟨rfl,fin⟩)
  have h:=of_decide_eq_true h
  have h2:=of_decide_eq_true h2
  unfold rawK at hi
  omega
 | succ k ih=>
  intro i hk hi
  have h6:i<l.length∧i<20:=by unfold rawK at hk hi;omega
  have hlen:=rawL_len l n i
  have hok:=rawL_ok (n:=n) hl i
  have nx:∀ e,rawE l n i (rawL l n i)=e→GD 12 Tryd.f12 (QC ctRaw (l,n,())) (hd Tryd.f12 0) ⟨[(0,.sl a2S l),(1,.int .i64 n),(5,.win true syS 93 0 ((rawL l n i).length+1)),(6,.int .i64 ((i:Int)+1))],[(93,.row 52 syS (rawL l n i++[e]))]⟩:=fun e he=>by
   have h:=ih (i+1) (by omega) (by omega)
   rw [rawL,he] at h
   exact h.onlyR [(5,93)] rfl ⟨rfl,rfl,by rw [List.length_append];rfl,rfl,trivial⟩ ⟨rfl,trivial⟩
  generalize rawL l n i=o at *
  have h30:o.length+1<2 ^ 30:=by omega
  refine sy_goK cx0 (vc_rawL l o n i _ _) ?_
  rw [decide_eq_true (show (i:Int)<(l.length:Int) by omega),bc_t,decide_eq_true (show (i:Int)<(20:Int) by omega),bc_t,Int.toNat_natCast,IntWalk.i64_in ((i:Int)+1) (by omega)]
  have w1:IntKind.i64.wrap (gtB (gt a2S l i) 1)=gtB (gt a2S l i) 1:=IntWalk.i64_in _ (by have:=hl i 1;omega)
  rw [w1]
  refine ⟨by omega,by omega,by decide,by decide,by decide,bc_of (fun h=>?_) (fun h=>?_)⟩
  ·have h:0<(gtB (gt a2S l i) 0).tmod 4:=of_decide_eq_true h
   refine ⟨by omega,by omega,by decide,by decide,by decide,bc_of (fun h1=>?_) (fun h1=>?_)⟩
   ·have h1':0<n:=of_decide_eq_true h1
    rw [h1]
    refine ⟨by omega,by omega,by decide,by decide,by omega,?_⟩
    rw [bc_t]
    have plain:¬ (0<i∧(gtY o (i - 1)).1=true∧1<(gtB (gt a2S l i) 0).tmod 4∧(gtY o (i - 1)).2.1+1<n)→rawE l n i o=(true,(gtB (gt a2S l i) 1).tmod n,(gtB (gt a2S l i) 1).tmod 3):=fun hh=>by
     unfold rawE;rw [if_pos ⟨h,h1'⟩,if_neg hh]
    refine bc_of (fun h2=>?_) (fun h2=>?_)
    ·have h2:0<i:=by have:=of_decide_eq_true h2;omega
     have wj:IntKind.i64.wrap ((i:Int) - 1)=((i - 1:Nat):Int):=by rw [IntWalk.i64_in _ (by omega)];omega
     rw [wj,Int.toNat_natCast,Nat.zero_add]
     refine ⟨by omega,by omega,by omega,bc_of (fun h3=>?_) (fun h3=>?_)⟩
     ·have h3:(gtY o (i - 1)).1=true:=h3
      have hg:gtY o (i - 1)∈o:=by
       rw [gtY_at (show i - 1<o.length by omega)];exact List.getElem_mem _
      have hs:=hok _ hg
      simp [sOK,h3] at hs
      have wa:IntKind.i64.wrap ((gtY o (i - 1)).2.1+1)=(gtY o (i - 1)).2.1+1:=IntWalk.i64_in _ (by omega)
      rw [wa]
      refine ⟨by omega,by omega,by decide,by decide,by decide,bc_of (fun h4=>?_) (fun h4=>?_)⟩
      ·have h4:1<(gtB (gt a2S l i) 0).tmod 4:=of_decide_eq_true h4
       refine ⟨by omega,by omega,by omega,bc_of (fun h5=>?_) (fun h5=>?_)⟩
       ·have h5:(gtY o (i - 1)).2.1+1<n:=of_decide_eq_true h5
        refine ⟨by omega,by omega,by omega,Nat.le_refl 1,rfl,rfl,h30,by decide,nx _ ?_⟩
        unfold rawE;rw [if_pos ⟨h,h1'⟩,if_pos ⟨h2,h3,h4,h5⟩];rfl
       ·have h5:¬ (gtY o (i - 1)).2.1+1<n:=of_decide_eq_false h5
        exact ⟨Nat.le_refl 1,rfl,rfl,h30,by decide,nx _ (plain fun q=>h5 q.2.2.2)⟩
      ·have h4:¬ 1<(gtB (gt a2S l i) 0).tmod 4:=of_decide_eq_false h4
       exact ⟨rfl,Nat.le_refl 1,rfl,rfl,h30,by decide,nx _ (plain fun q=>h4 q.2.2.1)⟩
     ·have h3:(gtY o (i - 1)).1=false:=h3
      exact ⟨rfl,rfl,Nat.le_refl 1,rfl,rfl,h30,by decide,nx _ (plain fun q=>by rw [h3] at q;cases q.2.1)⟩
    ·have h2:¬ 0<i:=by have:=of_decide_eq_false h2;omega
     exact ⟨rfl,rfl,rfl,Nat.le_refl 1,rfl,rfl,h30,by decide,nx _ (plain fun q=>h2 q.1)⟩
   ·have h1':¬ 0<n:=of_decide_eq_false h1
    rw [h1]
    repeat refine ⟨rfl,?_⟩
    exact ⟨Nat.le_refl 1,rfl,rfl,h30,by decide,nx _ (by unfold rawE;rw [if_neg (fun q=>h1' q.2)];rfl)⟩
  ·have h:¬ 0<(gtB (gt a2S l i) 0).tmod 4:=of_decide_eq_false h
   refine ⟨rfl,by omega,by omega,by decide,by decide,by decide,rfl,rfl,rfl,rfl,Nat.le_refl 1,rfl,rfl,h30,by decide,nx _ (by unfold rawE;rw [if_neg (fun q=>h q.1)])⟩
theorem raw_held:Held Tryd.prog G0 12 ctRaw:=
 Held.of cx0 (fn:=Tryd.f12) rfl rfl ⟨by decide,by decide⟩ fun ⟨l,n,_⟩ hp=>
  sy_goK cx0 (vc_raw l n _ _) ((raw_loop l n hp.1 hp.2.1 hp.2.2 _ 0 rfl (Nat.zero_le _)).onlyR [(5,8)] rfl ⟨rfl,rfl,rfl,rfl,trivial⟩ ⟨rfl,trivial⟩)
end Go.Proofs.YtkiicobbnllpkaaDoor
namespace Go.Proofs.YtkiicobbnllpkaaDoor
open Go.Px Go.Ax
theorem gen_get (el:Nat→SyT):∀ n i k,k<n→(gen el n i)[k]?=some (el (i+k))
 | 0,_,_,h=>by omega
 | n+1,i,0,_=>by rw [gen];rfl
 | n+1,i,k+1,h=>by
  rw [gen,List.getElem?_cons_succ,gen_get el n (i+1) k (by omega)]
  congr 2;omega
theorem chk_of {m N:Int}:∀ {l:List OpT} {left i:Int},(∀ x∈l,isRB x m=true)→lenS l=left→chkF m N l left i=(N,0)
 | [],left,i,_,h=>by
  have h:(0:Int)=left:=h
  rw [chkF,if_neg (by omega)]
 | x::l,left,i,hr,h=>by
  have h1:=hr x (by simp)
  have h2:=isRB_len h1
  have h3:=lenS_pos (l:=l) fun y hy=>hr y (by simp [hy])
  rw [lenS_cons] at h
  rw [chkF,if_neg (by rw [h1];decide),if_neg (by omega)]
  exact chk_of (fun y hy=>hr y (by simp [hy])) (by omega)
theorem chkV_of {li:Bool} {m o:Int} {l:List OpT} (h0:0≤m) (h1:m≤65536) (ho:o≤65536) (hl:l.length≤4096) (hr:∀ x∈l,isRB x m=true) (hs:lenS l=o):chkV (li,m,o,l)=((l.length:Int),(0:Int)):=by
 have:=lenS_pos hr
 unfold chkV
 rw [if_pos ⟨by simp [szB];omega,by simp [szB];omega,hl⟩]
 exact chk_of hr hs
theorem isRB_part {x:OpT} {m:Int} (h:isRB x m=true) (hm:0≤m∧m<16777216) (hk:x.1=1∨x.1=2):0≤x.2.1∧x.2.1+x.2.2.1≤m:=by
 unfold isRB kR at h
 simp only [Bool.and_eq_true,decide_eq_true_eq] at h
 obtain ⟨h1,h2,h3⟩:=h
 have w:IntKind.i64.wrap (m - x.2.2.1)=m - x.2.2.1:=IntWalk.i64_in _ (by omega)
 rcases hk with e | e
 ·rw [if_pos e] at h3
  simp only [rB,isPartB,w,Bool.and_eq_true,decide_eq_true_eq] at h3
  omega
 ·rw [if_neg (by omega),if_pos e] at h3
  simp only [rB,isPartB,w,Bool.and_eq_true,decide_eq_true_eq] at h3
  omega
end Go.Proofs.YtkiicobbnllpkaaDoor
namespace Go.Proofs.YtkiicobbnllpkaaDoor
open Go.Px Go.Ax
def costS:List OpT→Int
 | []=>0
 | x::l=>cN x.1.toNat x+costS l
theorem cN_le {x:OpT} {m:Int} (h:isRB x m=true):0≤cN x.1.toNat x∧cN x.1.toNat x≤65540:=by
 have hl:=isRB_len h
 rcases (isRB_kind h).1 with e | e | e | e
 ·rw [e];exact (show (0:Int)≤4∧(4:Int)≤65540 by decide)
 ·rw [e]
  show 0≤IntKind.i64.wrap (4+x.2.2.1)∧IntKind.i64.wrap (4+x.2.2.1)≤65540
  rw [IntWalk.i64_in _ (by omega)];omega
 ·rw [e];exact (show (0:Int)≤4∧(4:Int)≤65540 by decide)
 ·rw [e]
  show 0≤IntKind.i64.wrap (2+x.2.2.1)∧IntKind.i64.wrap (2+x.2.2.1)≤65540
  rw [IntWalk.i64_in _ (by omega)];omega
theorem costF_of {m:Int}:∀ {l:List OpT} {s:Int},(∀ x∈l,isRB x m=true)→0≤s→s+65540 * l.length<4611686018427387904→costF s l=s+costS l
 | [],s,_,_,_=>by simp [costF,costS]
 | x::l,s,h,h0,hb=>by
  have h1:=cN_le (h x (by simp))
  rw [List.length_cons] at hb
  rw [costF,IntWalk.i64_in _ (by omega),costF_of (fun y hy=>h y (by simp [hy])) (by omega) (by omega),costS]
  omega
end Go.Proofs.YtkiicobbnllpkaaDoor
namespace Go.Proofs.YtkiicobbnllpkaaDoor
open Go.Px Go.Ax
def seg (l:List SyT) (a i:Nat):Prop:=∀ j,a≤j→j+1<i→goB (gtY l j) (gtY l (j+1))=true
theorem knd_old {s:SyT}:(kndB s=4↔s.1=false)∧(kndB s=1∨kndB s=2∨kndB s=4)∧(kndB s=1→s.1=true∧s.2.2=0)∧(kndB s=2→s.1=true):=by
 obtain ⟨o,a,b⟩:=s
 cases o
 ·simp [kndB]
 ·by_cases h:b=0 <;> simp [kndB,h]
theorem go_iff {s t:SyT}:goB s t=true↔kndB s=kndB t∧(s.1=true→t.2.1=IntKind.i64.wrap (s.2.1+1)):=by
 unfold goB
 cases h:s.1 <;> simp
theorem sOK_t {m:Int} {s:SyT} (h:sOK m s=true) (ho:s.1=true):0≤s.2.1∧s.2.1<m:=by
 unfold sOK at h;rw [if_pos ho] at h;simpa using h
theorem sOK_f {m:Int} {s:SyT} (h:sOK m s=true) (ho:s.1=false):s.2.1=0:=by
 unfold sOK at h;rw [if_neg (by rw [ho];decide)] at h;simpa using h
theorem pt_at {l:List SyT} {a i j:Nat} (hi:i≤l.length) (h:a+j<i):gtY (ptL l a i) j=gtY l (a+j):=by
 have hp:=ptL_len (l:=l) (a:=a) (i:=i) (by omega) hi
 rw [gtY_at (by omega),gtY_at (by omega)]
 simp [ptL,Px.part]
theorem mdO_1 {l:List SyT} {a i:Nat} (hp:gtY (ptL l a i) 0=gtY l a):(mdO (ptL l a i)).1=kndB (gtY l a)∧(mdO (ptL l a i)).2.1=(gtY l a).2.1∧(mdO (ptL l a i)).2.2.1=(ptL l a i).length:=by
 unfold mdO;rw [hp];exact ⟨rfl,rfl,rfl⟩
section
variable {l:List SyT} {m:Int} (hr:∀ s∈l,sOK m s=true) (hm:m<16777216)
include hr hm
theorem gt_ok {j:Nat} (h:j<l.length):sOK m (gtY l j)=true:=by
 have _:=hm
 rw [gtY_at h];exact hr _ (List.getElem_mem h)
theorem seg_fact {a i:Nat} (hs:seg l a i) (hi:i≤l.length):∀ j,a+j<i→kndB (gtY l (a+j))=kndB (gtY l a)∧((gtY l a).1=true→(gtY l (a+j)).1=true∧(gtY l (a+j)).2.1=(gtY l a).2.1+j)
 | 0,h=>⟨rfl,fun h=>⟨h,by simp⟩⟩
 | j+1,h=>by
  obtain ⟨k1,k2⟩:=seg_fact hs hi j (by omega)
  obtain ⟨g1,g2⟩:=go_iff.1 (hs (a+j) (by omega) (by omega))
  have e:a+(j+1)=a+j+1:=by omega
  rw [e]
  refine ⟨by rw [← g1,k1],fun ho=>?_⟩
  obtain ⟨o1,o2⟩:=k2 ho
  have hk:kndB (gtY l (a+j+1))≠4:=by rw [← g1];intro q;rw [knd_old.1.1 q] at o1;cases o1
  have ho2:(gtY l (a+j+1)).1=true:=by
   cases q:(gtY l (a+j+1)).1
   ·exact absurd (knd_old.1.2 q) hk
   ·rfl
  have b1:=sOK_t (gt_ok hr hm (j:=a+j) (by omega)) o1
  refine ⟨ho2,?_⟩
  rw [g2 o1,IntWalk.i64_in _ (by omega),o2]
  omega
theorem mdO_sym {a i:Nat} (ha:a<i) (hi:i≤l.length) (hs:seg l a i):symsO (mdO (ptL l a i)).1.toNat (mdO (ptL l a i))=ptL l a i:=by
 have hp:=ptL_len (l:=l) (a:=a) (i:=i) (by omega) hi
 have h0:gtY (ptL l a i) 0=gtY l a:=by rw [pt_at hi (by omega)];rfl
 have key:∀ (t:Nat) (el:Nat→SyT),(∀ j,a+j<i→el j=gtY l (a+j))→gen el (i - a) 0=ptL l a i:=fun t el h=>by
  refine List.ext_getElem? fun j=>?_
  by_cases hj:a+j<i
  ·rw [gen_get _ _ _ _ (by omega),Nat.zero_add,h j hj,List.getElem?_eq_getElem (by omega),← gtY_at (by omega),pt_at hi hj]
  ·rw [List.getElem?_eq_none (by rw [gen_len];omega),List.getElem?_eq_none (by omega)]
 have dat:∀ j,a+j<i→gtB ((ptL l a i).map fun s=>s.2.2) j=(gtY l (a+j)).2.2:=fun j hj=>by
  rw [gtB_at (by rw [List.length_map];omega),List.getElem_map,← gtY_at (by omega),pt_at hi hj]
 have ext3:∀ (s:SyT) (x:Bool) (y z:Int),s.1=x→s.2.1=y→s.2.2=z→(x,y,z)=s:=fun s x y z h1 h2 h3=>by subst h1;subst h2;subst h3;rfl
 unfold mdO
 rw [h0]
 rcases (knd_old (s:=gtY l a)).2.1 with k | k | k
 ·rw [k,if_pos rfl]
  obtain ⟨o,_⟩:=knd_old.2.2.1 k
  have e:cntO 1 ((1,(gtY l a).2.1,(ptL l a i).length,0,[]):OpT)=i - a:=by show ((ptL l a i).length:Int).toNat=_;omega
  show gen _ (cntO 1 _) 0=_
  rw [e]
  refine key 1 _ fun j hj=>?_
  obtain ⟨f1,f2⟩:=seg_fact hr hm hs hi j hj
  obtain ⟨f3,f4⟩:=f2 o
  rw [k] at f1
  have b1:=sOK_t (gt_ok hr hm (j:=a+j) (by omega)) f3
  have w:IntKind.i64.wrap ((gtY l a).2.1+(j:Int))=(gtY l a).2.1+j:=IntWalk.i64_in _ (by have:=sOK_t (gt_ok hr hm (j:=a) (by omega)) o;omega)
  show (true,IntKind.i64.wrap ((gtY l a).2.1+(j:Int)),0)=_
  rw [w]
  exact ext3 _ _ _ _ f3 f4 (knd_old.2.2.1 f1).2
 ·rw [k,if_neg (by decide)]
  have o:=knd_old.2.2.2 k
  have e:cntO 2 ((2,(gtY l a).2.1,(ptL l a i).length,0,(ptL l a i).map fun s=>s.2.2):OpT)=i - a:=by show ((ptL l a i).map fun s=>s.2.2).length=_;rw [List.length_map];omega
  show gen _ (cntO 2 _) 0=_
  rw [e]
  refine key 2 _ fun j hj=>?_
  obtain ⟨f1,f2⟩:=seg_fact hr hm hs hi j hj
  obtain ⟨f3,f4⟩:=f2 o
  have b1:=sOK_t (gt_ok hr hm (j:=a+j) (by omega)) f3
  have w:IntKind.i64.wrap ((gtY l a).2.1+(j:Int))=(gtY l a).2.1+j:=IntWalk.i64_in _ (by have:=sOK_t (gt_ok hr hm (j:=a) (by omega)) o;omega)
  show (true,IntKind.i64.wrap ((gtY l a).2.1+(j:Int)),gtB ((ptL l a i).map fun s=>s.2.2) j)=_
  rw [w]
  exact ext3 _ _ _ _ f3 f4 (dat j hj).symm
 ·rw [k,if_neg (by decide)]
  have e:cntO 4 ((4,(gtY l a).2.1,(ptL l a i).length,0,(ptL l a i).map fun s=>s.2.2):OpT)=i - a:=by show ((ptL l a i).map fun s=>s.2.2).length=_;rw [List.length_map];omega
  show gen _ (cntO 4 _) 0=_
  rw [e]
  refine key 4 _ fun j hj=>?_
  obtain ⟨f1,_⟩:=seg_fact hr hm hs hi j hj
  rw [k] at f1
  have o:=knd_old.1.1 f1
  show (false,0,gtB ((ptL l a i).map fun s=>s.2.2) j)=_
  exact ext3 _ _ _ _ o (sOK_f (gt_ok hr hm (j:=a+j) (by omega)) o) (dat j hj).symm
theorem mdO_right {a i:Nat} (ha:a<i) (hi:i≤l.length) (hl:l.length≤65536) (hs:seg l a i):isRB (mdO (ptL l a i)) m=true:=by
 have hp:=ptL_len (l:=l) (a:=a) (i:=i) (by omega) hi
 have h0:gtY (ptL l a i) 0=gtY l a:=by rw [pt_at hi (by omega)];rfl
 have part:(gtY l a).1=true→isPartB (gtY l a).2.1 (ptL l a i).length m=true:=fun o=>by
  have b0:=sOK_t (gt_ok hr hm (j:=a) (by omega)) o
  obtain ⟨_,f2⟩:=seg_fact hr hm hs hi (i - 1 - a) (by omega)
  obtain ⟨f3,f4⟩:=f2 o
  have b1:=sOK_t (gt_ok hr hm (j:=a+(i - 1 - a)) (by omega)) f3
  have w:IntKind.i64.wrap (m - (ptL l a i).length)=m - (ptL l a i).length:=IntWalk.i64_in _ (by omega)
  unfold isPartB
  rw [w]
  simp only [Bool.and_eq_true,decide_eq_true_eq]
  omega
 have lens:decide (1≤(mdO (ptL l a i)).2.2.1)=true∧decide ((mdO (ptL l a i)).2.2.1≤65536)=true:=by
  show decide (1≤((ptL l a i).length:Int))=true∧decide (((ptL l a i).length:Int)≤65536)=true
  simp only [decide_eq_true_eq]
  omega
 unfold isRB
 rw [lens.1,lens.2]
 unfold mdO kR
 rw [h0]
 rcases (knd_old (s:=gtY l a)).2.1 with k | k | k
 ·rw [k]
  obtain ⟨o,_⟩:=knd_old.2.2.1 k
  simp only [rB,if_true,part o]
  rfl
 ·rw [k]
  have o:=knd_old.2.2.2 k
  simp [rB,part o]
 ·rw [k]
  have o:=knd_old.1.1 k
  have z:=sOK_f (gt_ok hr hm (j:=a) (by omega)) o
  simp [rB,z]
def noJ (x y:OpT):Prop:=x.1≠3∧y.1≠3∧¬ (x.1=y.1∧(x.1=4∨IntKind.i64.wrap (x.2.1+x.2.2.1)=y.2.1))
theorem mdO_noJ {a i:Nat} {y:OpT} (ha:a<i) (hi:i<l.length) (hs:seg l a i) (hg:goB (gtY l (i - 1)) (gtY l i)=false) (h1:y.1=kndB (gtY l i)) (h2:y.2.1=(gtY l i).2.1):noJ (mdO (ptL l a i)) y:=by
 have hp:=ptL_len (l:=l) (a:=a) (i:=i) (by omega) (by omega)
 have h0:gtY (ptL l a i) 0=gtY l a:=by rw [pt_at (by omega) (by omega)];rfl
 obtain ⟨q1,q2,q3⟩:=mdO_1 h0
 obtain ⟨f1,f2⟩:=seg_fact hr hm hs (by omega) (i - 1 - a) (by omega)
 have e:a+(i - 1 - a)=i - 1:=by omega
 rw [e] at f1 f2
 unfold noJ
 rw [q1,q2,q3,h1,h2]
 refine ⟨fun q=>?_,fun q=>?_,fun ⟨k,q⟩=>?_⟩
 ·rcases (knd_old (s:=gtY l a)).2.1 with k | k | k <;> omega
 ·rcases (knd_old (s:=gtY l i)).2.1 with k | k | k <;> omega
 ·have ng:¬ goB (gtY l (i - 1)) (gtY l i)=true:=by rw [hg];decide
  apply ng
  rw [go_iff]
  refine ⟨by rw [f1,k],fun o=>?_⟩
  have oa:(gtY l a).1=true:=by
   cases c:(gtY l a).1
   ·rw [knd_old.1.2 c,knd_old.1] at f1
    rw [f1] at o;cases o
   ·rfl
  obtain ⟨f3,f4⟩:=f2 oa
  have b1:=sOK_t (gt_ok hr hm (j:=i - 1) (by omega)) f3
  rcases q with q | q
  ·rw [knd_old.1] at q;rw [q] at oa;cases oa
  ·rw [← q,f4,hp]
   congr 1
   omega
def chainJ:List OpT→Prop
 | []=>True
 | x::r=>(∀ y,r.head?=some y→noJ x y)∧chainJ r
theorem opsF_ok (hl:l.length≤65536):∀ (k a i:Nat),k=l.length+1 - i→1≤i→i≤l.length→a<i→seg l a i →
  symF (opsF l k a i)=l.drop a∧(∀ x∈opsF l k a i,isRB x m=true)∧(opsF l k a i).length≤k∧chainJ (opsF l k a i)∧∃ x r,opsF l k a i=x::r∧x.1=kndB (gtY l a)∧x.2.1=(gtY l a).2.1:=by
 intro k
 induction k with
 | zero=>intro a i hk h1 hi;omega
 | succ k ih=>
  intro a i hk h1 hi ha hs
  have hpt:ptL l a i++l.drop i=l.drop a:=by
   have:ptL l a i=(l.drop a).take (i - a):=by simp [ptL,Px.part,List.drop_take]
   rw [this]
   have e:l.drop i=(l.drop a).drop (i - a):=by rw [List.drop_drop];congr 1;omega
   rw [e,List.take_append_drop]
  have h0:gtY (ptL l a i) 0=gtY l a:=by rw [pt_at hi (by omega)];rfl
  obtain ⟨q1,q2,q3⟩:=mdO_1 h0
  have hsy:=mdO_sym hr hm ha hi hs
  have hri:=mdO_right hr hm ha hi hl hs
  by_cases hc:i=l.length∨goB (gtY l (i - 1)) (gtY l i)=false
  ·rw [cut1 hc]
   by_cases he:i=l.length
   ·have hk0:k=0:=by omega
    subst hk0
    have e0:opsF l 0 i (i+1)=[]:=rfl
    rw [e0]
    refine ⟨?_,fun x hx=>?_,by simp,⟨fun y hy=>(by cases hy),trivial⟩,_,_,rfl,q1,q2⟩
    ·rw [symF,symF,hsy,List.append_nil]
     rw [he,List.drop_length,List.append_nil] at hpt
     rw [he];exact hpt
    ·rw [List.mem_singleton] at hx;subst hx;exact hri
   ·have hg:goB (gtY l (i - 1)) (gtY l i)=false:=by rcases hc with hc | hc;exact absurd hc he;exact hc
    obtain ⟨i1,i2,i3,i4,x,r,i5,i6,i7⟩:=ih i (i+1) (by omega) (by omega) (by omega) (by omega) (fun j h1 h2=>by omega)
    refine ⟨?_,fun y hy=>?_,by rw [List.length_cons];omega,⟨fun y hy=>?_,i4⟩,_,_,rfl,q1,q2⟩
    ·rw [symF,hsy,i1];exact hpt
    ·rcases List.mem_cons.1 hy with rfl | hy
     ·exact hri
     ·exact i2 y hy
    ·rw [i5] at hy
     have hy:x=y:=by simpa using hy
     subst hy
     exact mdO_noJ hr hm ha (by omega) hs hg i6 i7
  ·rw [cut0 hc]
   have hil:i<l.length:=by
    rcases Nat.lt_or_ge i l.length with h | h
    ·exact h
    ·exact absurd (.inl (by omega)) hc
   have hg:goB (gtY l (i - 1)) (gtY l i)=true:=by
    cases q:goB (gtY l (i - 1)) (gtY l i)
    ·exact absurd (.inr q) hc
    ·rfl
   obtain ⟨i1,i2,i3,i4,i5⟩:=ih a (i+1) (by omega) (by omega) (by omega) (by omega) (fun j h1 h2=>by
    by_cases e:j+1<i
    ·exact hs j h1 e
    ·have:j=i - 1:=by omega
     subst this
     have e:i - 1+1=i:=by omega
     rw [e];exact hg)
   exact ⟨i1,i2,by omega,i4,i5⟩
theorem opsL_ok (hl:l.length≤65536):symF (opsL l)=l∧(∀ x∈opsL l,isRB x m=true)∧(opsL l).length≤l.length∧chainJ (opsL l):=by
 unfold opsL
 by_cases h:l.length=0
 ·have:l=[]:=List.eq_nil_of_length_eq_zero h
  subst this
  show symF ([]:List OpT)=[]∧(∀ x∈([]:List OpT),isRB x m=true)∧([]:List OpT).length≤0∧chainJ []
  exact ⟨rfl,fun x hx=>(by cases hx),Nat.le_refl 0,trivial⟩
 ·obtain ⟨h1,h2,h3,h4,_⟩:=opsF_ok hr hm hl l.length 0 1 (by omega) (by omega) (by omega) (by omega) (fun j h1 h2=>by omega)
  exact ⟨by rw [h1];rfl,h2,h3,h4⟩
end
end Go.Proofs.YtkiicobbnllpkaaDoor
namespace Go.Proofs.YtkiicobbnllpkaaDoor
open Go.Px Go.Ax
set_option maxRecDepth 100000
def ctOps0:Ctr:=⟨[.sl syS],fun x=>List.length x.1=0,fun x=>[.sl opS (opsL x.1)],fun _=>[]⟩
def ctOpsA:Ctr:=⟨[.sl syS],fun x=>List.length x.1<16777216,fun x=>[.sl opS (opsL x.1)],fun _=>[]⟩
set_option maxRecDepth 100000
theorem vc_rop53 (k f n b m:Int) (d:List Int) (Q:QT) (R:RT):sy tt G0 [(52,.inl ctIn)] Tryd.f55.ntmps Tryd.f55.results.toList Q R 1000 [.code (bodyOf Tryd.f55)] (entry [opS,iI] ((k,f,n,b,d),m,())) =
  (ctIn.pre (n,(1:Int),(65536:Int),()) ∧
 bc (!(decide ((1:Int)≤n) && decide (n≤(65536:Int)))) (Q [.bool false] [(2,.var [.int .i64 k,.int .i64 f,.int .i64 n,.int .u8 b,.sl uB d])]) (ctIn.pre (f,(0:Int),IntKind.i64.wrap (m - n),()) ∧
 bc (decide (k=(1:Int))) (bc (decide ((0:Int)≤f) && decide (f≤IntKind.i64.wrap (m - n))) (bc (decide (b=(0:Int))) (Q [.bool (decide ((d.length:Int)=(0:Int)))] [(2,.var [.int .i64 k,.int .i64 f,.int .i64 n,.int .u8 b,.sl uB d])]) (false=false ∧
 Q [.bool false] [(2,.var [.int .i64 k,.int .i64 f,.int .i64 n,.int .u8 b,.sl uB d])])) (false=false ∧
 false=false ∧
 Q [.bool false] [(2,.var [.int .i64 k,.int .i64 f,.int .i64 n,.int .u8 b,.sl uB d])])) (bc (decide (k=(2:Int))) (bc (decide ((0:Int)≤f) && decide (f≤IntKind.i64.wrap (m - n))) (bc (decide (b=(0:Int))) (Q [.bool (decide ((d.length:Int)=n))] [(2,.var [.int .i64 k,.int .i64 f,.int .i64 n,.int .u8 b,.sl uB d])]) (false=false ∧
 Q [.bool false] [(2,.var [.int .i64 k,.int .i64 f,.int .i64 n,.int .u8 b,.sl uB d])])) (false=false ∧
 false=false ∧
 Q [.bool false] [(2,.var [.int .i64 k,.int .i64 f,.int .i64 n,.int .u8 b,.sl uB d])])) (bc (decide (k=(3:Int))) (bc (decide (f=(0:Int))) (Q [.bool (decide ((d.length:Int)=(0:Int)))] [(2,.var [.int .i64 k,.int .i64 f,.int .i64 n,.int .u8 b,.sl uB d])]) (false=false ∧
 Q [.bool false] [(2,.var [.int .i64 k,.int .i64 f,.int .i64 n,.int .u8 b,.sl uB d])])) (bc (decide (k=(4:Int))) (bc (decide (f=(0:Int))) (bc (decide (b=(0:Int))) (Q [.bool (decide ((d.length:Int)=n))] [(2,.var [.int .i64 k,.int .i64 f,.int .i64 n,.int .u8 b,.sl uB d])]) (false=false ∧
 Q [.bool false] [(2,.var [.int .i64 k,.int .i64 f,.int .i64 n,.int .u8 b,.sl uB d])])) (false=false ∧
 false=false ∧
 Q [.bool false] [(2,.var [.int .i64 k,.int .i64 f,.int .i64 n,.int .u8 b,.sl uB d])])) (Q [.bool false] [(2,.var [.int .i64 k,.int .i64 f,.int .i64 n,.int .u8 b,.sl uB d])])))))):=by kernel_rfl
theorem vc_of2 (l:List SyT) (m:Int) (Q:QT) (R:RT):sy tt G0 ((41,.inl ctOpsA)::(40,.inl ctAre)::C1) Tryd.f20.ntmps Tryd.f20.results.toList Q R 1000 [.code (bodyOf Tryd.f20)] (entry [.sl syS,iI] (l,m,())) =
  (ctSize.pre (m,()) ∧
 bc (!(decide ((0:iI.D)≤m) && decide (m≤(65536:iI.D)))) (true=true ∧
 true=true ∧
 Q [.agg [.bool false,.int .i64 0,.int .i64 0,.nils],.int .i64 60] [(4,.var [.bool false,.int .i64 0,.int .i64 0,.nils])]) (ctSize.pre ((l.length:Int),()) ∧
 bc (bif false then true else !(decide ((0:iI.D)≤(l.length:Int)) && decide ((l.length:Int)≤(65536:iI.D)))) (true=true ∧
 Q [.agg [.bool false,.int .i64 0,.int .i64 0,.nils],.int .i64 60] [(4,.var [.bool false,.int .i64 0,.int .i64 0,.nils])]) (ctAre.pre (l,m,()) ∧
 bc (bif false then true else !l.all (sOK m)) (Q [.agg [.bool false,.int .i64 0,.int .i64 0,.nils],.int .i64 60] [(4,.var [.bool false,.int .i64 0,.int .i64 0,.nils])]) (ctOpsA.pre (l,()) ∧
 bc (decide ((4096:Int)<(↑(opsL l).length:Int))) (Q [.agg [.bool false,.int .i64 0,.int .i64 0,.nils],.int .i64 2] [(4,.var [.bool false,.int .i64 0,.int .i64 0,.nils])]) (Q [.agg [.bool false,.int .i64 m,.int .i64 (l.length:Int),.sl opS (opsL l)],.int .i64 0] [(4,.var [.bool false,.int .i64 m,.int .i64 (l.length:Int),.sl opS (opsL l)])]))))):=by kernel_rfl
end Go.Proofs.YtkiicobbnllpkaaDoor
namespace Go.Proofs.YtkiicobbnllpkaaDoor
open Go.Px Go.Ax
set_option maxRecDepth 100000
attribute [local irreducible] Go.Px.sy Go.Px.syE
def ctRop:Ctr:=⟨[opS,iI],fun _=>True,fun x=>[.bool (isRB x.1 x.2.1)],fun _=>[]⟩
theorem rop_run (k f n b m:Int) (d:List Int):sy tt G0 [(52,.inl ctIn)] Tryd.f55.ntmps Tryd.f55.results.toList (QC ctRop ((k,f,n,b,d),m,())) (Px.Good Tryd.prog tt G0 55 Tryd.f55.ntmps Tryd.f55.results.toList (QC ctRop ((k,f,n,b,d),m,()))) 1000 [.code (bodyOf Tryd.f55)] (entry [opS,iI] ((k,f,n,b,d),m,())):=by
 have fin:∀ (v:Bool) (blk:List (Nat × LB)),isRB (k,f,n,b,d) m=v→QC ctRop ((k,f,n,b,d),m,()) [SV.bool v] blk:=fun v blk h=>QC.flat (by show [SV.bool (isRB _ _)]=_;rw [h]) rfl rfl
 refine (vc_rop53 k f n b m d _ _).mpr ⟨trivial,bc_of (fun h=>?_) (fun h=>?_)⟩
 ·have h:(!(decide (1≤n) && decide (n≤65536)))=true:=h
  refine fin _ _ ?_
  show (decide (1≤n) && (decide (n≤65536) && kR _ m))=false
  rw [Bool.not_eq_true'] at h
  rw [← Bool.and_assoc,h];rfl
 ·have h:(!(decide (1≤n) && decide (n≤65536)))=false:=h
  rw [Bool.not_eq_false'] at h
  have hk:isRB (k,f,n,b,d) m=kR (k,f,n,b,d) m:=by
   show (decide (1≤n) && (decide (n≤65536) && kR _ m))=_
   rw [← Bool.and_assoc,h,Bool.true_and]
  refine ⟨trivial,bc_of (fun h1=>?_) (fun h1=>bc_of (fun h2=>?_) (fun h2=>bc_of (fun h3=>?_) (fun h3=>bc_of (fun h4=>?_) (fun h4=>?_))))⟩
  ·have h1:k=1:=of_decide_eq_true h1
   have e:kR (k,f,n,b,d) m=(isPartB f n m && (decide (b=0) && decide ((d.length:Int)=0))):=by subst h1;rfl
   rw [e] at hk
   refine bc_of (fun a=>bc_of (fun c=>?_) (fun c=>⟨rfl,?_⟩)) (fun a=>⟨rfl,rfl,?_⟩)
   ·exact fin _ _ (by rw [hk,show isPartB f n m=true from a,c];rfl)
   ·exact fin _ _ (by rw [hk,show isPartB f n m=true from a,c];rfl)
   ·exact fin _ _ (by rw [hk,show isPartB f n m=false from a];rfl)
  ·have h2:k=2:=of_decide_eq_true h2
   have e:kR (k,f,n,b,d) m=(isPartB f n m && (decide (b=0) && decide ((d.length:Int)=n))):=by subst h2;rfl
   rw [e] at hk
   refine bc_of (fun a=>bc_of (fun c=>?_) (fun c=>⟨rfl,?_⟩)) (fun a=>⟨rfl,rfl,?_⟩)
   ·exact fin _ _ (by rw [hk,show isPartB f n m=true from a,c];rfl)
   ·exact fin _ _ (by rw [hk,show isPartB f n m=true from a,c];rfl)
   ·exact fin _ _ (by rw [hk,show isPartB f n m=false from a];rfl)
  ·have h3:k=3:=of_decide_eq_true h3
   have e:kR (k,f,n,b,d) m=(decide (f=0) && decide ((d.length:Int)=0)):=by subst h3;rfl
   rw [e] at hk
   refine bc_of (fun a=>?_) (fun a=>⟨rfl,?_⟩)
   ·exact fin _ _ (by rw [hk,a];rfl)
   ·exact fin _ _ (by rw [hk,a];rfl)
  ·have h4:k=4:=of_decide_eq_true h4
   have e:kR (k,f,n,b,d) m=(decide (f=0) && (decide (b=0) && decide ((d.length:Int)=n))):=by subst h4;rfl
   rw [e] at hk
   refine bc_of (fun a=>bc_of (fun c=>?_) (fun c=>⟨rfl,?_⟩)) (fun a=>⟨rfl,rfl,?_⟩)
   ·exact fin _ _ (by rw [hk,a,c];rfl)
   ·exact fin _ _ (by rw [hk,a,c];rfl)
   ·exact fin _ _ (by rw [hk,a];rfl)
  ·have h1:¬ k=1:=of_decide_eq_false h1
   have h2:¬ k=2:=of_decide_eq_false h2
   have h3:¬ k=3:=of_decide_eq_false h3
   have h4:¬ k=4:=of_decide_eq_false h4
   refine fin _ _ ?_
   rw [hk]
   show (if k=1 then _ else if k=2 then _ else if k=3 then _ else if k=4 then _ else false)=false
   rw [if_neg h1,if_neg h2,if_neg h3,if_neg h4]
theorem rop_held:Held Tryd.prog G0 55 ctRop:=
 Held.run (cx0.cons in_held (fn:=Tryd.f52) rfl rfl rfl) (fn:=Tryd.f55) rfl rfl ⟨by decide,by decide⟩ fun ⟨⟨k,f,n,b,d⟩,m,_⟩ _=>rop_run k f n b m d
theorem ops0_held:Held Tryd.prog G0 41 ctOps0:=by
 refine Held.run dxO (fn:=Tryd.f41) rfl rfl ⟨by decide,by decide⟩ ?_
 rintro ⟨l,⟨⟩⟩ hp
 replace hp:l.length=0:=hp
 have e:l=[]:=List.eq_nil_of_length_eq_zero hp
 subst e
 refine (vc_ops [] _ _).mpr ?_
 refine Good.only (S':=⟨[(0,.sl syS []),(3,.nils),(4,.int .i64 ((0:Nat):Int)),(5,.int .i64 ((1:Nat):Int))],[]⟩) (sy_sound dxO _ _ _ ((vc_opsA [] 0 1 _ _).mpr ?_)) ⟨rfl,rfl,rfl,rfl,trivial⟩ trivial
 rw [decide_eq_false (by decide),bc_f]
 exact QC.mt ⟨_,_,rfl,.inr ⟨rfl,rfl⟩,rfl⟩ rfl
theorem opsA_held:Held Tryd.prog G0 41 ctOpsA:=fun x hp=>by
 by_cases h:List.length x.1=0
 ·exact ops0_held x h
 ·exact ops_held x ⟨Nat.pos_of_ne_zero h,hp⟩
def ctOfA:Ctr:=⟨[.sl syS,iI],fun x=>List.length x.1<16777216,fun x=>[paV (ofV x.1 x.2.1).1,.int .i64 (ofV x.1 x.2.1).2],fun _=>[]⟩
theorem ofA_held:Held Tryd.prog G0 20 ctOfA:=by
 refine Held.run ((cx1.cons are_held (fn:=Tryd.f40) rfl rfl rfl).cons opsA_held (fn:=Tryd.f41) rfl rfl rfl) (fn:=Tryd.f20) rfl rfl ⟨by decide,by decide⟩ ?_
 rintro ⟨l,m,⟨⟩⟩ hp
 replace hp:l.length<16777216:=hp
 have bad:¬ (szB m=true∧szB l.length=true∧l.all (sOK m)=true)→ofV l m=((false,0,0,[]),60):=fun q=>if_neg q
 refine (vc_of2 l m _ _).mpr ⟨trivial,bc_of (fun h=>⟨rfl,rfl,?_⟩) (fun h=>⟨trivial,bc_of (fun h2=>⟨rfl,?_⟩) (fun h2=>⟨(show l.length<1099511627776 by omega),bc_of (fun h3=>?_) (fun h3=>⟨hp,bc_of (fun h4=>?_) (fun h4=>?_)⟩)⟩)⟩)⟩
 ·have h:(!szB m)=true:=h
  have hv:=bad fun q=>by rw [q.1] at h;cases h
  exact QC.mt (by show MtL _ [paV (ofV l m).1,.int .i64 (ofV l m).2] _;rw [hv];exact ⟨_,_,rfl,⟨_,rfl,_,_,rfl,rfl,_,_,rfl,rfl,_,_,rfl,rfl,_,_,rfl,.inr ⟨rfl,rfl⟩,rfl⟩,_,_,rfl,rfl,rfl⟩) rfl
 ·have h2:(!szB l.length)=true:=h2
  have hv:=bad fun q=>by rw [q.2.1] at h2;cases h2
  exact QC.mt (by show MtL _ [paV (ofV l m).1,.int .i64 (ofV l m).2] _;rw [hv];exact ⟨_,_,rfl,⟨_,rfl,_,_,rfl,rfl,_,_,rfl,rfl,_,_,rfl,rfl,_,_,rfl,.inr ⟨rfl,rfl⟩,rfl⟩,_,_,rfl,rfl,rfl⟩) rfl
 ·have h3:(!l.all (sOK m))=true:=h3
  have hv:=bad fun q=>by rw [q.2.2] at h3;cases h3
  exact QC.mt (by show MtL _ [paV (ofV l m).1,.int .i64 (ofV l m).2] _;rw [hv];exact ⟨_,_,rfl,⟨_,rfl,_,_,rfl,rfl,_,_,rfl,rfl,_,_,rfl,rfl,_,_,rfl,.inr ⟨rfl,rfl⟩,rfl⟩,_,_,rfl,rfl,rfl⟩) rfl
 all_goals
  have h:(!szB m)=false:=h
  have h2:(!szB l.length)=false:=h2
  have h3:(!l.all (sOK m))=false:=h3
  have hg:szB m=true∧szB l.length=true∧l.all (sOK m)=true:=⟨by simpa using h,by simpa using h2,by simpa using h3⟩
 ·have h4:(4096:Int)<((opsL l).length:Int):=of_decide_eq_true h4
  have hv:ofV l m=((false,0,0,[]),2):=by unfold ofV;rw [if_pos hg,if_pos (by omega)]
  exact QC.mt (by show MtL _ [paV (ofV l m).1,.int .i64 (ofV l m).2] _;rw [hv];exact ⟨_,_,rfl,⟨_,rfl,_,_,rfl,rfl,_,_,rfl,rfl,_,_,rfl,rfl,_,_,rfl,.inr ⟨rfl,rfl⟩,rfl⟩,_,_,rfl,rfl,rfl⟩) rfl
 ·have h4:¬ (4096:Int)<((opsL l).length:Int):=of_decide_eq_false h4
  have hv:ofV l m=(((false,m,(l.length:Int),opsL l):PaT),(0:Int)):=by unfold ofV;rw [if_pos hg,if_neg (by omega)]
  exact QC.flat (by show [paV (ofV l m).1,.int .i64 (ofV l m).2]=_;rw [hv];rfl) rfl rfl
end Go.Proofs.YtkiicobbnllpkaaDoor
namespace Go.Proofs.YtkiicobbnllpkaaDoor
open Go.Px Go.Ax
set_option maxRecDepth 100000
def CRc:CV:=[(55,.inl ctRop),(52,.inl ctIn)]
theorem cxRc:CxOK Tryd.prog tt G0 CRc:=(cx0.cons in_held (fn:=Tryd.f52) rfl rfl rfl).cons rop_held (fn:=Tryd.f55) rfl rfl rfl
set_option maxRecDepth 100000
theorem vc_rchk (li:Bool) (m o:Int) (l:List OpT) (Q:QT) (R:RT):sy tt G0 CRc Tryd.f42.ntmps Tryd.f42.results.toList Q (fun it S=>R it (keepS [1,4,5] [1] S)) 1000 [.code (bodyOf Tryd.f42)] (entry [paS] ((li,m,o,l),())) =
  (ctIn.pre (m,(0:Int),(65536:Int),()) ∧
 bc (!(decide ((0:Int)≤m) && decide (m≤(65536:Int)))) (true=true ∧
 true=true ∧
 Q [.int .i64 (-1:Int),.int .i64 60] [(1,.var [.bool li,.int .i64 m,.int .i64 o,.sl opS l])]) (ctIn.pre (o,(0:Int),(65536:Int),()) ∧
 bc (bif false then true else !(decide ((0:Int)≤o) && decide (o≤(65536:Int)))) (true=true ∧
 Q [.int .i64 (-1:Int),.int .i64 60] [(1,.var [.bool li,.int .i64 m,.int .i64 o,.sl opS l])]) (bc (bif false then true else decide ((4096:Int)<(l.length:Int))) (Q [.int .i64 (-1:Int),.int .i64 60] [(1,.var [.bool li,.int .i64 m,.int .i64 o,.sl opS l])]) (R (hd Tryd.f42 0) { env:=[(1,.ptr 1 0),(4,.int .i64 0),(5,.int .i64 0)],blk:=[(1,.var [.bool li,.int .i64 m,.int .i64 o,.sl opS l])] })))):=by kernel_rfl
theorem vc_rchkL (li:Bool) (m o s:Int) (l:List OpT) (i:Nat) (Q:QT) (R:RT):sy tt G0 CRc Tryd.f42.ntmps Tryd.f42.results.toList Q (fun it S=>R it (keepS [1,4,5] [1] S)) 1000 (hd Tryd.f42 0) ⟨[(1,.ptr 1 0),(4,.int .i64 s),(5,.int .i64 (i:Nat))],[(1,.var [.bool li,.int .i64 m,.int .i64 o,.sl opS l])]⟩ =
  (bc (decide ((i:Int)<(l.length:Int))) ((0:Int)≤(i:Int) ∧
 (i:Int)<(l.length:Int) ∧
 ctRop.pre ((gtO l (i:Int).toNat),m,()) ∧
 bc (!isRB (gtO l (i:Int).toNat) m) (true=true ∧
 Q [.int .i64 (i:Int),.int .i64 60] [(1,.var [.bool li,.int .i64 m,.int .i64 o,.sl opS l])]) ((0:Int)≤(i:Int) ∧
 (i:Int)<(l.length:Int) ∧
 bc (bif false then true else decide (o<IntKind.i64.wrap (s+(gtO l (i:Int).toNat).2.2.1))) (Q [.int .i64 (i:Int),.int .i64 60] [(1,.var [.bool li,.int .i64 m,.int .i64 o,.sl opS l])]) ((0:Int)≤(i:Int) ∧
 (i:Int)<(l.length:Int) ∧
 R (hd Tryd.f42 0) { env:=[(1,.ptr 1 0),(4,.int .i64 (IntKind.i64.wrap (s+(gtO l (i:Int).toNat).2.2.1))),(5,.int .i64 (IntKind.i64.wrap ((i:Int)+(1:Int))))],blk:=[(1,.var [.bool li,.int .i64 m,.int .i64 o,.sl opS l])] }))) (bc (decide (s≠o)) (Q [.int .i64 (l.length:Int),.int .i64 60] [(1,.var [.bool li,.int .i64 m,.int .i64 o,.sl opS l])]) (Q [.int .i64 (l.length:Int),.int .i64 0] [(1,.var [.bool li,.int .i64 m,.int .i64 o,.sl opS l])]))):=by kernel_rfl
theorem vc_right (li:Bool) (m o:Int) (l:List OpT) (Q:QT) (R:RT):sy tt G0 [(42,.inl ctChk)] Tryd.f21.ntmps Tryd.f21.results.toList Q R 1000 [.code (bodyOf Tryd.f21)] (entry [paS] ((li,m,o,l),())) =
  (ctChk.pre ((li,m,o,l),()) ∧
 Q [.bool (decide ((chkV (li,m,o,l)).2=(0:Int)))] [(1,.var [.bool li,.int .i64 m,.int .i64 o,.sl opS l])]):=by kernel_rfl
end Go.Proofs.YtkiicobbnllpkaaDoor
namespace Go.Proofs.YtkiicobbnllpkaaDoor
open Go.Px Go.Ax
set_option maxRecDepth 100000
attribute [local irreducible] Go.Px.sy Go.Px.syE
abbrev ChQ (a b:Int):List SV→List (Nat × LB)→Prop:=fun rs _=>rs=[.int .i64 a,.int .i64 b]
theorem rchk_loop (li:Bool) (m o:Int) (l:List OpT) (ho:0≤o∧o≤65536) (hl:l.length≤4096):∀ (k i:Nat) (s:Int),l.length - i=k→i≤l.length→0≤s→s≤o →
  GD 42 Tryd.f42 (ChQ (chkF m l.length (l.drop i) (o - s) i).1 (chkF m l.length (l.drop i) (o - s) i).2) (hd Tryd.f42 0) ⟨[(1,.ptr 1 0),(4,.int .i64 s),(5,.int .i64 (i:Nat))],[(1,.var [.bool li,.int .i64 m,.int .i64 o,.sl opS l])]⟩:=by
 intro k
 induction k with
 | zero=>
  intro i s hk hi h0 hs
  have hi:i=l.length:=by omega
  subst hi
  refine sy_goK cxRc (vc_rchkL li m o s l _ _ _) ?_
  rw [decide_eq_false (by omega),bc_f,List.drop_length]
  simp only [chkF]
  refine bc_of (fun h=>?_) (fun h=>?_)
  ·have h:s≠o:=of_decide_eq_true h
   rw [if_pos (by omega)]
  ·have h:¬ s≠o:=of_decide_eq_false h
   rw [if_neg (by omega)]
 | succ k ih=>
  intro i s hk hi h0 hs
  have hil:i<l.length:=by omega
  refine sy_goK cxRc (vc_rchkL li m o s l i _ _) ?_
  rw [decide_eq_true (show (i:Int)<(l.length:Int) by omega),bc_t,Int.toNat_natCast,gtO_at hil,IntWalk.i64_in ((i:Int)+1) (by omega),dropc hil]
  simp only [chkF]
  refine ⟨by omega,by omega,trivial,bc_of (fun h=>⟨trivial,?_⟩) (fun h=>⟨by omega,by omega,?_⟩)⟩
  ·have h:isRB l[i] m=false:=by simpa using h
   rw [if_pos h]
  ·have h:isRB l[i] m=true:=by simpa using h
   have hx:=isRB_len h
   have w:IntKind.i64.wrap (s+l[i].2.2.1)=s+l[i].2.2.1:=IntWalk.i64_in _ (by omega)
   have h2:¬ isRB l[i] m=false:=by rw [h];decide
   rw [w,if_neg h2]
   refine bc_of (fun h3=>?_) (fun h3=>?_)
   ·have h3:o<s+l[i].2.2.1:=of_decide_eq_true h3
    rw [if_pos (by omega)]
   ·have h3:¬ o<s+l[i].2.2.1:=of_decide_eq_false h3
    have nx:=ih (i+1) (s+l[i].2.2.1) (by omega) (by omega) (by omega) (by omega)
    have e:o - (s+l[i].2.2.1)=o - s - l[i].2.2.1:=by omega
    rw [e] at nx
    rw [if_neg (by omega)]
    exact ⟨by omega,by omega,nx.only ⟨rfl,rfl,rfl,trivial⟩ ⟨rfl,trivial⟩⟩
theorem rchk_run (li:Bool) (m o:Int) (l:List OpT):GD 42 Tryd.f42 (ChQ (chkV (li,m,o,l)).1 (chkV (li,m,o,l)).2) [.code (bodyOf Tryd.f42)] (entry [paS] ((li,m,o,l),())):=by
 have bad:¬ (szB m=true∧szB o=true∧l.length≤4096)→chkV (li,m,o,l)=(-1,60):=fun q=>if_neg q
 refine sy_goK cxRc (vc_rchk li m o l _ _) ⟨trivial,bc_of (fun h=>⟨rfl,rfl,?_⟩) (fun h=>⟨trivial,bc_of (fun h2=>⟨rfl,?_⟩) (fun h2=>bc_of (fun h3=>?_) (fun h3=>?_))⟩)⟩
 ·have h:(!szB m)=true:=h
  rw [bad fun q=>by rw [q.1] at h;cases h]
 ·have h2:(!szB o)=true:=h2
  rw [bad fun q=>by rw [q.2.1] at h2;cases h2]
 ·have h3:(4096:Int)<(l.length:Int):=of_decide_eq_true h3
  rw [bad fun q=>by omega]
 ·have h:(!szB m)=false:=h
  have h2:(!szB o)=false:=h2
  have h3:¬ (4096:Int)<(l.length:Int):=of_decide_eq_false h3
  have hg:szB m=true∧szB o=true∧l.length≤4096:=⟨by simpa using h,by simpa using h2,by omega⟩
  have ho:0≤o∧o≤65536:=by
   have:=hg.2.1
   simpa [szB] using this
  have hv:chkV (li,m,o,l)=chkF m l.length (l.drop 0) (o - 0) ((0:Nat):Int):=by
   unfold chkV;rw [if_pos hg,Int.sub_zero];rfl
  rw [hv]
  exact (rchk_loop li m o l ho hg.2.2 _ 0 0 rfl (by omega) (by omega) ho.1).only ⟨rfl,rfl,rfl,trivial⟩ ⟨rfl,trivial⟩
theorem rchk_held:Held Tryd.prog G0 42 ctChk:=
 Held.of cxRc (fn:=Tryd.f42) rfl rfl ⟨by decide,by decide⟩ fun ⟨⟨li,m,o,l⟩,_⟩ _=>
  (rchk_run li m o l).post fun rs blk hq=>QC.flat (by rw [hq];rfl) rfl (by rw [hq];rfl)
def ctRi:Ctr:=⟨[paS],fun _=>True,fun x=>[.bool (decide ((chkV x.1).2=0))],fun _=>[]⟩
theorem right_held:Held Tryd.prog G0 21 ctRi:=
 Held.run (cx0.cons rchk_held (fn:=Tryd.f42) rfl rfl rfl) (fn:=Tryd.f21) rfl rfl ⟨by decide,by decide⟩ fun ⟨⟨li,m,o,l⟩,_⟩ _=>
  (vc_right li m o l _ _).mpr ⟨trivial,QC.flat rfl rfl rfl⟩
end Go.Proofs.YtkiicobbnllpkaaDoor
