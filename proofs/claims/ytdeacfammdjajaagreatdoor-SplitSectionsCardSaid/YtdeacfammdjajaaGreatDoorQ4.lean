/-
  A part of the proof: what pieces of the program give; conditions: those of each theorem.
-/
import Derived.Test.YtdeacfammdjajaaGreatDoorQ3
import Derived.Test.YtdeacfammdjajaaGreatDoorHD
import Derived.Test.YtdeacfammdjajaaGreatDoorQ2
import Derived.Test.YtdeacfammdjajaaGreatDoorQ1
import Derived.KernelRfl
set_option linter.unusedVariables false
set_option linter.unusedSimpArgs false
namespace Go.Proofs.YtdeacfammdjajaaGreatDoor
open Go.Px Go.Ax
set_option maxRecDepth 100000
attribute [local irreducible] Go.Px.sy Go.Px.syE
abbrev yPf (m:Int) (q:List SyT):DL yP:=((cpV q m).1,(cpV q m).2,())
theorem hdPt:hd Tryz.f102 0=.code (.rangeFunc (.tmp 5) #[6] (rfA Tryz.f102 0) (rfB Tryz.f102 0))::rfK Tryz.f102 0:=by kernel_rfl
theorem rndPt:rnd Tryz.f102 0=[.code (rfA Tryz.f102 0),.beginRound,.code (rfB Tryz.f102 0)]:=by kernel_rfl
theorem qkd {m:Int} {lp:Nat} {ys:List (DL yP)} {QL:AExit->Nat × Bool->DI (KP lp)->Prop} (hN:QL .normal (ys.length,false) ((m,()),((),()),())) (hR:∀ j,QL .ret (j,true) ((m,()),((),()),())):∀ (rs:List (List SyT)) (j:Nat),j<=ys.length->ys.drop j=rs.map (yPf m)->(∀ q∈rs,q.length<16777216) ->
  qpm Tryz.prog G0 102 Tryz.f102.ntmps ⟨lp,yP,ys⟩ [2,3] [6] (KP lp) yS1 (rfA Tryz.f102 0) (rfB Tryz.f102 0) QL (rs.map yL) (j,false) ((m,()),((),()),())
 | [],j,hj,h,_=>by
  have e:=qqv hj h;subst e;exact hN
 | q::rs,j,hj,h,hq=>by
  obtain ⟨h1,h2,h3⟩:=qt5 (y:=yPf m q) (r:=rs.map (yPf m)) h;have k:=qkd (m:=m) (lp:=lp) (ys:=ys) (QL:=QL) hN hR rs (j+1) (by omega) h3 (λ x hx=>hq x (by simp[hx]))
  show GoodE Tryz.prog G0 102 Tryz.f102.ntmps .ready ⟨lp,yP,ys⟩ _ [.code (rfA Tryz.f102 0),.beginRound,.code (rfB Tryz.f102 0)] (j,false) (qk6 [2,3] [6] (KP lp) yS1 ((m,()),((),()),()) (q,()))
  rw[<- rndPt];refine qdq cxPt (q7g m q j false lp ys _ _) ⟨hq q (by simp),rfl,rfl,h2,λ r=>?_⟩
  cases r with
  | false=>exact qag (λ _=>⟨[],((m,()),((),()),()),⟨⟨rfl,rfl,trivial⟩,rfl,rfl⟩,hR (j+1)⟩) (λ h=>by cases h)
  | true=>exact qag (λ h=>by cases h) (λ _=>⟨[],((m,()),((),()),()),⟨⟨rfl,rfl,trivial⟩,rfl,rfl⟩,k⟩)
def bkP (lp:Nat) (x:DI (KP lp)):List (Nat × LB):=[(BIG,.var [.i x.1.1]),(BIG+1,.var [.yl lp])]
theorem qzf {s:List SyT} {l:List SecT} (hs:s.length<16777216):∀ q∈secF s l,q.length<16777216:=λ q hq=>by
 obtain ⟨x,_,rfl⟩:=List.mem_map.1 hq
 show ((s.take _).drop _).length<_
 rw[List.length_drop,List.length_take];omega
theorem qpc {s:List SyT} {n:Nat} (hs:s.length<16777216):∀ (f i:Nat),∀ q∈qlp s n f i,q.length<16777216
 | 0,_,q,h=>by cases h
 | f+1,i,q,h=>by
  rw[qlp] at h;split at h
  ·rcases List.mem_cons.1 h with rfl | h
   ·show ((s.take _).drop _).length<_
    rw[List.length_drop,List.length_take];omega
   ·exact qpc hs f (i+n) q h
  ·cases h
def q9a:CtrY:=⟨q6x,λ x=>qit x.1.1.2.2.1.1 x.1.1.2.1.1,yP,λ x=>(secF x.1.1.2.2.1.1 x.1.1.2.1.1).map (yPf x.2.1.1)⟩
theorem qzj:HeldY Tryz.prog G0 102 q9a:=HeldY.of (fn:=Tryz.f102) rfl rfl rfl ⟨by decide,by decide⟩ λ ⟨⟨⟨⟨⟩,⟨l,⟨⟩⟩,⟨s,⟨⟩⟩,⟨⟩⟩,⟨⟩⟩,⟨m,⟨⟩⟩,⟨⟩⟩ hp lp=>by
 have hp:qit s l:=hp;refine qdq cxPt (q7f s l m lp _ _ _) ?_
 show GoodE Tryz.prog G0 102 Tryz.f102.ntmps .fn ⟨lp,yP,(secF s l).map (yPf m)⟩ (endY ((secF s l).map (yPf m)).length) (hd Tryz.f102 0) (0,false) _
 rw[hdPt];refine GoodE.rangeF (gf:=103) (ct:=q9d) (Ko:=KP lp) (xi:=((l,()),((s,()),()))) (x0:=((m,()),((),()),())) (ns1:=[some (BIG+1),some (BIG+2)]) (ns2:=[some (BIG+3),some 3]) (tl:=[(2,.ptr (BIG+3) 0),(3,.ptr 3 0)]) (bkF:=bkP lp) (rF:=[]) (d:=21) (m:=2)
  (by simp) ?_ q55 rfl rfl rfl ?_ hp ⟨rfl,rfl,trivial⟩ rfl ?_ (by decide) ⟨by decide,by decide,rfl⟩ rfl ?_ (by decide) ?_
 ·exact λ args w=>qbi (fn:=Tryz.f103) rfl rfl rfl args w
 ·exact λ c hc=>by cases hc
 ·intro c hc;have hc:c∈[lp=lp]:=hc;rw[List.mem_singleton] at hc;subst hc;rfl
 ·exact λ x hx=>⟨⟨rfl,rfl,trivial⟩,by simp[bkP,rho,lk,BIG],λ p hp hb=>(by
   simp only[bkP,List.mem_cons,List.not_mem_nil,or_false] at hp;rcases hp with rfl | rfl
   ·exact ⟨rfl,rfl⟩
   ·exact ⟨rfl,rfl⟩),by kernel_rfl⟩
 ·refine qkd ?_ (λ j=>?_) (secF s l) 0 (Nat.zero_le _) rfl (qzf hp.1)
  ·have e:GEz 102 Tryz.f102 ⟨lp,yP,(secF s l).map (yPf m)⟩ (endY ((secF s l).map (yPf m)).length) (rfK Tryz.f102 0) (((secF s l).map (yPf m)).length,false) ⟨[],[]⟩:=qdq cxPt (q19 _ false lp _ _ _) (.inr rfl);exact e.only trivial trivial
  ·have e:GEz 102 Tryz.f102 ⟨lp,yP,(secF s l).map (yPf m)⟩ (endY ((secF s l).map (yPf m)).length) (qkv .ret++rfK Tryz.f102 0) (j,true) ⟨[],[]⟩:=qdq cxPt (q18 j true lp _ _ _) (.inl rfl);exact e.only trivial trivial
def q9b:CtrY:=⟨q6y,λ x=>qoh x.1.1.2.1.1 x.1.1.2.2.1.1,yP,λ x=>(qby x.1.1.2.1.1 x.1.1.2.2.1.1).map (yPf x.2.1.1)⟩
theorem qzk:HeldY Tryz.prog G0 102 q9b:=HeldY.of (fn:=Tryz.f102) rfl rfl rfl ⟨by decide,by decide⟩ λ ⟨⟨⟨⟨⟩,⟨s,⟨⟩⟩,⟨n,⟨⟩⟩,⟨⟩⟩,⟨⟩⟩,⟨m,⟨⟩⟩,⟨⟩⟩ hp lp=>by
 have hp:qoh s n:=hp;refine qdq cxPt (q7h s n m lp _ _ _) ?_
 show GoodE Tryz.prog G0 102 Tryz.f102.ntmps .fn ⟨lp,yP,(qby s n).map (yPf m)⟩ (endY ((qby s n).map (yPf m)).length) (hd Tryz.f102 0) (0,false) _
 rw[hdPt];refine GoodE.rangeF (gf:=105) (ct:=q9f) (Ko:=KP lp) (xi:=((s,()),((n,()),()))) (x0:=((m,()),((),()),())) (ns1:=[some (BIG+1),some (BIG+2)]) (ns2:=[some (BIG+3),some 3]) (tl:=[(2,.ptr (BIG+3) 0),(3,.ptr 3 0)]) (bkF:=bkP lp) (rF:=[]) (d:=21) (m:=2)
  (by simp) ?_ q09 rfl rfl rfl ?_ hp ⟨rfl,rfl,trivial⟩ rfl ?_ (by decide) ⟨by decide,by decide,rfl⟩ rfl ?_ (by decide) ?_
 ·exact λ args w=>qbi (fn:=Tryz.f105) rfl rfl rfl args w
 ·exact λ c hc=>by cases hc
 ·intro c hc;have hc:c∈[lp=lp]:=hc;rw[List.mem_singleton] at hc;subst hc;rfl
 ·exact λ x hx=>⟨⟨rfl,rfl,trivial⟩,by simp[bkP,rho,lk,BIG],λ p hp hb=>(by
   simp only[bkP,List.mem_cons,List.not_mem_nil,or_false] at hp;rcases hp with rfl | rfl
   ·exact ⟨rfl,rfl⟩
   ·exact ⟨rfl,rfl⟩),by kernel_rfl⟩
 ·refine qkd ?_ (λ j=>?_) (qby s n) 0 (Nat.zero_le _) rfl (qpc hp.1 _ _)
  ·have e:GEz 102 Tryz.f102 ⟨lp,yP,(qby s n).map (yPf m)⟩ (endY ((qby s n).map (yPf m)).length) (rfK Tryz.f102 0) (((qby s n).map (yPf m)).length,false) ⟨[],[]⟩:=qdq cxPt (q19 _ false lp _ _ _) (.inr rfl);exact e.only trivial trivial
  ·have e:GEz 102 Tryz.f102 ⟨lp,yP,(qby s n).map (yPf m)⟩ (endY ((qby s n).map (yPf m)).length) (qkv .ret++rfK Tryz.f102 0) (j,true) ⟨[],[]⟩:=qdq cxPt (q18 j true lp _ _ _) (.inl rfl);exact e.only trivial trivial
def colF:List (PaT × Int)->List PaT->List PaT × Int
 | [],o=>(o,0)
 | x::r,o=>match decide (x.2≠0) with
  | true=>([],x.2)
  | false=>colF r (o++[x.1])
abbrev yQ (x:PaT × Int):DL yP:=(x.1,x.2,())
theorem hdCo:hd Tryz.f68 0=.code (.rangeFunc (.tmp 7) #[8,9] (rfA Tryz.f68 0) (rfB Tryz.f68 0))::rfK Tryz.f68 0:=by kernel_rfl
theorem rndCo:rnd Tryz.f68 0=[.code (rfA Tryz.f68 0),.beginRound,.code (rfB Tryz.f68 0)]:=by kernel_rfl
theorem qk8 {QL:AExit->Nat × Bool->DI KL->Prop} {g:Nat × Bool} {V:List PaT × Int} (hN:∀ o,V=(o,0)->QL .normal g (((),()),((0,()),((o,()),())))) (hR:∀ e o,e≠0->V=([],e)->QL .ret g (((),()),((e,()),((o,()),())))):∀ (rs:List (PaT × Int)) (o:List PaT),o.length+rs.length<2 ^ 30->colF rs o=V ->
  qpm Tryz.prog G0 68 Tryz.f68.ntmps Y0 [2,3,4] [8,9] KL yP (rfA Tryz.f68 0) (rfB Tryz.f68 0) QL (rs.map yQ) g (((),()),((0,()),((o,()),())))
 | [],o,_,h=>hN o h.symm
 | (p,e)::rs,o,hl,h=>by
  rw[List.length_cons] at hl
  show GoodE Tryz.prog G0 68 Tryz.f68.ntmps .ready Y0 _ [.code (rfA Tryz.f68 0),.beginRound,.code (rfB Tryz.f68 0)] g (qk6 [2,3,4] [8,9] KL yP (((),()),((0,()),((o,()),()))) (p,e,()))
  rw[<- rndCo];refine qdq cx0 (q70 o 0 p e g.1 g.2 _ _) (qag (λ h1=>?_) (λ h1=>⟨by simp,rfl,rfl,?_,by decide,?_⟩))
  ·have h1:decide (e≠0)=true:=h1;have hv:V=([],e):=by rw[<- h];simp only[colF,h1]
   exact ⟨[],(((),()),((e,()),((o,()),()))),⟨⟨rfl,rfl,rfl,rfl,trivial⟩,rfl,rfl⟩,hR e o (of_decide_eq_true h1) hv⟩
  ·show o.length+([p]:List PaT).length<2 ^ 30
   simp only[List.length_singleton];omega
  ·have h1:decide (e≠0)=false:=h1;have hv:colF rs (o++[p])=V:=by rw[<- h];simp only[colF,h1]
   have k:=qk8 (QL:=QL) (g:=g) (V:=V) hN hR rs (o++[p]) (by rw[List.length_append,List.length_singleton];omega) hv;exact ⟨[(BIG+3,16)],(((),()),((0,()),((o++[p],()),()))),⟨⟨rfl,rfl,by show some (LB.var [SV.win true paS 16 0 (o.length+1)])=some (LB.var [SV.win true paS 16 0 (o++[p]).length]);rw[List.length_append,List.length_singleton],rfl,trivial⟩,rfl,rfl⟩,k⟩
def bkL (x:DI KL):List (Nat × LB):=[(BIG,.var [.nils]),(BIG+1,.var [.i x.2.1.1]),(BIG+2,.var [.win true paS 0 0 x.2.2.1.1.length]),(0,.row 31 paS x.2.2.1.1)]
theorem q26 (Q:List SV->List (Nat × LB)->Prop) (o:List PaT) (g:Nat × Bool):endK tt G0 Tryz.f68.results.toList Q AExit.ret g { env:=[(2,SV.ptr 2 0),(3,SV.ptr 3 0),(4,SV.ptr 4 0),(17,SV.win true paS 1086016 0 o.length)],blk:=[(2,LB.var [SV.win true paS 1086016 0 o.length]),(3,LB.var [SV.int IntKind.i64 0]),(4,LB.var [SV.win true paS 1086016 0 o.length]),(1086016,LB.row 31 paS o)] }=Q [.win true paS 1086016 0 o.length,.i 0] [(2,LB.var [SV.win true paS 1086016 0 o.length]),(3,LB.var [SV.int IntKind.i64 0]),(4,LB.var [SV.win true paS 1086016 0 o.length]),(1086016,LB.row 31 paS o)]:=by kernel_rfl
theorem q25 (Q:List SV->List (Nat × LB)->Prop) (e:Int) (g:Nat × Bool):endK tt G0 Tryz.f68.results.toList Q AExit.ret g { env:=[(2,SV.ptr 2 0),(3,SV.ptr 3 0)],blk:=[(2,LB.var [SV.nils]),(3,LB.var [SV.int IntKind.i64 e])] }=Q [.nils,.i e] [(2,LB.var [SV.nils]),(3,LB.var [SV.int IntKind.i64 e])]:=by kernel_rfl
theorem qpb {s:List SyT} {n:Nat}:∀ (f i:Nat),(qlp s n f i).length<=f
 | 0,_=>Nat.le_refl _
 | f+1,i=>by
  have:=qpb (s:=s) (n:=n) f (i+n);rw[qlp];split
  ·rw[List.length_cons];omega
  ·simp
theorem qx2 {s:List SyT} {n:Int} (h:qoh s n):(qby s n).length<16777216:=by
 have:=qpb (s:=s) (n:=n.toNat) s.length 0;have h1:=h.1;unfold qby;omega
def ctCoS:CtrI:=⟨[pS],λ x=>qit x.1.2.1.1.2.2.1.1 x.1.2.1.1.2.1.1,λ x=>[.win true paS 0 0 (colF ((secF x.1.2.1.1.2.2.1.1 x.1.2.1.1.2.1.1).map (cpV · x.1.2.2.1.1)) []).1.length,.i (colF ((secF x.1.2.1.1.2.2.1.1 x.1.2.1.1.2.1.1).map (cpV · x.1.2.2.1.1)) []).2],λ x=>[(0,.row 31 paS (colF ((secF x.1.2.1.1.2.2.1.1 x.1.2.1.1.2.1.1).map (cpV · x.1.2.2.1.1)) []).1)]⟩
theorem q06:HeldI Tryz.prog G0 68 ctCoS:=by
 refine HeldI.of cx0 (fn:=Tryz.f68) rfl rfl ⟨by decide,by decide⟩ λ ⟨⟨⟨⟩,⟨⟨⟨⟩,⟨l,⟨⟩⟩,⟨s,⟨⟩⟩,⟨⟩⟩,⟨⟩⟩,⟨m,⟨⟩⟩,⟨⟩⟩,⟨⟩⟩ hp=>?_
 have hpp:qit s l:=hp;have hll:=hpp.2.1;refine qjd cx0 (q7z s l m _ _) ?_
 show GoodE Tryz.prog G0 68 Tryz.f68.ntmps .fn Y0 (endK tt G0 Tryz.f68.results.toList (QI ctCoS (((),((((),(l,()),(s,()),()),()),(m,()),())),()))) (hd Tryz.f68 0) (0,false) _
 rw[hdCo];refine GoodE.rangeF (gf:=102) (ct:=q9a) (Ko:=KL) (xi:=((((),(l,()),(s,()),()),()),(m,()),())) (x0:=(((),()),((0,()),(([],()),())))) (ns1:=[some BIG,some (BIG+1),some (BIG+2),some (BIG+3)]) (ns2:=[some 2,some 3,some 4,none]) (tl:=[(2,.ptr 2 0),(3,.ptr 3 0),(4,.ptr 4 0)]) (bkF:=bkL) (rF:=[(0,BIG+3)]) (d:=21) (m:=3)
  (by simp) ?_ qzj rfl rfl rfl ?_ hpp ⟨rfl,rfl,rfl,trivial⟩ rfl ?_ (by decide) ⟨by decide,by decide,rfl⟩ rfl ?_ (by decide) ?_
 ·exact λ args w=>qbi (fn:=Tryz.f102) rfl rfl rfl args w
 ·exact λ c hc=>by cases hc
 ·exact λ c hc=>by cases hc
 ·exact λ x hx=>⟨⟨rfl,rfl,rfl,rfl,trivial⟩,by simp[bkL,rho,lk,BIG],λ p hp hb=>(by
   simp only[bkL,List.mem_cons,List.not_mem_nil,or_false] at hp;rcases hp with rfl | rfl | rfl | rfl
   ·exact ⟨rfl,rfl⟩
   ·exact ⟨rfl,rfl⟩
   ·exact ⟨rfl,rfl⟩
   ·exact absurd hb (show ¬ BIG<=0 by decide)),by kernel_rfl⟩
 ·show qpm Tryz.prog G0 68 Tryz.f68.ntmps Y0 [2,3,4] [8,9] KL yP _ _ _ ((secF s l).map (yPf m)) _ _
  have hmap:(secF s l).map (yPf m)=((secF s l).map (cpV · m)).map yQ:=by rw[List.map_map];rfl
  rw[hmap];refine qk8 (V:=colF ((secF s l).map (cpV · m)) []) (λ o ho=>?_) (λ e o he ho=>?_) _ [] (by show 0+_<_;rw[List.length_map,secF,List.length_map];omega) rfl
  ·have q:GoodE Tryz.prog G0 68 Tryz.f68.ntmps .fn Y0 (endK tt G0 Tryz.f68.results.toList (QI ctCoS (((),((((),(l,()),(s,()),()),()),(m,()),())),()))) (rfK Tryz.f68 0) (0,false) ⟨[(2,.ptr 2 0),(3,.ptr 3 0),(4,.ptr 4 0)],[(2,.var [.nils]),(3,.var [.i 0]),(4,.var [.win true paS 1086016 0 o.length]),(1086016,.row 31 paS o)]⟩:=by
    refine qdq cx0 (q2d o 0 0 false _ _) ?_;rw[q26];have p0:piOf [(0,1086016)] 0=some 1086016:=by decide
    refine ⟨[(0,1086016)],?_,?_,by decide,λ p hp=>?_⟩
    ·show MtL _ [.win true paS 0 0 (colF ((secF s l).map (cpV · m)) []).1.length,.i (colF ((secF s l).map (cpV · m)) []).2] _
     rw[ho];exact qax (by simp only[Mt];exact .inl ⟨true,1086016,rfl,p0,λ _=>rfl⟩) (qaz _ _ rfl)
    ·show MtK _ _ [(0,.row 31 paS (colF ((secF s l).map (cpV · m)) []).1)]
     rw[ho];exact ⟨.inl ⟨1086016,_,p0,rfl,rfl⟩,trivial⟩
    ·simp only[List.mem_cons,List.not_mem_nil,or_false] at hp;subst hp;decide
   exact q.only ⟨by kernel_rfl,by kernel_rfl,by kernel_rfl,trivial⟩ ⟨by kernel_rfl,by kernel_rfl,by kernel_rfl,by kernel_rfl,trivial⟩
  ·have q:GoodE Tryz.prog G0 68 Tryz.f68.ntmps .fn Y0 (endK tt G0 Tryz.f68.results.toList (QI ctCoS (((),((((),(l,()),(s,()),()),()),(m,()),())),()))) (qkv .ret++rfK Tryz.f68 0) (0,false) ⟨[(2,.ptr 2 0),(3,.ptr 3 0)],[(2,.var [.nils]),(3,.var [.i e])]⟩:=by
    refine qdq cx0 (q2c e 0 false _ _) ?_;rw[q25];refine ⟨[],?_,?_,by simp,by simp⟩
    ·show MtL _ [.win true paS 0 0 (colF ((secF s l).map (cpV · m)) []).1.length,.i (colF ((secF s l).map (cpV · m)) []).2] _
     rw[ho];exact ⟨_,_,rfl,.inr ⟨rfl,rfl,rfl,rfl⟩,qaz _ _ rfl⟩
    ·show MtK _ _ [(0,.row 31 paS (colF ((secF s l).map (cpV · m)) []).1)]
     rw[ho];exact ⟨.inr ⟨rfl,_,_,rfl,by decide⟩,trivial⟩
   exact q.only ⟨by kernel_rfl,by kernel_rfl,trivial⟩ ⟨by kernel_rfl,by kernel_rfl,trivial⟩
def ctCoK:CtrI:=⟨[pK],λ x=>qoh x.1.2.1.1.2.1.1 x.1.2.1.1.2.2.1.1,λ x=>[.win true paS 0 0 (colF ((qby x.1.2.1.1.2.1.1 x.1.2.1.1.2.2.1.1).map (cpV · x.1.2.2.1.1)) []).1.length,.i (colF ((qby x.1.2.1.1.2.1.1 x.1.2.1.1.2.2.1.1).map (cpV · x.1.2.2.1.1)) []).2],λ x=>[(0,.row 31 paS (colF ((qby x.1.2.1.1.2.1.1 x.1.2.1.1.2.2.1.1).map (cpV · x.1.2.2.1.1)) []).1)]⟩
theorem q07:HeldI Tryz.prog G0 68 ctCoK:=by
 refine HeldI.of cx0 (fn:=Tryz.f68) rfl rfl ⟨by decide,by decide⟩ λ ⟨⟨⟨⟩,⟨⟨⟨⟩,⟨s,⟨⟩⟩,⟨n,⟨⟩⟩,⟨⟩⟩,⟨⟩⟩,⟨m,⟨⟩⟩,⟨⟩⟩,⟨⟩⟩ hp=>?_
 have hpp:qoh s n:=hp;have hll:=qx2 hpp;refine qjd cx0 (q71 s n m _ _) ?_
 show GoodE Tryz.prog G0 68 Tryz.f68.ntmps .fn Y0 (endK tt G0 Tryz.f68.results.toList (QI ctCoK (((),((((),(s,()),(n,()),()),()),(m,()),())),()))) (hd Tryz.f68 0) (0,false) _
 rw[hdCo];refine GoodE.rangeF (gf:=102) (ct:=q9b) (Ko:=KL) (xi:=((((),(s,()),(n,()),()),()),(m,()),())) (x0:=(((),()),((0,()),(([],()),())))) (ns1:=[some BIG,some (BIG+1),some (BIG+2),some (BIG+3)]) (ns2:=[some 2,some 3,some 4,none]) (tl:=[(2,.ptr 2 0),(3,.ptr 3 0),(4,.ptr 4 0)]) (bkF:=bkL) (rF:=[(0,BIG+3)]) (d:=21) (m:=3)
  (by simp) ?_ qzk rfl rfl rfl ?_ hpp ⟨rfl,rfl,rfl,trivial⟩ rfl ?_ (by decide) ⟨by decide,by decide,rfl⟩ rfl ?_ (by decide) ?_
 ·exact λ args w=>qbi (fn:=Tryz.f102) rfl rfl rfl args w
 ·exact λ c hc=>by cases hc
 ·exact λ c hc=>by cases hc
 ·exact λ x hx=>⟨⟨rfl,rfl,rfl,rfl,trivial⟩,by simp[bkL,rho,lk,BIG],λ p hp hb=>(by
   simp only[bkL,List.mem_cons,List.not_mem_nil,or_false] at hp;rcases hp with rfl | rfl | rfl | rfl
   ·exact ⟨rfl,rfl⟩
   ·exact ⟨rfl,rfl⟩
   ·exact ⟨rfl,rfl⟩
   ·exact absurd hb (show ¬ BIG<=0 by decide)),by kernel_rfl⟩
 ·show qpm Tryz.prog G0 68 Tryz.f68.ntmps Y0 [2,3,4] [8,9] KL yP _ _ _ ((qby s n).map (yPf m)) _ _
  have hmap:(qby s n).map (yPf m)=((qby s n).map (cpV · m)).map yQ:=by rw[List.map_map];rfl
  rw[hmap];refine qk8 (V:=colF ((qby s n).map (cpV · m)) []) (λ o ho=>?_) (λ e o he ho=>?_) _ [] (by show 0+_<_;rw[List.length_map];omega) rfl
  ·have q:GoodE Tryz.prog G0 68 Tryz.f68.ntmps .fn Y0 (endK tt G0 Tryz.f68.results.toList (QI ctCoK (((),((((),(s,()),(n,()),()),()),(m,()),())),()))) (rfK Tryz.f68 0) (0,false) ⟨[(2,.ptr 2 0),(3,.ptr 3 0),(4,.ptr 4 0)],[(2,.var [.nils]),(3,.var [.i 0]),(4,.var [.win true paS 1086016 0 o.length]),(1086016,.row 31 paS o)]⟩:=by
    refine qdq cx0 (q2d o 0 0 false _ _) ?_;rw[q26];have p0:piOf [(0,1086016)] 0=some 1086016:=by decide
    refine ⟨[(0,1086016)],?_,?_,by decide,λ p hp=>?_⟩
    ·show MtL _ [.win true paS 0 0 (colF ((qby s n).map (cpV · m)) []).1.length,.i (colF ((qby s n).map (cpV · m)) []).2] _
     rw[ho];exact qax (by simp only[Mt];exact .inl ⟨true,1086016,rfl,p0,λ _=>rfl⟩) (qaz _ _ rfl)
    ·show MtK _ _ [(0,.row 31 paS (colF ((qby s n).map (cpV · m)) []).1)]
     rw[ho];exact ⟨.inl ⟨1086016,_,p0,rfl,rfl⟩,trivial⟩
    ·simp only[List.mem_cons,List.not_mem_nil,or_false] at hp;subst hp;decide
   exact q.only ⟨by kernel_rfl,by kernel_rfl,by kernel_rfl,trivial⟩ ⟨by kernel_rfl,by kernel_rfl,by kernel_rfl,by kernel_rfl,trivial⟩
  ·have q:GoodE Tryz.prog G0 68 Tryz.f68.ntmps .fn Y0 (endK tt G0 Tryz.f68.results.toList (QI ctCoK (((),((((),(s,()),(n,()),()),()),(m,()),())),()))) (qkv .ret++rfK Tryz.f68 0) (0,false) ⟨[(2,.ptr 2 0),(3,.ptr 3 0)],[(2,.var [.nils]),(3,.var [.i e])]⟩:=by
    refine qdq cx0 (q2c e 0 false _ _) ?_;rw[q25];refine ⟨[],?_,?_,by simp,by simp⟩
    ·show MtL _ [.win true paS 0 0 (colF ((qby s n).map (cpV · m)) []).1.length,.i (colF ((qby s n).map (cpV · m)) []).2] _
     rw[ho];exact ⟨_,_,rfl,.inr ⟨rfl,rfl,rfl,rfl⟩,qaz _ _ rfl⟩
    ·show MtK _ _ [(0,.row 31 paS (colF ((qby s n).map (cpV · m)) []).1)]
     rw[ho];exact ⟨.inr ⟨rfl,_,_,rfl,by decide⟩,trivial⟩
   exact q.only ⟨by kernel_rfl,by kernel_rfl,trivial⟩ ⟨by kernel_rfl,by kernel_rfl,trivial⟩
theorem qrj:Held Tryz.prog G0 66 ⟨[paS],λ _=>True,λ x=>[.sl syS (psV x.1).1,.i (psV x.1).2],λ _=>[]⟩:=by
 have h:=ps_held.frz (λ x _=>by
  show inL 0 (psV x.1).1.length [SV.win true syS 0 0 (psV x.1).1.length,SV.i (psV x.1).2]/\True
  exact ⟨⟨λ _=>by omega,⟨trivial,trivial⟩⟩,trivial⟩)
 refine h.iff rfl (λ x h=>h) (λ x _=>?_) (λ x _=>rfl)
 show [SV.sl syS (psV x.1).1,SV.i (psV x.1).2]=[SV.sl syS (winL syS 0 (psV x.1).1.length (psV x.1).1),SV.i (psV x.1).2]
 rw[winA (e:=syS)]
def ctPsf:Ctr:=⟨[paS],λ _=>True,λ x=>[.sl syS (psV x.1).1,.i (psV x.1).2],λ _=>[]⟩
def CSp:CV:=[(66,.inl ctPsf),(67,.inl (Im.ctVal True)),(70,.inr ctIns),(69,.inr ctPaS),(68,.inr ctCoS)]
theorem cxSp:CxOK Tryz.prog tt G0 CSp:=((((cx0.consI q06 (fn:=Tryz.f68) rfl rfl rfl).consI qzo (fn:=Tryz.f69) rfl rfl rfl).consI q0j (fn:=Tryz.f70) rfl rfl rfl).k Im.val_held (fn:=Tryz.f67)).k qrj (fn:=Tryz.f66)
def CSe:CV:=[(66,.inl ctPsf),(73,.inr ctCk),(69,.inr ctPaK),(68,.inr ctCoK)]
theorem cxSe:CxOK Tryz.prog tt G0 CSe:=(((cx0.consI q07 (fn:=Tryz.f68) rfl rfl rfl).consI qzp (fn:=Tryz.f69) rfl rfl rfl).consI q6q (fn:=Tryz.f73) rfl rfl rfl).k qrj (fn:=Tryz.f66)
abbrev KJ:List AK:=[.dat paS,.ptr [.dat (.sl paS)]]
abbrev fJ:AK:=.fn 106 [] [.ptr [.dat (.sl paS)]]
abbrev gtP (l:List PaT) (i:Nat):PaT:=gt paS l i
def othB (l:List PaT) (p:PaT):Bool:=p.1 != (gtP l 0).1
def ctOth:CtrI:=⟨KJ,λ x=>0<x.2.1.1.length,λ x=>[.bool (othB x.2.1.1 x.1)],λ x=>bkKL 0 KJ x⟩
abbrev slP:Sh:=.sl paS
def ixF (p:PaT->Bool):List PaT->Nat->Int
 | [],_ => -1
 | x::r,i=>match p x with
  | true=>(i:Int)
  | false=>ixF p r (i+1)
abbrev KO:List AK:=[.dat slP,fJ]
def q42 (l b:List PaT):Prop:=0<b.length/\l.length<1000000
def ctIfO:CtrI:=⟨KO,λ x=>q42 x.1 x.2.1.2.1.1,λ x=>[.i (ixF (othB x.2.1.2.1.1) x.1 0)],λ x=>bkKL 0 KO x⟩
set_option maxRecDepth 100000
theorem q7a (p:PaT) (l:List SecT) (Q:QT) (R:RT):sA CSp Tryz.f28 Q R [.code (qae Tryz.f28)] (entry [paS,.sl seS] (p,l,())) =
  (ctPsf.pre (p,())/\bc (decide ((psV p).2≠0)) (Q [.nils,.i (psV p).2] [(2,.var [.bool p.1,.i p.2.1,.i p.2.2.1,.sl opS p.2.2.2])]) ((Im.ctVal True).pre (l,p.2.2.1,())/\bc (!Im.validB l p.2.2.1) (Q [.nils,.i 120] [(2,.var [.bool p.1,.i p.2.1,.i p.2.2.1,.sl opS p.2.2.2])]) (ctIns.pre ((psV p).1,l,())/\ctPaS.pre (((),(l,()),((psV p).1,()),()),p.2.1,())/\ctCoS.pre (((),(((),(l,()),((psV p).1,()),()),()),(p.2.1,()),()),())/\Q [.win true paS 1110592 0 (colF (List.map (λ x=>cpV x p.2.1) (secF (psV p).1 l)) []).1.length,.i (colF (List.map (λ x=>cpV x p.2.1) (secF (psV p).1 l)) []).2] [(2,.var [.bool p.1,.i p.2.1,.i p.2.2.1,.sl opS p.2.2.2]),(1110592,.row 31 paS (colF (List.map (λ x=>cpV x p.2.1) (secF (psV p).1 l)) []).1)]))):=by kernel_rfl
theorem q7d (p:PaT) (n:Int) (Q:QT) (R:RT):sA CSe Tryz.f32 Q R [.code (qae Tryz.f32)] (entry [paS,iI] (p,n,())) =
  (ctPsf.pre (p,())/\bc (decide ((psV p).2≠0)) (Q [.nils,.i (psV p).2] [(2,.var [.bool p.1,.i p.2.1,.i p.2.2.1,.sl opS p.2.2.2])]) (bc (decide (n<1)) (true=true/\Q [.nils,.i 1] [(2,.var [.bool p.1,.i p.2.1,.i p.2.2.1,.sl opS p.2.2.2])]) (bc (bif false then true else decide ((4096:Int)<n)) (Q [.nils,.i 1] [(2,.var [.bool p.1,.i p.2.1,.i p.2.2.1,.sl opS p.2.2.2])]) (ctCk.pre ((psV p).1,n,())/\ctPaK.pre (((),((psV p).1,()),(n,()),()),p.2.1,())/\ctCoK.pre (((),(((),((psV p).1,()),(n,()),()),()),(p.2.1,()),()),())/\Q [.win true paS 1114688 0 (colF (List.map (λ x=>cpV x p.2.1) (qby (psV p).1 n)) []).1.length,.i (colF (List.map (λ x=>cpV x p.2.1) (qby (psV p).1 n)) []).2] [(2,.var [.bool p.1,.i p.2.1,.i p.2.2.1,.sl opS p.2.2.2]),(1114688,.row 31 paS (colF (List.map (λ x=>cpV x p.2.1) (qby (psV p).1 n)) []).1)])))):=by kernel_rfl
theorem q7j (l:List PaT) (li:Bool) (m o:Int) (x:List OpT) (Q:QT) (R:RT):sA [] Tryz.f106 Q R [.code (qae Tryz.f106)] (qbd KJ ((li,m,o,x),(l,()),())) =
  ((0:Int)<=0/\(0:Int)<(l.length:Int)/\Q [.bool !li == (gtP l (0)).1] [(2,.var [.bool li,.i m,.i o,.sl opS x]),(1099511627776,.var [.sl paS l])]):=by kernel_rfl
theorem q7v (l b:List PaT) (Q:QT) (R:RT):sA [(106,.inr ctOth)] Tryz.f108 Q (λ it S=>R it (qbr [0,1,7,8] [BIG] S)) [.code (qae Tryz.f108)] (qbd KO (l,((),((b,()),())),())) =
  (R (hd Tryz.f108 0) { env:=[(0,.sl paS l),(1,.fn (106:Nat) [] [.ptr 1099511627776 0]),(7,.i (l.length:Int)),(8,.i 0)],blk:=[(1099511627776,.var [.sl paS b])] }):=by kernel_rfl
theorem quk (l b:List PaT) (i:Nat) (Q:QT) (R:RT):sA [(106,.inr ctOth)] Tryz.f108 Q (λ it S=>R it (qbr [0,1,7,8] [BIG] S)) (hd Tryz.f108 0) ⟨[(0,.sl paS l),(1,.fn 106 [] [.ptr BIG 0]),(7,.i (l.length:Nat)),(8,.i (i:Nat))],[(BIG,.var [.sl paS b])]⟩ =
  (bc (decide ((i:Int)<(l.length:Int))) ((0:Int)<=(i:Int)/\(i:Int)<(l.length:Int)/\ctOth.pre ((gtP l (i:Int).toNat),(b,()),())/\bc (othB b (gtP l (i:Int).toNat)) (Q [.i (i:Int)] [(1099511627776,.var [.sl paS b])]) (R (hd Tryz.f108 0) { env:=[(0,.sl paS l),(1,.fn (106:Nat) [] [.ptr 1099511627776 0]),(7,.i (l.length:Int)),(8,.i (IntKind.i64.wrap ((i:Int)+1)))],blk:=[(1099511627776,.var [.sl paS b])] })) (Q [.i (-1:Int)] [(1099511627776,.var [.sl paS b])])):=by kernel_rfl
theorem q77 (l b:List PaT) (Q:QT) (R:RT):sA [(108,.inr ctIfO)] Tryz.f83 Q R [.code (qae Tryz.f83)] (qbd KO (l,((),((b,()),())),())) =
  (ctIfO.pre (l,((),(b,()),()),())/\Q [.bool (decide ((0:Int)<=ixF (othB b) l (0:Nat)))] [(1099511627776,.var [.sl paS b])]):=by kernel_rfl
abbrev gI3 (w:List Int) (i:Nat):Int:=gt (Sh.int .i32) w i
def preW (w:List Int):Prop:=∀ j,-2147483648<=gI3 w j/\gI3 w j<2147483648
section
variable (z:Int) (l4:List (List Int)) (w:List Int) (h6:qv1 z l4) (hw:preW w)
include h6 hw
end
theorem qrk {s:List SyT} {m:Int} (hr:∀ x∈s,sOK m x=true) (h0:0<=m) (h1:m<=65536) (hl:s.length<=4096):poV s m=((false,m,(s.length:Int),chL s),0)/\symF (chL s)=s/\(∀ x∈chL s,isRB x m=true)/\qqm (chL s)=cst s/\(chL s).length<=4096/\ (chkV (false,m,(s.length:Int),chL s)).2=0:=by
 obtain ⟨c1,c2,c3,c4⟩:=ch_ok (m:=m) (by omega) s.length s (Nat.le_refl _) (by omega) hr;have hb:=qi5 s (by omega);unfold boL at hb;have hlen:(chL s).length<=4096:=by
  show (chF s.length s).length<=4096
  have:oct s=(bst s).2.2.2:=rfl;omega
 have hs:=qfv c2;rw[c1] at hs;refine ⟨?_,c1,c2,c3,hlen,?_⟩
 ·unfold poV;rw[if_neg (by omega)]
 ·have:=qx0 (li:=false) (o:=(s.length:Int)) h0 h1 (by omega) hlen c2 hs.symm;rw[this]
theorem q9h {s:List SyT} {m:Int} (hr:∀ x∈s,sOK m x=true) (h0:0<=m) (h1:m<=65536) (hl:s.length<=4096):cpV s m=((false,m,(s.length:Int),chL s),0):=by
 unfold cpV;rw[if_neg (q5i ⟨by simp[szB];omega,by simp[szB];omega,by rw[List.all_eq_true];exact hr⟩)];exact (qrk hr h0 h1 hl).1
theorem qql {s:List SyT} {m:Int} (hr:∀ x∈s,sOK m x=true) (h0:0<=m) (h1:m<=65536) (hl:s.length<=4096):qgb 0 (chL s)=cst s:=by
 obtain ⟨_,_,c2,c3,c4,_⟩:=qrk hr h0 h1 hl;rw[qse c2 (Int.le_refl 0) (by omega),Int.zero_add,c3]
def opK (k:Int) (l:List SyT):OpT:=(k,if k=1\/k=2 then (gtY l 0).2.1 else 0,(l.length:Int),if k=3 then (gtY l 0).2.2 else 0,if k=2\/k=4 then l.map λ s=>s.2.2 else [])
set_option maxRecDepth 100000
section
variable (a b:Int) (l:List SyT) (hl:l.length<16777216)
include hl
end
def preLi (l:List SyT):Prop:=l.length<=65536/\∃ m:Int,m<16777216/\∀ s∈l,sOK m s=true
section
variable (l:List SyT) (hp:preLi l)
include hp
end
section
variable (li:Bool) (m o:Int) (l:List OpT) (hc:(chkV (li,m,o,l)).2=0)
include hc
end
theorem q6h {x:OpT} {m:Int} (h:isRB x m=true) (h0:0<=m) (hm:m<16777216) {k:Nat} (hk:(k:Int)<x.2.2.1):sOK m (elO x.1.toNat x k)=true:=by
 have pp:=qw4 h ⟨h0,hm⟩;rcases (qd6 h).1 with e | e | e | e
 ·rw[e];have pp:=pp (.inl e)
  show sOK m (true,IntKind.i64.wrap (x.2.1+(k:Int)),0)=true
  rw[IntWalk.i64_in _ (by omega)];simp[sOK];omega
 ·rw[e];have pp:=pp (.inr e)
  show sOK m (true,IntKind.i64.wrap (x.2.1+(k:Int)),gtB x.2.2.2.2 k)=true
  rw[IntWalk.i64_in _ (by omega)];simp[sOK];omega
 ·rw[e];rfl
 ·rw[e];rfl
theorem qu3 {m:Int} (h0:0<=m) (hm:m<16777216) {l:List OpT} (hr:∀ x∈l,isRB x m=true):∀ s∈symF l,sOK m s=true:=λ s hs=>by
 obtain ⟨x,hx,k,hk,e⟩:=qu4 hr s hs;rw[e];exact q6h (hr x hx) h0 hm hk
theorem qx1 {p:PaT} (h:(chkV p).2=0):0<=p.2.1/\p.2.1<=65536:=by
 unfold chkV at h;split at h
 next q=>exact q2j q.1
 ·cases h
theorem qpq {p:PaT} (h:(symV p).2=0):(chkV p).2=0/\(symV p).1=symF p.2.2.2:=by
 unfold symV at h |-;split at h
 next q=>rw[if_pos q];exact ⟨q,rfl⟩
 next q=>exact absurd h q
theorem qc6 {p:PaT} (h:(symV p).2=0):(∀ s∈(symV p).1,sOK p.2.1 s=true)/\(0<=p.2.1/\p.2.1<=65536)/\((symV p).1.length:Int)=p.2.2.1:=by
 obtain ⟨h1,h2⟩:=qpq h;obtain ⟨hr,hs,ho,hl⟩:=qew h1;have hi:=qx1 h1;rw[h2];exact ⟨qu3 hi.1 (by omega) hr,hi,by rw[qfv hr,hs]⟩
theorem q8s {e n:Int} {x:Im.Sec} (h:Im.plcB e n x=true):e<=x.2.1/\x.2.1<x.2.2.1/\x.2.2.1<=n:=by
 have h:=of_decide_eq_true h;exact ⟨h.1,h.2.1,h.2.2.1⟩
theorem quw {n:Int}:∀ (l d:List Im.Sec) (e:Int),0<=e->Im.valF n d e l=true->∀ x∈l,0<=x.2.1/\x.2.1<x.2.2.1/\x.2.2.1<=n
 | [],_,_,_,_,_,h=>by cases h
 | s::l,d,e,he,h,x,hx=>by
  rw[Im.valF,Bool.and_eq_true,Bool.and_eq_true] at h;have hp:=q8s h.1.2;rcases List.mem_cons.1 hx with rfl | hx
  ·exact ⟨by omega,hp.2⟩
  ·exact quw l _ _ (by omega) h.2 x hx
theorem qq3 {l:List Im.Sec} {n:Int} (h:Im.validB l n=true):l.length<=8/\∀ x∈l,0<=x.2.1/\x.2.1<x.2.2.1/\x.2.2.1<=n:=by
 unfold Im.validB at h;rw[Bool.and_eq_true] at h;exact ⟨of_decide_eq_true h.1,quw l [] 0 (Int.le_refl _) h.2⟩
theorem qv0 {p:PaT} (h:(psV p).2=0):(((psV p).1.length:Nat):Int)=p.2.2.1/\(psV p).1.length<=65536/\psV p=((symV p).1,0)/\(symV p).2=0/\p.1=false:=by
 by_cases h1:(symV p).2=0
 ·cases hl:p.1 with
  | true=>rw[q8p h1 hl] at h;cases h
  | false=>
   have e:=q41 h1 hl;obtain ⟨r1,r2,r3⟩:=qc6 h1;rw[e];have k1:(((symV p).1.length:Nat):Int)=p.2.2.1:=r3;refine ⟨k1,?_,rfl,h1,rfl⟩;have k3:=(qew (qpq h1).1).2.2.1
   show (symV p).1.length<=65536
   omega
 ·rw[q8q h1] at h;exact absurd h h1
def splV (p:PaT) (l:List SecT):List PaT × Int:=match decide ((psV p).2≠0) with
 | true=>([],(psV p).2)
 | false=>match Im.validB l p.2.2.1 with
  | false=>([],120)
  | true=>colF ((secF (psV p).1 l).map (cpV · p.2.1)) []
def ctSpl:Ctr:=⟨[paS,.sl seS],λ x=>∀ s∈(show List SecT from x.2.1),s.1.length<2 ^ 62,λ x=>[.win true paS 0 0 (splV x.1 x.2.1).1.length,.i (splV x.1 x.2.1).2],λ x=>[.row 31 paS (splV x.1 x.2.1).1]⟩
theorem q4t (p:PaT) (l:List SecT) (hl:∀ s∈l,s.1.length<2 ^ 62) (R:List Item->PS->Prop):sA CSp Tryz.f28 (QC ctSpl (p,l,())) R [.code (qae Tryz.f28)] (entry [paS,.sl seS] (p,l,())):=by
 refine (q7a p l _ _).mpr ⟨trivial,qag (λ h=>?_) (λ h=>⟨⟨trivial,hl⟩,qag (λ h2=>?_) (λ h2=>?_)⟩)⟩
 ·have e:splV p l=([],(psV p).2):=by unfold splV;rw[show decide ((psV p).2≠0)=true from h]
  refine qdd (e:=paS) (et:=31) (z:=(psV p).2) ?_ ?_ rfl (by decide)
  ·show [_,_]=_;rw[e];rfl
  ·show [_]=_;rw[e]
 ·have h2:Im.validB l p.2.2.1=false:=by simpa using h2
  have e:splV p l=([],120):=by unfold splV;rw[show decide ((psV p).2≠0)=false from h,h2]
  refine qdd (e:=paS) (et:=31) (z:=120) ?_ ?_ rfl (by decide)
  ·show [_,_]=_;rw[e];rfl
  ·show [_]=_;rw[e]
 ·have h2:Im.validB l p.2.2.1=true:=by simpa using h2
  have h0:(psV p).2=0:=by have:=of_decide_eq_false h;simpa using this
  obtain ⟨k1,k2,_⟩:=qv0 h0;obtain ⟨k3,k4⟩:=qq3 h2;have hs:qit (psV p).1 l:=⟨by omega,by have:l.length<=8:=k3;omega,λ x hx=>by rw[k1];exact k4 x hx⟩;have e:splV p l=colF ((secF (psV p).1 l).map (cpV · p.2.1)) []:=by unfold splV;rw[show decide ((psV p).2≠0)=false from h,h2]
  refine ⟨trivial,trivial,hs,?_⟩;refine qgo (e:=paS) (et:=31) (a:=1110592) (z:=(colF ((secF (psV p).1 l).map (cpV · p.2.1)) []).2) (xs:=(colF ((secF (psV p).1 l).map (cpV · p.2.1)) []).1) ?_ ?_ rfl rfl rfl
  ·show [_,_]=_;rw[e]
  ·show [_]=_;rw[e]
theorem spl_held:Held Tryz.prog G0 28 ctSpl:=Held.run cxSp (fn:=Tryz.f28) rfl rfl ⟨by decide,by decide⟩ λ ⟨p,l,_⟩ hp=>q4t p l hp _
def secV (p:PaT) (n:Int):List PaT × Int:=match decide ((psV p).2≠0) with
 | true=>([],(psV p).2)
 | false=>match decide (1<=n/\n<=4096) with
  | false=>([],1)
  | true=>colF ((qby (psV p).1 n).map (cpV · p.2.1)) []
def ctSec:Ctr:=⟨[paS,iI],λ _=>True,λ x=>[.win true paS 0 0 (secV x.1 x.2.1).1.length,.i (secV x.1 x.2.1).2],λ x=>[.row 31 paS (secV x.1 x.2.1).1]⟩
theorem q4x (p:PaT) (n:Int) (R:List Item->PS->Prop):sA CSe Tryz.f32 (QC ctSec (p,n,())) R [.code (qae Tryz.f32)] (entry [paS,iI] (p,n,())):=by
 have bad:decide ((psV p).2≠0)=false->¬ (1<=n/\n<=4096)->secV p n=([],1):=λ h h2=>by unfold secV;rw[h,decide_eq_false h2]
 refine (q7d p n _ _).mpr ⟨trivial,qag (λ h=>?_) (λ h=>qag (λ h2=>⟨rfl,?_⟩) (λ h2=>qag (λ h3=>?_) (λ h3=>?_)))⟩
 ·have e:secV p n=([],(psV p).2):=by unfold secV;rw[show decide ((psV p).2≠0)=true from h]
  refine qdd (e:=paS) (et:=31) (z:=(psV p).2) ?_ ?_ rfl (by decide)
  ·show [_,_]=_;rw[e];rfl
  ·show [_]=_;rw[e]
 ·have h2:n<1:=of_decide_eq_true h2;have e:=bad h (by omega);refine qdd (e:=paS) (et:=31) (z:=1) ?_ ?_ rfl (by decide)
  ·show [_,_]=_;rw[e];rfl
  ·show [_]=_;rw[e]
 ·have h3:4096<n:=of_decide_eq_true h3;have e:=bad h (by omega);refine qdd (e:=paS) (et:=31) (z:=1) ?_ ?_ rfl (by decide)
  ·show [_,_]=_;rw[e];rfl
  ·show [_]=_;rw[e]
 ·have h2:¬ n<1:=of_decide_eq_false h2;have h3:¬ 4096<n:=of_decide_eq_false h3;have h0:(psV p).2=0:=by have:=of_decide_eq_false h;simpa using this
  obtain ⟨k1,k2,_⟩:=qv0 h0;have e:secV p n=colF ((qby (psV p).1 n).map (cpV · p.2.1)) []:=by unfold secV;rw[show decide ((psV p).2≠0)=false from h,decide_eq_true (show 1<=n/\n<=4096 by omega)]
  have hk:qoh (psV p).1 n:=⟨by omega,by omega,by omega⟩;refine ⟨(show 1<=n by omega),trivial,hk,?_⟩;refine qgo (e:=paS) (et:=31) (a:=1114688) (z:=(colF ((qby (psV p).1 n).map (cpV · p.2.1)) []).2) (xs:=(colF ((qby (psV p).1 n).map (cpV · p.2.1)) []).1) ?_ ?_ rfl rfl rfl
  ·show [_,_]=_;rw[e]
  ·show [_]=_;rw[e]
theorem qze:Held Tryz.prog G0 32 ctSec:=Held.run cxSe (fn:=Tryz.f32) rfl rfl ⟨by decide,by decide⟩ λ ⟨p,n,_⟩ _=>q4x p n _
theorem qzt:HeldI Tryz.prog G0 106 ctOth:=HeldI.run cx0 (fn:=Tryz.f106) rfl rfl ⟨by decide,by decide⟩ λ ⟨⟨li,m,o,x⟩,⟨l,⟨⟩⟩,⟨⟩⟩ hp=>by
 have hp:0<l.length:=hp;refine (q7j l li m o x _ _).mpr ⟨by omega,by omega,QI.self rfl rfl rfl (λ p hp=>?_)⟩;have hp:p∈[(BIG,LB.var [SV.sl paS l])]:=hp;rw[List.mem_singleton] at hp;subst hp;rfl
theorem cxOt:CxOK Tryz.prog tt G0 [(106,.inr ctOth)]:=cx0.consI qzt (fn:=Tryz.f106) rfl rfl rfl
abbrev QIx (b:List PaT) (v:SV):List SV->List (Nat × LB)->Prop:=λ rs blk=>rs=[v]/\lk blk BIG=some (LB.var [.sl paS b])
theorem qht {l:List PaT} {i:Nat} (h:i<l.length):gtP l i=l[i]:=gtE (e:=paS) h
theorem qw3 (p:PaT->Bool):∀ (l:List PaT) (i:Nat),decide ((0:Int)<=ixF p l i)=l.any p
 | [],i=>rfl
 | x::r,i=>by
  rw[ixF,List.any_cons];cases h:p x with
  | true=>simp only[Bool.true_or,decide_eq_true_eq];omega
  | false=>simp only[Bool.false_or];exact qw3 p r (i+1)
theorem q0n {l b:List PaT} {v:SV} (hb:0<b.length) (hl:l.length<1000000):∀ (k i:Nat),l.length-i=k->i<=l.length->v=.i (ixF (othB b) (l.drop i) i)->GD 108 Tryz.f108 (QIx b v) (hd Tryz.f108 0) ⟨[(0,.sl paS l),(1,.fn 106 [] [.ptr BIG 0]),(7,.i (l.length:Nat)),(8,.i (i:Nat))],[(BIG,.var [.sl paS b])]⟩:=by
 intro k
 induction k with
 | zero=>
  intro i hk hi hv;have hi:i=l.length:=by omega
  subst hi;refine qat cxOt (quk l b l.length _ _) ?_;rw[decide_eq_false (show ¬ ((l.length:Nat):Int)<(l.length:Int) by omega),bc_f];rw[List.drop_length] at hv;exact ⟨by rw[hv];rfl,rfl⟩
 | succ k ih=>
  intro i hk hi hv;have hil:i<l.length:=by omega
  refine qat cxOt (quk l b i _ _) ?_;rw[decide_eq_true (show (i:Int)<(l.length:Int) by omega),bc_t];simp only[Int.toNat_natCast];rw[qgy hil,ixF,<- qht hil] at hv;refine ⟨by omega,by omega,hb,qag (λ h=>?_) (λ h=>?_)⟩
  ·have h:othB b (gtP l i)=true:=h;rw[h] at hv;exact ⟨by rw[hv],rfl⟩
  ·have h:othB b (gtP l i)=false:=h;rw[h] at hv;have nx:=ih (i+1) (by omega) (by omega) hv;rw[IntWalk.i64_in ((i:Int)+1) (by omega)];exact nx.only ⟨rfl,rfl,rfl,rfl,trivial⟩ ⟨rfl,trivial⟩
theorem q0o:HeldI Tryz.prog G0 108 ctIfO:=HeldI.of cxOt (fn:=Tryz.f108) rfl rfl ⟨by decide,by decide⟩ λ ⟨l,⟨⟨⟩,⟨⟨b,⟨⟩⟩,⟨⟩⟩⟩,⟨⟩⟩ hp=>by
 obtain ⟨hb,hl⟩:q42 l b:=hp;refine qat cxOt (q7v l b _ _) (((q0n (v:=.i (ixF (othB b) l 0)) hb hl _ 0 rfl (Nat.zero_le _) rfl).post λ rs blk hq=>?_).only ⟨rfl,rfl,rfl,rfl,trivial⟩ ⟨rfl,trivial⟩);refine QI.self hq.1.symm (by rw[hq.1];rfl) rfl (λ p hp=>?_);have hp:p∈[(BIG,LB.var [SV.sl paS b])]:=hp;rw[List.mem_singleton] at hp;subst hp;exact hq.2
def ctCfO:CtrI:=⟨KO,λ x=>q42 x.1 x.2.1.2.1.1,λ x=>[.bool (List.any x.1 (othB x.2.1.2.1.1))],λ x=>bkKL 0 KO x⟩
theorem q1d:HeldI Tryz.prog G0 83 ctCfO:=HeldI.run (cx0.consI q0o (fn:=Tryz.f108) rfl rfl rfl) (fn:=Tryz.f83) rfl rfl ⟨by decide,by decide⟩ λ ⟨l,⟨⟨⟩,⟨⟨b,⟨⟩⟩,⟨⟩⟩⟩,⟨⟩⟩ hp=>by
 refine (q77 l b _ _).mpr ⟨hp,QI.self ?_ rfl rfl (λ p hp=>?_)⟩
 ·show [SV.bool (List.any l (othB b))]=[SV.bool (decide ((0:Int)<=ixF (othB b) l 0))]
  rw[qw3]
 ·have hp:p∈[(BIG,LB.var [SV.sl paS b])]:=hp;rw[List.mem_singleton] at hp;subst hp;rfl
open Go.IntKind(i64 u32 u8)
def ctSyF:Ctr:=⟨[paS],λ _=>True,λ x=>[.sl syS (symV x.1).1,.i (symV x.1).2],λ _=>[]⟩
theorem qy4:Held Tryz.prog G0 63 ctSyF:=by
 have h:=sym_held.frz (λ x _=>by
  show inL 0 (symV x.1).1.length [SV.win true syS 0 0 (symV x.1).1.length,SV.i (symV x.1).2]/\True
  exact ⟨⟨λ _=>by omega,⟨trivial,trivial⟩⟩,trivial⟩)
 refine h.iff rfl (λ x h=>h) (λ x _=>?_) (λ x _=>rfl)
 show [SV.sl syS (symV x.1).1,SV.i (symV x.1).2]=[SV.sl syS (winL syS 0 (symV x.1).1.length (symV x.1).1),SV.i (symV x.1).2]
 rw[winA (e:=syS)]
theorem cxAy:CxOK Tryz.prog tt G0 [(63,.inl ctSyF)]:=cx0.k qy4 (fn:=Tryz.f63)
abbrev CJ1:CV:=[(93,.inl ctChk),(83,.inr ctCfO)]
theorem cxJ1:CxOK Tryz.prog tt G0 CJ1:=(cx0.consI q1d (fn:=Tryz.f83) rfl rfl rfl).k qsh (fn:=Tryz.f93)
set_option maxRecDepth 100000
theorem q79 (l:List PaT) (Q:QT) (R:RT):sA [(63,.inl ctSyF)] Tryz.f75 Q R [.code (qae Tryz.f75)] (entry [.sl paS] (l,())) =
  (R (hd Tryz.f75 0) { env:=[(0,.sl paS l),(2,.nils),(3,.nils),(8,.sl paS l),(9,.i (l.length:Int)),(10,.i 0)],blk:=[] }):=by kernel_rfl
theorem q38 (l:List PaT) (i:Int) (Q:QT) (R:RT):sA [(63,.inl ctSyF)] Tryz.f75 Q R (hd Tryz.f75 0) ⟨[(3,.nils),(8,.sl paS l),(9,.i (l.length:Nat)),(10,.i i)],[]⟩ =
  (bc (decide (i<(l.length:Int))) ((0:Int)<=i/\i<(l.length:Int)/\ctSyF.pre ((gtP l i.toNat),())/\(symV (gtP l i.toNat)).1.length<2 ^ 30/\(24:Nat)<=2 ^ 10/\R (hd Tryz.f75 0) { env:=[(3,.win true syS 21 0 (symV (gtP l i.toNat)).1.length),(5,.ptr 5 0),(6,.sl syS (symV (gtP l i.toNat)).1),(7,.i (symV (gtP l i.toNat)).2),(8,.sl paS l),(9,.i (l.length:Int)),(10,.i (i64.wrap (i+1))),(11,.bool (decide (i<(l.length:Int)))),(12,.elv paS (gtP l i.toNat)),(13,.agg [.bool (gtP l i.toNat).1,.i (gtP l i.toNat).2.1,.i (gtP l i.toNat).2.2.1,.sl opS (gtP l i.toNat).2.2.2]),(14,SV.tup [.sl syS (symV (gtP l i.toNat)).1,.i (symV (gtP l i.toNat)).2]),(15,.agg [.bool (gtP l i.toNat).1,.i (gtP l i.toNat).2.1,.i (gtP l i.toNat).2.2.1,.sl opS (gtP l i.toNat).2.2.2]),(16,SV.tup [.sl syS (symV (gtP l i.toNat)).1,.i (symV (gtP l i.toNat)).2]),(17,.sl syS (symV (gtP l i.toNat)).1),(18,.i (symV (gtP l i.toNat)).2),(19,.nils),(20,.sl syS (symV (gtP l i.toNat)).1),(21,.win true syS 21 0 (symV (gtP l i.toNat)).1.length),(22,.i (i64.wrap (i+1)))],blk:=[(5,.var [.bool (gtP l i.toNat).1,.i (gtP l i.toNat).2.1,.i (gtP l i.toNat).2.2.1,.sl opS (gtP l i.toNat).2.2.2]),(21,.row 83 syS (symV (gtP l i.toNat)).1)] }) False):=by kernel_rfl
theorem qut (l:List PaT) (o:List SyT) (i:Int) (Q:QT) (R:RT):sA [(63,.inl ctSyF)] Tryz.f75 Q R (hd Tryz.f75 0) ⟨[(3,.win true syS 77 0 o.length),(8,.sl paS l),(9,.i (l.length:Nat)),(10,.i i)],[(77,.row 83 syS o)]⟩ =
  (bc (decide (i<(l.length:Int))) ((0:Int)<=i/\i<(l.length:Int)/\ctSyF.pre ((gtP l i.toNat),())/\o.length=o.length/\(0:Nat)=(0:Nat)/\o.length+(symV (gtP l i.toNat)).1.length<2 ^ 30/\(24:Nat)<=2 ^ 10/\R (hd Tryz.f75 0) { env:=[(3,.win true syS 21 0 (o.length+(symV (gtP l i.toNat)).1.length)),(5,.ptr 5 0),(6,.sl syS (symV (gtP l i.toNat)).1),(7,.i (symV (gtP l i.toNat)).2),(8,.sl paS l),(9,.i (l.length:Int)),(10,.i (i64.wrap (i+1))),(11,.bool (decide (i<(l.length:Int)))),(12,.elv paS (gtP l i.toNat)),(13,.agg [.bool (gtP l i.toNat).1,.i (gtP l i.toNat).2.1,.i (gtP l i.toNat).2.2.1,.sl opS (gtP l i.toNat).2.2.2]),(14,SV.tup [.sl syS (symV (gtP l i.toNat)).1,.i (symV (gtP l i.toNat)).2]),(15,.agg [.bool (gtP l i.toNat).1,.i (gtP l i.toNat).2.1,.i (gtP l i.toNat).2.2.1,.sl opS (gtP l i.toNat).2.2.2]),(16,SV.tup [.sl syS (symV (gtP l i.toNat)).1,.i (symV (gtP l i.toNat)).2]),(17,.sl syS (symV (gtP l i.toNat)).1),(18,.i (symV (gtP l i.toNat)).2),(19,.dead),(20,.sl syS (symV (gtP l i.toNat)).1),(21,.win true syS 21 0 (o.length+(symV (gtP l i.toNat)).1.length)),(22,.i (i64.wrap (i+1)))],blk:=[(5,.var [.bool (gtP l i.toNat).1,.i (gtP l i.toNat).2.1,.i (gtP l i.toNat).2.2.1,.sl opS (gtP l i.toNat).2.2.2]),(21,.row 83 syS (o++(symV (gtP l i.toNat)).1))] }) (o.length=o.length/\(o.length:Int)=(o.length:Int)/\(o.length:Int)=(o.length:Int)/\o.length<1099511627776/\0+o.length<=o.length/\0+o.length<=o.length/\0+o.length<=o.length/\0+o.length<=o.length/\Q [.sl syS o] [])):=by kernel_rfl
theorem vc_cj (l:List PaT) (Q:QT) (R:RT):sA CJ1 Tryz.f74 Q (λ it S=>R it (qbr [1,8,14,15,16,33,34,35] [1] S)) [.code (qae Tryz.f74)] (entry [.sl paS] (l,())) =
  (bc (decide ((l.length:Int)=(0:Int))) (Q [.i 1] [(1,.var [.sl paS l])]) (R (hd Tryz.f74 0) { env:=[(1,.ptr 1 0),(14,.sl paS l),(15,.i (l.length:Int)),(16,.i 0)],blk:=[(1,.var [.sl paS l])] })):=by kernel_rfl
theorem q2f (l:List PaT) (i:Int) (Q:QT) (R:RT):sA CJ1 Tryz.f74 Q (λ it S=>R it (qbr [1,8,14,15,16,33,34,35] [1] S)) (hd Tryz.f74 0) ⟨[(1,.ptr 1 0),(14,.sl paS l),(15,.i (l.length:Nat)),(16,.i i)],[(1,.var [.sl paS l])]⟩ =
  (bc (decide (i<(l.length:Int))) ((0:Int)<=i/\i<(l.length:Int)/\ctChk.pre ((gtP l i.toNat),())/\bc (decide ((chkV (gtP l i.toNat)).2≠0)) (Q [.i (chkV (gtP l i.toNat)).2] [(1,.var [.sl paS l]),(4,.var [.bool (gtP l i.toNat).1,.i (gtP l i.toNat).2.1,.i (gtP l i.toNat).2.2.1,.sl opS (gtP l i.toNat).2.2.2])]) (R (hd Tryz.f74 0) { env:=[(1,.ptr 1 0),(14,.sl paS l),(15,.i (l.length:Int)),(16,.i (i64.wrap (i+1)))],blk:=[(1,.var [.sl paS l])] })) (ctCfO.pre (l,((),(l,()),()),())/\bc (l.any (othB l)) (Q [.i 62] [(1,.var [.sl paS l])]) (R (hd Tryz.f74 1) { env:=[(1,.ptr 1 0),(8,.i 65536),(14,.sl paS l),(15,.i (l.length:Int)),(16,.i i),(33,.sl paS l),(34,.i (l.length:Int)),(35,.i 0)],blk:=[(1,.var [.sl paS l])] }))):=by kernel_rfl
def ql6 (l:List PaT) (i:Int):List (Nat × LB):=[(1,.var [.sl paS l]),(10,.var [.bool (gtP l i.toNat).1,.i (gtP l i.toNat).2.1,.i (gtP l i.toNat).2.2.1,.sl opS (gtP l i.toNat).2.2.2])]
theorem q2e (l:List PaT) (n i:Int) (Q:QT) (R:RT):sA CJ1 Tryz.f74 Q (λ it S=>R it (qbr [1,8,14,15,16,33,34,35] [1] S)) (hd Tryz.f74 1) ⟨[(1,.ptr 1 0),(8,.i n),(33,.sl paS l),(34,.i (l.length:Nat)),(35,.i i)],[(1,.var [.sl paS l])]⟩ =
  (bc (decide (i<(l.length:Int))) ((0:Int)<=i/\i<(l.length:Int)/\(0:Int)<=0/\(0:Int)<(l.length:Int)/\bc (decide ((gtP l i.toNat).2.1≠(gtP l (0)).2.1)) (true=true/\Q [.i 61] (ql6 l i)) (bc (bif false then true else decide (n<(gtP l i.toNat).2.2.1)) (Q [.i 61] (ql6 l i)) (R (hd Tryz.f74 1) { env:=[(1,.ptr 1 0),(8,.i (i64.wrap (n-(gtP l i.toNat).2.2.1))),(33,.sl paS l),(34,.i (l.length:Int)),(35,.i (i64.wrap (i+1)))],blk:=[(1,.var [.sl paS l])] }))) (Q [.i 0] [(1,.var [.sl paS l])])):=by kernel_rfl
def ckaF:List PaT->Int
 | []=>0
 | p::r=>match decide ((chkV p).2≠0) with
  | true=>(chkV p).2
  | false=>ckaF r
def lenF (m:Int):List PaT->Int->Int
 | [],_=>0
 | p::r,n=>match decide (p.2.1≠m) with
  | true=>61
  | false=>match decide (n<p.2.2.1) with
   | true=>61
   | false=>lenF m r (n-p.2.2.1)
def cjV (l:List PaT):Int:=match decide (l.length=0) with
 | true=>1
 | false=>match decide (ckaF l≠0) with
  | true=>ckaF l
  | false=>match l.any (othB l) with
   | true=>62
   | false=>lenF (gtP l 0).2.1 l 65536
def ctCj:Ctr:=⟨[.sl paS],λ x=>List.length x.1<1000000,λ x=>[.i (cjV x.1)],λ _=>[]⟩
theorem qqo:∀ {l:List PaT},ckaF l=0->∀ p∈l,(chkV p).2=0
 | [],_,p,hp=>by cases hp
 | q::l,h,p,hp=>by
  rw[ckaF] at h;by_cases hq:(chkV q).2≠0
  ·rw[decide_eq_true hq] at h;exact absurd h hq
  ·rw[decide_eq_false hq] at h;rcases List.mem_cons.1 hp with rfl | hp
   ·exact Classical.not_not.1 hq
   ·exact qqo h p hp
abbrev QJ (v:Int):List SV->List (Nat × LB)->Prop:=λ rs _=>rs=[.i v]
theorem q1a {l:List PaT} {v:Int} (h0:0<l.length) (hl:l.length<1000000) (hok:∀ p∈l,(chkV p).2=0):∀ (k i:Nat) (n:Int),l.length-i=k->i<=l.length->0<=n/\n<=65536->v=lenF (gtP l 0).2.1 (l.drop i) n->GD 74 Tryz.f74 (QJ v) (hd Tryz.f74 1) ⟨[(1,.ptr 1 0),(8,.i n),(33,.sl paS l),(34,.i (l.length:Nat)),(35,.i (i:Nat))],[(1,.var [.sl paS l])]⟩:=by
 intro k
 induction k with
 | zero=>
  intro i n hk hi hn hv;have hi:i=l.length:=by omega
  subst hi;refine qat cxJ1 (q2e l n l.length _ _) ?_;rw[decide_eq_false (show ¬ ((l.length:Nat):Int)<(l.length:Int) by omega),bc_f];rw[List.drop_length] at hv;rw[hv];rfl
 | succ k ih=>
  intro i n hk hi hn hv;have hil:i<l.length:=by omega
  refine qat cxJ1 (q2e l n i _ _) ?_;rw[decide_eq_true (show (i:Int)<(l.length:Int) by omega),bc_t];simp only[Int.toNat_natCast];rw[qgy hil,lenF,<- qht hil] at hv;have hp:=(qew (hok (gtP l i) (by rw[qht hil];exact List.getElem_mem hil))).2.2.1;refine ⟨by omega,by omega,by omega,by omega,qag (λ h=>⟨by trivial,?_⟩) (λ h=>?_)⟩
  ·rw[h] at hv;rw[hv]
  ·rw[h] at hv
   show bc (decide (n<(gtP l i).2.2.1)) _ _
   refine qag (λ h2=>?_) (λ h2=>?_)
   ·rw[h2] at hv;rw[hv]
   ·rw[h2] at hv;have h2:=of_decide_eq_false h2;have nx:=ih (i+1) (n-(gtP l i).2.2.1) (by omega) (by omega) (by omega) hv;rw[IntWalk.i64_in ((i:Int)+1) (by omega),IntWalk.i64_in (n-(gtP l i).2.2.1) (by omega)];exact nx.only ⟨rfl,rfl,rfl,rfl,rfl,trivial⟩ ⟨rfl,trivial⟩
theorem q1b {l:List PaT} {v:Int} (h0:0<l.length) (hl:l.length<1000000) (hv0:v=cjV l):∀ (k i:Nat),l.length-i=k->i<=l.length->ckaF l=ckaF (l.drop i)->GD 74 Tryz.f74 (QJ v) (hd Tryz.f74 0) ⟨[(1,.ptr 1 0),(14,.sl paS l),(15,.i (l.length:Nat)),(16,.i (i:Nat))],[(1,.var [.sl paS l])]⟩:=by
 have e0:decide (l.length=0)=false:=decide_eq_false (by omega);intro k
 induction k with
 | zero=>
  intro i hk hi hv;have hi:i=l.length:=by omega
  subst hi;rw[List.drop_length] at hv;have hc:ckaF l=0:=hv;have e1:decide (ckaF l≠0)=false:=decide_eq_false (by omega);unfold cjV at hv0;rw[e0,e1] at hv0;refine qat cxJ1 (q2f l l.length _ _) ?_;rw[decide_eq_false (show ¬ ((l.length:Nat):Int)<(l.length:Int) by omega),bc_f];refine ⟨⟨h0,hl⟩,qag (λ h=>?_) (λ h=>?_)⟩
  ·rw[h] at hv0;rw[hv0]
  ·rw[h] at hv0;exact (q1a h0 hl (qqo hc) _ 0 65536 rfl (Nat.zero_le _) (by omega) hv0).only ⟨rfl,rfl,rfl,rfl,rfl,trivial⟩ ⟨rfl,trivial⟩
 | succ k ih=>
  intro i hk hi hv;have hil:i<l.length:=by omega
  refine qat cxJ1 (q2f l i _ _) ?_;rw[decide_eq_true (show (i:Int)<(l.length:Int) by omega),bc_t];simp only[Int.toNat_natCast];rw[qgy hil,ckaF,<- qht hil] at hv;refine ⟨by omega,by omega,trivial,qag (λ h=>?_) (λ h=>?_)⟩
  ·rw[h] at hv;have h:=of_decide_eq_true h;unfold cjV at hv0;rw[e0,decide_eq_true (show ckaF l≠0 by rw[hv];exact h),hv] at hv0;rw[hv0]
  ·rw[h] at hv;have nx:=ih (i+1) (by omega) (by omega) hv;rw[IntWalk.i64_in ((i:Int)+1) (by omega)];exact nx.only ⟨rfl,rfl,rfl,rfl,trivial⟩ ⟨rfl,trivial⟩
theorem q6r:Held Tryz.prog G0 74 ctCj:=Held.of cxJ1 (fn:=Tryz.f74) rfl rfl ⟨by decide,by decide⟩ λ ⟨l,_⟩ hp=>by
 have hl:l.length<1000000:=hp;refine qat cxJ1 (vc_cj l _ _) (qag (λ h=>?_) (λ h=>?_))
 ·have h:=of_decide_eq_true h;have e:cjV l=1:=by unfold cjV;rw[decide_eq_true (show l.length=0 by omega)]
  refine QC.flat ?_ rfl rfl
  show [SV.i (cjV l)]=_
  rw[e]
 ·have h:=of_decide_eq_false h;refine ((q1b (v:=cjV l) (by omega) hl rfl _ 0 rfl (Nat.zero_le _) rfl).post λ rs blk hq=>QC.flat (Eq.symm hq) rfl (by rw[hq];rfl)).only ⟨rfl,rfl,rfl,rfl,trivial⟩ ⟨rfl,trivial⟩
def ayaF (l:List PaT):List SyT:=l.flatMap λ p=>(symV p).1
def qv2 (l:List PaT):Prop:=0<l.length/\l.length<1000000/\(ayaF l).length<16777216
def ctAya:Ctr:=⟨[.sl paS],λ x=>qv2 x.1,λ x=>[.sl syS (ayaF x.1)],λ _=>[]⟩
theorem qhz {l:List PaT} {i:Nat} (h:i<l.length):ayaF (l.take (i+1))=ayaF (l.take i)++(symV (gtP l i)).1:=by
 unfold ayaF;rw[List.take_succ_eq_append_getElem h,List.flatMap_append,qht h];simp
theorem qx8 {l:List PaT} (i:Nat):(ayaF (l.take i)).length<=(ayaF l).length:=by
 have:ayaF l=ayaF (l.take i)++ayaF (l.drop i):=by
  unfold ayaF;rw[<- List.flatMap_append,List.take_append_drop]
 rw[this,List.length_append];omega
abbrev QAy (o:List SyT):List SV->List (Nat × LB)->Prop:=λ rs _=>rs=[.sl syS o]
theorem q1h {l:List PaT} (hl:l.length<1000000) (hb:(ayaF l).length<16777216):∀ (k i:Nat) (o:List SyT),l.length-i=k->i<=l.length->o=ayaF (l.take i)->GD 75 Tryz.f75 (QAy (ayaF l)) (hd Tryz.f75 0) ⟨[(3,.win true syS 77 0 o.length),(8,.sl paS l),(9,.i (l.length:Nat)),(10,.i (i:Nat))],[(77,.row 83 syS o)]⟩:=by
 intro k
 induction k with
 | zero=>
  intro i o hk hi ho;have hi:i=l.length:=by omega
  subst hi;rw[List.take_length] at ho;subst ho;refine qjd cxAy (qut l (ayaF l) l.length _ _) ?_;rw[decide_eq_false (show ¬ ((l.length:Nat):Int)<(l.length:Int) by omega),bc_f];refine ⟨rfl,rfl,rfl,by omega,by omega,by omega,by omega,by omega,rfl⟩
 | succ k ih=>
  intro i o hk hi ho;have hil:i<l.length:=by omega
  refine qjd cxAy (qut l o i _ _) ?_;have nx:=ih (i+1) (o++(symV (gtP l i)).1) (by omega) (by omega) (by rw[ho,qhz hil]);have hn:o.length+(symV (gtP l i)).1.length<=(ayaF l).length:=by
   have:=qx8 (l:=l) (i+1);rw[qhz hil,<- ho,List.length_append] at this;exact this
  rw[decide_eq_true (show (i:Int)<(l.length:Int) by omega),bc_t,IntWalk.i64_in ((i:Int)+1) (by omega)];simp only[Int.toNat_natCast];refine ⟨by omega,by omega,trivial,by trivial,by trivial,by omega,by omega,?_⟩;refine nx.onlyR [(77,21)] rfl ⟨?_,rfl,rfl,rfl,trivial⟩ ⟨rfl,trivial⟩;rw[List.length_append];rfl
theorem q1i:Held Tryz.prog G0 75 ctAya:=Held.of cxAy (fn:=Tryz.f75) rfl rfl ⟨by decide,by decide⟩ λ ⟨l,_⟩ hp=>by
 obtain ⟨h0,hl,hb⟩:qv2 l:=hp;refine qjd cxAy (q79 l _ _) ?_;have go:GD 75 Tryz.f75 (QAy (ayaF l)) (hd Tryz.f75 0) ⟨[(3,.nils),(8,.sl paS l),(9,.i (l.length:Nat)),(10,.i (0:Int))],[]⟩:=by
  refine qjd cxAy (q38 l 0 _ _) ?_;have nx:=q1h hl hb _ 1 (symV (gtP l 0)).1 rfl (by omega) (by rw[qhz h0];rfl);have hn:(symV (gtP l 0)).1.length<=(ayaF l).length:=by
   have:=qx8 (l:=l) 1;rw[qhz h0,List.length_append] at this;omega
  rw[decide_eq_true (show (0:Int)<(l.length:Int) by omega),bc_t];refine ⟨by omega,by omega,trivial,?_,by omega,?_⟩
  ·show (symV (gtP l 0)).1.length<2 ^ 30
   omega
  ·exact nx.onlyR [(77,21)] rfl ⟨rfl,rfl,rfl,rfl,trivial⟩ ⟨rfl,trivial⟩
 exact (go.post λ rs blk hq=>QC.flat (Eq.symm hq) rfl (by rw[hq];rfl)).only ⟨rfl,rfl,rfl,rfl,trivial⟩ trivial
abbrev CJn:CV:=[(74,.inl ctCj),(75,.inl ctAya),(55,.inl ctCp)]
theorem cxJn:CxOK Tryz.prog tt G0 CJn:=((cx0.k qxw (fn:=Tryz.f55)).k q1i (fn:=Tryz.f75)).k q6r (fn:=Tryz.f74)
set_option maxRecDepth 100000
theorem q3y (l:List PaT) (Q:QT) (R:RT):sA CJn Tryz.f33 Q R [.code (qae Tryz.f33)] (entry [.sl paS] (l,())) =
  (ctCj.pre (l,())/\bc (decide (cjV l≠0)) (Q [.agg [.bool false,.i 0,.i 0,.nils],.i (cjV l)] [(2,.var [.bool false,.i 0,.i 0,.nils])]) (ctAya.pre (l,())/\(0:Int)<=0/\(0:Int)<(l.length:Int)/\ctCp.pre (ayaF l,(gtP l (0)).2.1,())/\bc (decide ((cpV (ayaF l) (gtP l (0)).2.1).2≠0)) (Q [.agg [.bool false,.i 0,.i 0,.nils],.i (cpV (ayaF l) (gtP l (0)).2.1).2] [(2,.var [.bool false,.i 0,.i 0,.nils]),(5,.var [.bool (cpV (ayaF l) (gtP l (0)).2.1).1.1,.i (cpV (ayaF l) (gtP l (0)).2.1).1.2.1,.i (cpV (ayaF l) (gtP l (0)).2.1).1.2.2.1,.sl opS (cpV (ayaF l) (gtP l (0)).2.1).1.2.2.2])]) ((0:Int)<=0/\(0:Int)<(l.length:Int)/\Q [.agg [.bool (gtP l (0)).1,.i (cpV (ayaF l) (gtP l (0)).2.1).1.2.1,.i (cpV (ayaF l) (gtP l (0)).2.1).1.2.2.1,.sl opS (cpV (ayaF l) (gtP l (0)).2.1).1.2.2.2],.i 0] [(2,.var [.bool (gtP l (0)).1,.i (cpV (ayaF l) (gtP l (0)).2.1).1.2.1,.i (cpV (ayaF l) (gtP l (0)).2.1).1.2.2.1,.sl opS (cpV (ayaF l) (gtP l (0)).2.1).1.2.2.2]),(5,.var [.bool (gtP l (0)).1,.i (cpV (ayaF l) (gtP l (0)).2.1).1.2.1,.i (cpV (ayaF l) (gtP l (0)).2.1).1.2.2.1,.sl opS (cpV (ayaF l) (gtP l (0)).2.1).1.2.2.2])]))):=by kernel_rfl
def jnV (l:List PaT):PaT × Int:=match decide (cjV l≠0) with
 | true=>((false,0,0,[]),cjV l)
 | false=>match decide ((cpV (ayaF l) (gtP l 0).2.1).2≠0) with
  | true=>((false,0,0,[]),(cpV (ayaF l) (gtP l 0).2.1).2)
  | false=>(((gtP l 0).1,(cpV (ayaF l) (gtP l 0).2.1).1.2),0)
def ctJn:Ctr:=⟨[.sl paS],λ x=>List.length x.1<1000000,λ x=>[paV (jnV x.1).1,.i (jnV x.1).2],λ _=>[]⟩
theorem qry {m:Int}:∀ {l:List PaT} {n:Int},0<=n->(∀ p∈l,(chkV p).2=0)->lenF m l n=0->((ayaF l).length:Int)<=n/\∀ p∈l,p.2.1=m
 | [],n,hn,_,_=>⟨hn,λ p hp=>by cases hp⟩
 | p::l,n,hn,hc,h=>by
  rw[lenF] at h;by_cases h1:p.2.1≠m
  ·rw[decide_eq_true h1] at h;cases h
  ·rw[decide_eq_false h1] at h;by_cases h2:n<p.2.2.1
   ·rw[decide_eq_true h2] at h;cases h
   ·rw[decide_eq_false h2] at h;have hp:=hc p (List.mem_cons_self ..);have hs:(symV p).2=0:=by unfold symV;rw[if_pos hp]
    have hl:=(qc6 hs).2.2;obtain ⟨a1,a2⟩:=qry (m:=m) (l:=l) (by omega) (λ q hq=>hc q (List.mem_cons_of_mem _ hq)) h;refine ⟨?_,λ q hq=>?_⟩
    ·show (((symV p).1++ayaF l).length:Int)<=n
     rw[List.length_append];omega
    ·rcases List.mem_cons.1 hq with rfl | hq
     ·exact Classical.not_not.1 h1
     ·exact a2 q hq
theorem q9j {l:List PaT} (h:cjV l=0):0<l.length/\(∀ p∈l,(chkV p).2=0)/\l.any (othB l)=false/\(ayaF l).length<=65536/\∀ p∈l,p.2.1=(gtP l 0).2.1:=by
 unfold cjV at h;by_cases h1:l.length=0
 ·rw[decide_eq_true h1] at h;cases h
 ·rw[decide_eq_false h1] at h;by_cases h2:ckaF l≠0
  ·rw[decide_eq_true h2] at h;exact absurd h h2
  ·rw[decide_eq_false h2] at h;have hc:=qqo (Classical.not_not.1 h2)
   cases h3:l.any (othB l) with
   | true=>rw[h3] at h;cases h
   | false=>
    rw[h3] at h;obtain ⟨a1,a2⟩:=qry (by omega) hc h;exact ⟨by omega,hc,rfl,by omega,a2⟩
theorem q81 (l:List PaT) (hl:l.length<1000000) (R:List Item->PS->Prop):sA CJn Tryz.f33 (QC ctJn (l,())) R [.code (qae Tryz.f33)] (entry [.sl paS] (l,())):=by
 refine (q3y l _ _).mpr ⟨hl,qag (λ h=>?_) (λ h=>?_)⟩
 ·have hv:jnV l=((false,0,0,[]),cjV l):=by unfold jnV;rw[show decide (cjV l≠0)=true from h]
  exact QC.mt (by show MtL _ [paV (jnV l).1,.i (jnV l).2] _;rw[hv];exact qh8 _) rfl
 ·have h0:cjV l=0:=by
   have:=of_decide_eq_false h;simpa using this
  obtain ⟨a1,_,_,a2,_⟩:=q9j h0;have pA:qv2 l:=⟨a1,hl,by omega⟩;have pC:(ayaF l).length<16777216:=by omega
  refine ⟨pA,by omega,by omega,pC,qag (λ h2=>?_) (λ h2=>⟨by omega,by omega,?_⟩)⟩
  ·have hv:jnV l=((false,0,0,[]),(cpV (ayaF l) (gtP l 0).2.1).2):=by unfold jnV;rw[show decide (cjV l≠0)=false from h,show decide ((cpV (ayaF l) (gtP l 0).2.1).2≠0)=true from h2]
   exact QC.mt (by show MtL _ [paV (jnV l).1,.i (jnV l).2] _;rw[hv];exact qh8 _) rfl
  ·have hv:jnV l=(((gtP l 0).1,(cpV (ayaF l) (gtP l 0).2.1).1.2),0):=by unfold jnV;rw[show decide (cjV l≠0)=false from h,show decide ((cpV (ayaF l) (gtP l 0).2.1).2≠0)=false from h2]
   exact QC.flat (by show [paV (jnV l).1,.i (jnV l).2]=_;rw[hv];rfl) rfl rfl
theorem q53:Held Tryz.prog G0 33 ctJn:=Held.run cxJn (fn:=Tryz.f33) rfl rfl ⟨by decide,by decide⟩ λ ⟨l,_⟩ hp=>q81 l hp _
theorem q7x  (Q:QT) (R:RT):sA [] Tryz.f61 Q R [.code (qae Tryz.f61)] (entry [] ()) =
  (0+2<=(((List.replicate (2:Nat) uB.dflt).set (0:Nat) (7:Int)).set (1:Nat) (8:Int)).length/\0+2<=(((List.replicate (2:Nat) uB.dflt).set (0:Nat) (7:Int)).set (1:Nat) (8:Int)).length/\Q [.agg [.bool false,.i 3,.i 5,.win true opS 4 0 (2:Nat)]] [(0,.var [.bool false,.i 3,.i 5,.win true opS 4 0 (2:Nat)]),(4,.row 74 opS (((List.replicate (2:Nat) opS.dflt).set (0:Nat) ((1:Int),(0:Int),(3:Int),(0:Int),[])).set (1:Nat) ((4:Int),(0:Int),(2:Int),(0:Int),winL uB 0 2 (((List.replicate (2:Nat) uB.dflt).set (0:Nat) (7:Int)).set (1:Nat) (8:Int)))))]):=by kernel_rfl
theorem q7c (a b:List PaT) (Q:QT) (R:RT):sA [(20,.inl ctSm)] Tryz.f62 Q R [.code (qae Tryz.f62)] (entry [.sl paS,.sl paS] (a,b,())) =
  (bc (decide ((a.length:Int)≠(b.length:Int))) (Q [.bool false] []) (R (hd Tryz.f62 0) { env:=[(0,.sl paS a),(1,.sl paS b),(4,.bool false),(5,.i 0),(6,.sl paS a),(7,.i (a.length:Int)),(8,.sl paS b),(9,.i (b.length:Int)),(10,.bool (decide ((a.length:Int)≠(b.length:Int))))],blk:=[] })):=by kernel_rfl
theorem qub (a b:List PaT) (i:Nat) (Q:QT) (R:RT):sA [(20,.inl ctSm)] Tryz.f62 Q R (hd Tryz.f62 0) ⟨[(0,.sl paS a),(1,.sl paS b),(5,.i (i:Nat))],[]⟩ =
  (bc (decide ((i:Int)<(a.length:Int))) ((0:Int)<=(i:Int)/\(i:Int)<(a.length:Int)/\(0:Int)<=(i:Int)/\(i:Int)<(b.length:Int)/\ctSm.pre ((gtP a (i:Int).toNat),(gtP b (i:Int).toNat),())/\bc (!smB (gtP a (i:Int).toNat) (gtP b (i:Int).toNat)) (Q [.bool false] []) (R (hd Tryz.f62 0) { env:=[(0,.sl paS a),(1,.sl paS b),(5,.i (IntKind.i64.wrap ((i:Int)+1))),(11,.i (i:Int)),(12,.sl paS a),(13,.i (a.length:Int)),(14,.bool (decide ((i:Int)<(a.length:Int)))),(15,.i (i:Int)),(16,.i (IntKind.i64.wrap ((i:Int)+1))),(17,.sl paS a),(18,.i (i:Int)),(19,.elv paS (gtP a (i:Int).toNat)),(20,.agg [.bool (gtP a (i:Int).toNat).1,.i (gtP a (i:Int).toNat).2.1,.i (gtP a (i:Int).toNat).2.2.1,.sl opS (gtP a (i:Int).toNat).2.2.2]),(21,.sl paS b),(22,.i (i:Int)),(23,.elv paS (gtP b (i:Int).toNat)),(24,.agg [.bool (gtP b (i:Int).toNat).1,.i (gtP b (i:Int).toNat).2.1,.i (gtP b (i:Int).toNat).2.2.1,.sl opS (gtP b (i:Int).toNat).2.2.2]),(25,.bool (smB (gtP a (i:Int).toNat) (gtP b (i:Int).toNat))),(26,.bool !smB (gtP a (i:Int).toNat) (gtP b (i:Int).toNat))],blk:=[] })) (Q [.bool true] [])):=by kernel_rfl
def smlR:List PaT->List PaT->Bool
 | x::a,y::b=>match !smB x y with
  | true=>false
  | false=>smlR a b
 | _,_=>true
def smlB (a b:List PaT):Bool:=match decide ((a.length:Int)≠(b.length:Int)) with
 | true=>false
 | false=>smlR a b
def qlu (a:List PaT):Prop:=a.length<1000000/\∀ p∈a,p.2.2.2.length<1099511627776
def ctSml:Ctr:=⟨[.sl paS,.sl paS],λ x=>qlu x.1,λ x=>[.bool (smlB x.1 x.2.1)],λ _=>[]⟩
theorem cxSl:CxOK Tryz.prog tt G0 [(20,.inl ctSm)]:=cx0.k qvc (fn:=Tryz.f20)
theorem qzb {a b:List PaT} {v:Bool} (ha:qlu a) (hl:a.length=b.length):∀ (k i:Nat),a.length-i=k->i<=a.length->v=smlR (a.drop i) (b.drop i)->GD 62 Tryz.f62 (λ rs _=>rs=[.bool v]) (hd Tryz.f62 0) ⟨[(0,.sl paS a),(1,.sl paS b),(5,.i (i:Nat))],[]⟩:=by
 intro k
 induction k with
 | zero=>
  intro i hk hi hv;have hi:i=a.length:=by omega
  subst hi;refine qjd cxSl (qub a b a.length _ _) ?_;rw[decide_eq_false (show ¬ ((a.length:Nat):Int)<(a.length:Int) by omega),bc_f];rw[List.drop_length] at hv;rw[hv];rfl
 | succ k ih=>
  intro i hk hi hv;have hil:i<a.length:=by omega
  have hib:i<b.length:=by omega
  have ha1:=ha.1;refine qjd cxSl (qub a b i _ _) ?_;rw[decide_eq_true (show (i:Int)<(a.length:Int) by omega),bc_t,IntWalk.i64_in ((i:Int)+1) (by omega)];simp only[Int.toNat_natCast];rw[qgy hil,qgy hib,smlR,<- qht hil,<- qht hib] at hv;have hp:(gtP a i).2.2.2.length<1099511627776:=ha.2 _ (by rw[qht hil];exact List.getElem_mem hil);refine ⟨by omega,by omega,by omega,by omega,hp,qag (λ h=>?_) (λ h=>?_)⟩
  ·rw[h] at hv;rw[hv]
  ·rw[h] at hv;exact (ih (i+1) (by omega) (by omega) hv).only ⟨rfl,rfl,rfl,trivial⟩ trivial
theorem qzc:Held Tryz.prog G0 62 ctSml:=Held.of cxSl (fn:=Tryz.f62) rfl rfl ⟨by decide,by decide⟩ λ ⟨a,b,_⟩ hp=>by
 have hp:qlu a:=hp;refine qjd cxSl (q7c a b _ _) (qag (λ h=>?_) (λ h=>?_))
 ·refine QC.flat ?_ rfl rfl
  show [SV.bool (smlB a b)]=_
  unfold smlB;rw[h]
 ·have hl:=of_decide_eq_false h;have hl:a.length=b.length:=by omega
  refine ((qzb (v:=smlB a b) hp hl _ 0 rfl (Nat.zero_le _) ?_).post λ rs blk hq=>QC.flat (Eq.symm hq) rfl (by rw[hq];rfl)).only ⟨rfl,rfl,rfl,trivial⟩ trivial;unfold smlB;rw[h];rfl
def givP:PaT:=(false,3,5,[(1,0,3,0,[]),(4,0,2,0,[7,8])])
def q28:Ctr:=⟨[],λ _=>True,λ _=>[.agg [.bool false,.i 3,.i 5,.win true opS 0 0 2]],λ _=>[.row 74 opS givP.2.2.2]⟩
def ctGiv:Ctr:=⟨[],λ _=>True,λ _=>[paV givP],λ _=>[]⟩
theorem givW_held:Held Tryz.prog G0 61 q28:=by
 refine Held.run cx0 (fn:=Tryz.f61) rfl rfl ⟨by decide,by decide⟩ ?_;rintro ⟨⟩ _;refine (q7x _ _).mpr ⟨by decide,by decide,?_⟩;refine ⟨λ i=>if i=0 then some 4 else none,?_,?_,λ i j b h1 h2=>?_,rfl⟩
 ·exact ⟨_,_,rfl,⟨_,rfl,_,_,rfl,rfl,_,_,rfl,rfl,_,_,rfl,rfl,_,_,rfl,.inl ⟨true,4,rfl,rfl,λ h=>h⟩,rfl⟩,rfl⟩
 ·exact ⟨.inl ⟨4,rfl,rfl⟩,trivial⟩
 ·simp only at h1 h2;split at h1
  ·split at h2
   ·omega
   ·cases h2
  ·cases h1
theorem q0t:Held Tryz.prog G0 61 ctGiv:=by
 have h:=givW_held.frz (λ x _=>⟨by simp[q28,inL,inS,givP],trivial⟩);exact h.iff rfl (λ x h=>h) (λ x _=>rfl) (λ x _=>rfl)
def CSn:CV:=[(61,.inl ctGiv),(32,.inl ctSec),(28,.inl ctSpl),(33,.inl ctJn),(62,.inl ctSml),(20,.inl ctSm)]
theorem cxSn:CxOK Tryz.prog tt G0 CSn:=(((((cx0.k qvc (fn:=Tryz.f20)).k qzc (fn:=Tryz.f62)).k q53 (fn:=Tryz.f33)).k spl_held (fn:=Tryz.f28)).k qze (fn:=Tryz.f32)).k q0t (fn:=Tryz.f61)
set_option maxRecDepth 100000
theorem q3k  (Q:QT) (R:RT):sA CSn Tryz.f24 Q R [.code (qae Tryz.f24)] (entry [] ()) =
  (ctGiv.pre ()/\ctSec.pre (givP,(2:Int),())/\0+1<=((List.replicate (1:Nat) seS.dflt).set (0:Nat) ((ByteArray.mk #[(120:UInt8)]).data.toList,(1:Int),(4:Int),false)).length/\ctSpl.pre (givP,winL seS 0 1 ((List.replicate (1:Nat) seS.dflt).set (0:Nat) ((ByteArray.mk #[(120:UInt8)]).data.toList,(1:Int),(4:Int),false)),())/\0+1<=((List.replicate (1:Nat) seS.dflt).set (0:Nat) ((ByteArray.mk #[(120:UInt8)]).data.toList,(4:Int),(6:Int),false)).length/\ctSpl.pre (givP,winL seS 0 1 ((List.replicate (1:Nat) seS.dflt).set (0:Nat) ((ByteArray.mk #[(120:UInt8)]).data.toList,(4:Int),(6:Int),false)),())/\ctSec.pre (givP,(0:Int),())/\ctJn.pre ([],())/\0+1<=([(7:Int)]:List uB.D).length/\0+1<=([(7:Int)]:List uB.D).length/\0+1<=([(8:Int)]:List uB.D).length/\0+1<=([(8:Int)]:List uB.D).length/\0+1<=([((1:Int),(0:Int),(2:Int),(0:Int),[])]:List opS.D).length/\0+1<=([((1:Int),(0:Int),(2:Int),(0:Int),[])]:List opS.D).length/\0+2<=(((List.replicate (2:Nat) opS.dflt).set (0:Nat) ((1:Int),(2:Int),(1:Int),(0:Int),[])).set (1:Nat) ((4:Int),(0:Int),(1:Int),(0:Int),([(7:Int)]:List uB.D))).length/\0+2<=(((List.replicate (2:Nat) opS.dflt).set (0:Nat) ((1:Int),(2:Int),(1:Int),(0:Int),[])).set (1:Nat) ((4:Int),(0:Int),(1:Int),(0:Int),([(7:Int)]:List uB.D))).length/\0+1<=([((4:Int),(0:Int),(1:Int),(0:Int),([(8:Int)]:List uB.D))]:List opS.D).length/\0+1<=([((4:Int),(0:Int),(1:Int),(0:Int),([(8:Int)]:List uB.D))]:List opS.D).length/\0+3<=((((List.replicate (3:Nat) paS.dflt).set (0:Nat) (false,(3:Int),(2:Int),([((1:Int),(0:Int),(2:Int),(0:Int),[])]:List opS.D))).set (1:Nat) (false,(3:Int),(2:Int),winL opS 0 2 (((List.replicate (2:Nat) opS.dflt).set (0:Nat) ((1:Int),(2:Int),(1:Int),(0:Int),[])).set (1:Nat) ((4:Int),(0:Int),(1:Int),(0:Int),([(7:Int)]:List uB.D))))).set (2:Nat) (false,(3:Int),(1:Int),([((4:Int),(0:Int),(1:Int),(0:Int),winL uB 0 1 ([(8:Int)]:List uB.D))]:List opS.D))).length/\0+3<=((((List.replicate (3:Nat) paS.dflt).set (0:Nat) (false,(3:Int),(2:Int),([((1:Int),(0:Int),(2:Int),(0:Int),[])]:List opS.D))).set (1:Nat) (false,(3:Int),(2:Int),winL opS 0 2 (((List.replicate (2:Nat) opS.dflt).set (0:Nat) ((1:Int),(2:Int),(1:Int),(0:Int),[])).set (1:Nat) ((4:Int),(0:Int),(1:Int),(0:Int),([(7:Int)]:List uB.D))))).set (2:Nat) (false,(3:Int),(1:Int),([((4:Int),(0:Int),(1:Int),(0:Int),winL uB 0 1 ([(8:Int)]:List uB.D))]:List opS.D))).length/\0+3<=((((List.replicate (3:Nat) paS.dflt).set (0:Nat) (false,(3:Int),(2:Int),([((1:Int),(0:Int),(2:Int),(0:Int),[])]:List opS.D))).set (1:Nat) (false,(3:Int),(2:Int),winL opS 0 2 (((List.replicate (2:Nat) opS.dflt).set (0:Nat) ((1:Int),(2:Int),(1:Int),(0:Int),[])).set (1:Nat) ((4:Int),(0:Int),(1:Int),(0:Int),([(7:Int)]:List uB.D))))).set (2:Nat) (false,(3:Int),(1:Int),([((4:Int),(0:Int),(1:Int),(0:Int),winL uB 0 1 ([(8:Int)]:List uB.D))]:List opS.D))).length/\ctJn.pre (winL paS 0 3 ((((List.replicate (3:Nat) paS.dflt).set (0:Nat) (false,(3:Int),(2:Int),([((1:Int),(0:Int),(2:Int),(0:Int),[])]:List opS.D))).set (1:Nat) (false,(3:Int),(2:Int),winL opS 0 2 (((List.replicate (2:Nat) opS.dflt).set (0:Nat) ((1:Int),(2:Int),(1:Int),(0:Int),[])).set (1:Nat) ((4:Int),(0:Int),(1:Int),(0:Int),([(7:Int)]:List uB.D))))).set (2:Nat) (false,(3:Int),(1:Int),([((4:Int),(0:Int),(1:Int),(0:Int),winL uB 0 1 ([(8:Int)]:List uB.D))]:List opS.D))),())/\0+1<=([(7:Int)]:List uB.D).length/\0+1<=([(7:Int)]:List uB.D).length/\0+(secV givP (2:Int)).1.length<=(secV givP (2:Int)).1.length/\ctSml.pre (winL paS 0 (secV givP (2:Int)).1.length (secV givP (2:Int)).1,winL paS 0 3 ((((List.replicate (3:Nat) paS.dflt).set (0:Nat) (false,(3:Int),(2:Int),([((1:Int),(0:Int),(2:Int),(0:Int),[])]:List opS.D))).set (1:Nat) (false,(3:Int),(2:Int),winL opS 0 2 (((List.replicate (2:Nat) opS.dflt).set (0:Nat) ((1:Int),(2:Int),(1:Int),(0:Int),[])).set (1:Nat) ((4:Int),(0:Int),(1:Int),(0:Int),([(7:Int)]:List uB.D))))).set (2:Nat) (false,(3:Int),(1:Int),([((4:Int),(0:Int),(1:Int),(0:Int),winL uB 0 1 ([(8:Int)]:List uB.D))]:List opS.D))),())/\0+2<=(((List.replicate (2:Nat) opS.dflt).set (0:Nat) ((1:Int),(1:Int),(2:Int),(0:Int),[])).set (1:Nat) ((4:Int),(0:Int),(1:Int),(0:Int),([(7:Int)]:List uB.D))).length/\0+2<=(((List.replicate (2:Nat) opS.dflt).set (0:Nat) ((1:Int),(1:Int),(2:Int),(0:Int),[])).set (1:Nat) ((4:Int),(0:Int),(1:Int),(0:Int),([(7:Int)]:List uB.D))).length/\0+2<=(((List.replicate (2:Nat) opS.dflt).set (0:Nat) ((1:Int),(1:Int),(2:Int),(0:Int),[])).set (1:Nat) ((4:Int),(0:Int),(1:Int),(0:Int),([(7:Int)]:List uB.D))).length/\0+2<=(((List.replicate (2:Nat) opS.dflt).set (0:Nat) ((1:Int),(1:Int),(2:Int),(0:Int),[])).set (1:Nat) ((4:Int),(0:Int),(1:Int),(0:Int),([(7:Int)]:List uB.D))).length/\0+(splV givP (winL seS 0 1 ((List.replicate (1:Nat) seS.dflt).set (0:Nat) ((ByteArray.mk #[(120:UInt8)]).data.toList,(1:Int),(4:Int),false)))).1.length<=(splV givP (winL seS 0 1 ((List.replicate (1:Nat) seS.dflt).set (0:Nat) ((ByteArray.mk #[(120:UInt8)]).data.toList,(1:Int),(4:Int),false)))).1.length/\0+1<=([(false,(3:Int),(3:Int),winL opS 0 2 (((List.replicate (2:Nat) opS.dflt).set (0:Nat) ((1:Int),(1:Int),(2:Int),(0:Int),[])).set (1:Nat) ((4:Int),(0:Int),(1:Int),(0:Int),([(7:Int)]:List uB.D))))]:List paS.D).length/\ctSml.pre (winL paS 0 (splV givP (winL seS 0 1 ((List.replicate (1:Nat) seS.dflt).set (0:Nat) ((ByteArray.mk #[(120:UInt8)]).data.toList,(1:Int),(4:Int),false)))).1.length (splV givP (winL seS 0 1 ((List.replicate (1:Nat) seS.dflt).set (0:Nat) ((ByteArray.mk #[(120:UInt8)]).data.toList,(1:Int),(4:Int),false)))).1,([(false,(3:Int),(3:Int),winL opS 0 2 (((List.replicate (2:Nat) opS.dflt).set (0:Nat) ((1:Int),(1:Int),(2:Int),(0:Int),[])).set (1:Nat) ((4:Int),(0:Int),(1:Int),(0:Int),([(7:Int)]:List uB.D))))]:List paS.D),())/\ctSm.pre (((jnV (winL paS 0 3 ((((List.replicate (3:Nat) paS.dflt).set (0:Nat) (false,(3:Int),(2:Int),([((1:Int),(0:Int),(2:Int),(0:Int),[])]:List opS.D))).set (1:Nat) (false,(3:Int),(2:Int),winL opS 0 2 (((List.replicate (2:Nat) opS.dflt).set (0:Nat) ((1:Int),(2:Int),(1:Int),(0:Int),[])).set (1:Nat) ((4:Int),(0:Int),(1:Int),(0:Int),([(7:Int)]:List uB.D))))).set (2:Nat) (false,(3:Int),(1:Int),([((4:Int),(0:Int),(1:Int),(0:Int),winL uB 0 1 ([(8:Int)]:List uB.D))]:List opS.D))))).1),givP,())/\Q [.bool (bif true then smB ((jnV (winL paS 0 3 ((((List.replicate (3:Nat) paS.dflt).set (0:Nat) (false,(3:Int),(2:Int),([((1:Int),(0:Int),(2:Int),(0:Int),[])]:List opS.D))).set (1:Nat) (false,(3:Int),(2:Int),winL opS 0 2 (((List.replicate (2:Nat) opS.dflt).set (0:Nat) ((1:Int),(2:Int),(1:Int),(0:Int),[])).set (1:Nat) ((4:Int),(0:Int),(1:Int),(0:Int),([(7:Int)]:List uB.D))))).set (2:Nat) (false,(3:Int),(1:Int),([((4:Int),(0:Int),(1:Int),(0:Int),winL uB 0 1 ([(8:Int)]:List uB.D))]:List opS.D))))).1) givP else false)] [(1,.var [.bool givP.1,.i givP.2.1,.i givP.2.2.1,.sl opS givP.2.2.2]),(10,.var [.bool (jnV []).1.1,.i (jnV []).1.2.1,.i (jnV []).1.2.2.1,.sl opS (jnV []).1.2.2.2]),(13,.var [.bool (jnV (winL paS 0 3 ((((List.replicate (3:Nat) paS.dflt).set (0:Nat) (false,(3:Int),(2:Int),([((1:Int),(0:Int),(2:Int),(0:Int),[])]:List opS.D))).set (1:Nat) (false,(3:Int),(2:Int),winL opS 0 2 (((List.replicate (2:Nat) opS.dflt).set (0:Nat) ((1:Int),(2:Int),(1:Int),(0:Int),[])).set (1:Nat) ((4:Int),(0:Int),(1:Int),(0:Int),([(7:Int)]:List uB.D))))).set (2:Nat) (false,(3:Int),(1:Int),([((4:Int),(0:Int),(1:Int),(0:Int),winL uB 0 1 ([(8:Int)]:List uB.D))]:List opS.D))))).1.1,.i (jnV (winL paS 0 3 ((((List.replicate (3:Nat) paS.dflt).set (0:Nat) (false,(3:Int),(2:Int),([((1:Int),(0:Int),(2:Int),(0:Int),[])]:List opS.D))).set (1:Nat) (false,(3:Int),(2:Int),winL opS 0 2 (((List.replicate (2:Nat) opS.dflt).set (0:Nat) ((1:Int),(2:Int),(1:Int),(0:Int),[])).set (1:Nat) ((4:Int),(0:Int),(1:Int),(0:Int),([(7:Int)]:List uB.D))))).set (2:Nat) (false,(3:Int),(1:Int),([((4:Int),(0:Int),(1:Int),(0:Int),winL uB 0 1 ([(8:Int)]:List uB.D))]:List opS.D))))).1.2.1,.i (jnV (winL paS 0 3 ((((List.replicate (3:Nat) paS.dflt).set (0:Nat) (false,(3:Int),(2:Int),([((1:Int),(0:Int),(2:Int),(0:Int),[])]:List opS.D))).set (1:Nat) (false,(3:Int),(2:Int),winL opS 0 2 (((List.replicate (2:Nat) opS.dflt).set (0:Nat) ((1:Int),(2:Int),(1:Int),(0:Int),[])).set (1:Nat) ((4:Int),(0:Int),(1:Int),(0:Int),([(7:Int)]:List uB.D))))).set (2:Nat) (false,(3:Int),(1:Int),([((4:Int),(0:Int),(1:Int),(0:Int),winL uB 0 1 ([(8:Int)]:List uB.D))]:List opS.D))))).1.2.2.1,.sl opS (jnV (winL paS 0 3 ((((List.replicate (3:Nat) paS.dflt).set (0:Nat) (false,(3:Int),(2:Int),([((1:Int),(0:Int),(2:Int),(0:Int),[])]:List opS.D))).set (1:Nat) (false,(3:Int),(2:Int),winL opS 0 2 (((List.replicate (2:Nat) opS.dflt).set (0:Nat) ((1:Int),(2:Int),(1:Int),(0:Int),[])).set (1:Nat) ((4:Int),(0:Int),(1:Int),(0:Int),([(7:Int)]:List uB.D))))).set (2:Nat) (false,(3:Int),(1:Int),([((4:Int),(0:Int),(1:Int),(0:Int),winL uB 0 1 ([(8:Int)]:List uB.D))]:List opS.D))))).1.2.2.2]),(15,.var [.bool false,.i 3,.i 3,.sl opS (winL opS 0 2 (((List.replicate (2:Nat) opS.dflt).set (0:Nat) ((1:Int),(1:Int),(2:Int),(0:Int),[])).set (1:Nat) ((4:Int),(0:Int),(1:Int),(0:Int),([(7:Int)]:List uB.D))))]),(82,.row 31 paS ([(false,(3:Int),(3:Int),winL opS 0 2 (((List.replicate (2:Nat) opS.dflt).set (0:Nat) ((1:Int),(1:Int),(2:Int),(0:Int),[])).set (1:Nat) ((4:Int),(0:Int),(1:Int),(0:Int),([(7:Int)]:List uB.D))))]:List paS.D)),(1077824,.row 31 paS (secV givP (2:Int)).1),(1106496,.row 31 paS (splV givP (winL seS 0 1 ((List.replicate (1:Nat) seS.dflt).set (0:Nat) ((ByteArray.mk #[(120:UInt8)]).data.toList,(1:Int),(4:Int),false)))).1),(1135168,.row 31 paS (splV givP (winL seS 0 1 ((List.replicate (1:Nat) seS.dflt).set (0:Nat) ((ByteArray.mk #[(120:UInt8)]).data.toList,(4:Int),(6:Int),false)))).1),(1155648,.row 31 paS (secV givP (0:Int)).1)]):=by kernel_rfl
def ctSn12:Ctr:=⟨[],λ _=>True,λ _=>[.bool true],λ _=>[]⟩
instance (a:List PaT):Decidable (qlu a):=by unfold qlu;infer_instance
theorem qza (R:List Item->PS->Prop):sA CSn Tryz.f24 (QC ctSn12 ()) R [.code (qae Tryz.f24)] (entry [] ()):=by
 refine (q3k _ _).mpr ?_
 repeat' first
  | exact trivial
  | decide +kernel
  | refine And.intro ?_ ?_
  | (refine QC.flat ?_ rfl rfl)
  | (show List.length _<1099511627776;decide +kernel)
  | (show List.length _<1000000;decide +kernel)
  | (show qlu _;decide +kernel)
  | (show ∀ s∈_,List.length _<2 ^ 62;decide +kernel)
  | (refine congrArg (λ b=>[SV.bool b]) ?_;decide +kernel)
theorem qvb:Held Tryz.prog G0 24 ctSn12:=Held.run cxSn (fn:=Tryz.f24) rfl rfl ⟨by decide,by decide⟩ λ x _=>qza _
def CQ:CV:=[(65,.inl ctPl),(63,.inl ctSym)]
theorem cxQ:CxOK Tryz.prog tt G0 CQ:=(cx0.k sym_held (fn:=Tryz.f63)).k q46 (fn:=Tryz.f65)
theorem qyx (old:List Int) (li:Bool) (m o:Int) (l:List OpT) (Q:QT) (R:RT):sA CQ Tryz.f27 Q R [.code (qae Tryz.f27)] (entry [.sl uB,paS] (old,(li,m,o,l),())) =
  (ctSym.pre ((li,m,o,l),())/\bc (decide ((symV (li,m,o,l)).2≠0)) (Q [.nils,.i (symV (li,m,o,l)).2] [(3,.var [.bool li,.i m,.i o,.sl opS l]),(1040960,.row 83 syS (symV (li,m,o,l)).1)]) (bc li False ((0:Nat)+(symV (li,m,o,l)).1.length<=(symV (li,m,o,l)).1.length/\ctPl.pre (old,m,winL syS 0 (symV (li,m,o,l)).1.length (symV (li,m,o,l)).1,())/\Q [.win true uB 1118784 0 (plV old m (winL syS 0 (symV (li,m,o,l)).1.length (symV (li,m,o,l)).1)).1.length,.i (plV old m (winL syS 0 (symV (li,m,o,l)).1.length (symV (li,m,o,l)).1)).2] [(3,.var [.bool li,.i m,.i o,.sl opS l]),(1040960,.row 83 syS (symV (li,m,o,l)).1),(1118784,.row 5 uB (plV old m (winL syS 0 (symV (li,m,o,l)).1.length (symV (li,m,o,l)).1)).1)]))):=by kernel_rfl
def apV (old:List Int) (p:PaT):List Int × Int:=if (symV p).2=0 then plV old p.2.1 (symV p).1 else ([],(symV p).2)
def ctAp:Ctr:=⟨[.sl uB,paS],λ x=>x.2.1.1=false,λ x=>[.win true uB 0 0 (apV x.1 x.2.1).1.length,.i (apV x.1 x.2.1).2],λ x=>[.row 5 uB (apV x.1 x.2.1).1]⟩
theorem ap_held:Held Tryz.prog G0 27 ctAp:=by
 refine Held.run cxQ (fn:=Tryz.f27) rfl rfl ⟨by decide,by decide⟩ ?_;rintro ⟨old,⟨li,m,o,l⟩,⟨⟩⟩ hp;replace hp:li=false:=hp;subst hp;refine (qyx old false m o l _ _).mpr ⟨trivial,qag (λ h=>?_) (λ h=>?_)⟩
 ·have h:(symV (false,m,o,l)).2≠0:=of_decide_eq_true h;have hv:apV old (false,m,o,l)=([],(symV (false,m,o,l)).2):=if_neg h;refine qdd (e:=uB) (et:=5) (z:=(symV (false,m,o,l)).2) ?_ ?_ rfl (by decide)
  ·show [_,_]=_;rw[hv];rfl
  ·show [_]=_;rw[hv]
 ·have h:¬ (symV (false,m,o,l)).2≠0:=of_decide_eq_false h;have h:(symV (false,m,o,l)).2=0:=by simpa using h
  have hv:apV old (false,m,o,l)=plV old m (symV (false,m,o,l)).1:=if_pos h;have hl:=qy3 (false,m,o,l);have hw:winL syS 0 (symV (false,m,o,l)).1.length (symV (false,m,o,l)).1=(symV (false,m,o,l)).1:=winA (e:=syS) _;rw[bc_f,hw];refine ⟨Nat.le_of_eq (Nat.zero_add _),hl,?_⟩;refine qgo (e:=uB) (et:=5) (a:=1118784) (z:=(plV old m (symV (false,m,o,l)).1).2) (xs:=(plV old m (symV (false,m,o,l)).1).1) ?_ ?_ rfl rfl rfl
  ·show [_,_]=_;rw[hv]
  ·show [_]=_;rw[hv]
def ctInG:Ctr:=⟨[.sl uB,iI],λ x=>preI x.2.1,λ x=>[.sl uB (inpL x.1 x.2.1.toNat)],λ _=>[]⟩
def ctApF:Ctr:=⟨[.sl uB,paS],λ x=>x.2.1.1=false,λ x=>[.sl uB (apV x.1 x.2.1).1,.i (apV x.1 x.2.1).2],λ _=>[]⟩
set_option maxRecDepth 100000
theorem fo_ok {p:PaT} (h:(chkV p).2=0) (hs:p.2.2.1<=4096):foV p=((p.1,p.2.1,p.2.2.1,chL (symF p.2.2.2)),0)/\(chkV (p.1,p.2.1,p.2.2.1,chL (symF p.2.2.2))).2=0/\symF (chL (symF p.2.2.2))=symF p.2.2.2/\qgb 0 (chL (symF p.2.2.2))=cst (symF p.2.2.2)/\(chL (symF p.2.2.2)).length<=4096:=by
 obtain ⟨hr,hl,ho,hn⟩:=qew h;have hi:=qx1 h;have sl:=qfv hr;have so:=qu3 hi.1 (by omega) hr;obtain ⟨q1,q2,q3,q4,q5,q6⟩:=qrk so hi.1 hi.2 (by omega);have e:((symF p.2.2.2).length:Int)=p.2.2.1:=by omega
 rw[e] at q1 q6;have hv:symV p=(symF p.2.2.2,0):=by unfold symV;rw[if_pos h]
 refine ⟨?_,q6,q2,qql so hi.1 hi.2 (by omega),q5⟩;unfold foV;rw[hv];simp only[q1];rfl
abbrev nfP (li:Bool) (m:Int) (s:List SyT):PaT:=(li,m,(s.length:Int),chL s)
theorem q5o {s:List SyT} {m:Int} (li:Bool) (hr:∀ x∈s,sOK m x=true) (h0:0<=m) (h1:m<=65536) (hl:s.length<=4096):(chkV (nfP li m s)).2=0/\symF (chL s)=s/\symV (nfP li m s)=(s,0):=by
 obtain ⟨q1,q2,q3,q4,q5,q6⟩:=qrk hr h0 h1 hl;have q6:(chkV (nfP li m s)).2=0:=q6;refine ⟨q6,q2,?_⟩;unfold symV;rw[if_pos q6];exact Prod.ext q2 rfl
theorem qq5 {p:PaT} (h:(chkV p).2=0):(symV p).2=0/\((symV p).1.length:Int)=p.2.2.1:=by
 have hs:(symV p).2=0:=by unfold symV;rw[if_pos h]
 exact ⟨hs,(qc6 hs).2.2⟩
theorem q3d {old:List Int} {p:PaT} (h:(chkV p).2=0) (ho:(old.length:Int)=p.2.1):apV old p=((symV p).1.map (ruB old),0):=by
 have hs:=qq5 h;unfold apV;rw[if_pos hs.1];unfold plV;rw[if_pos ho];unfold runV;rw[if_pos];refine List.all_eq_true.2 λ x hx=>?_
 have:=(qc6 hs.1).1 x hx;rw[<- ho] at this;unfold sOK at this;unfold ruOK;split at this
 next q=>rw[q];simpa using this
 next q=>simp[q]
theorem sz_ok {t:List (List Int)} {m:Int} (ht:qm3 t) (h0:0<=m) (h1:m<=65536):(chkV (szV t m)).2=0/\(symV (szV t m)).1.length<=30:=by
 have hc:(chkV (szV t m)).2=0:=by rw[q4c ht h0 h1]
 have:=(qq5 hc).2;have h2:=qu0 ht h0;refine ⟨hc,?_⟩;have:((symV (szV t m)).1.length:Int)=lenS (szO t m):=this;omega
theorem q0m:Held Tryz.prog G0 26 ctInG:=by
 have h:=inp_held.frz (λ x _=>by
  show inL 0 (inpL x.1 x.2.1.toNat).length [SV.win true uB 0 0 (inpL x.1 x.2.1.toNat).length]/\True
  exact ⟨⟨λ _=>by omega,trivial⟩,trivial⟩)
 refine h.iff rfl (λ x h=>h) (λ x _=>?_) (λ x _=>rfl)
 show [SV.sl uB (inpL x.1 x.2.1.toNat)]=[SV.sl uB (winL uB 0 (inpL x.1 x.2.1.toNat).length (inpL x.1 x.2.1.toNat))]
 rw[winA (e:=uB)]
theorem q1m:Held Tryz.prog G0 27 ctApF:=by
 have h:=ap_held.frz (λ x _=>by
  show inL 0 (apV x.1 x.2.1).1.length [SV.win true uB 0 0 (apV x.1 x.2.1).1.length,SV.i (apV x.1 x.2.1).2]/\True
  exact ⟨⟨λ _=>by omega,⟨trivial,trivial⟩⟩,trivial⟩)
 refine h.iff rfl (λ x h=>h) (λ x _=>?_) (λ x _=>rfl)
 show [SV.sl uB (apV x.1 x.2.1).1,SV.i (apV x.1 x.2.1).2]=[SV.sl uB (winL uB 0 (apV x.1 x.2.1).1.length (apV x.1 x.2.1).1),SV.i (apV x.1 x.2.1).2]
 rw[winA (e:=uB)]
theorem qnt {p:PaT} (h:(chkV p).2=0):(∀ y∈p.2.2.2,k14 y)/\List.length p.2.2.2<1099511627776:=by
 have ck:=qew h;exact ⟨qs3 ck.1,by have:=ck.2.2.2;omega⟩
end Go.Proofs.YtdeacfammdjajaaGreatDoor
namespace Go.Proofs.YtdeacfammdjajaaGreatDoor.Im
open Go.Px Go.Ax
set_option maxRecDepth 100000
theorem q2w (n:Int):∀ (nm:List (List UInt8)) (at_:Int) (l:List Raw),(mkF n nm at_ l).length<=nm.length
 | [],_,_=>by rw[mkF];exact Nat.le_refl _;intros;contradiction
 | _::_,_,[]=>by rw[mkF];exact Nat.zero_le _;intros;contradiction
 | nm::nms,at_,r::l=>by
  rw[mkF];split
  ·exact Nat.zero_le _
  ·have:=q2w n nms (qjf nm at_ r).2.2.1 l;rw[List.length_cons,List.length_cons];omega
theorem quv (n:Int):∀ (nms:List (List UInt8)) (at_:Int) (raw:List Raw) (d:List Sec),(∀ r∈raw,rawOK r)->0<=at_->nms.Nodup->(∀ nm∈nms,qnd nm=true)->(∀ s∈d,s.1 ∉ nms)->valF n d at_ (mkF n nms at_ raw)=true
 | [],_,_,_,_,_,_,_,_=>by rw[mkF];rfl;intros;contradiction
 | _::_,_,[],_,_,_,_,_,_=>by rw[mkF];rfl;intros;contradiction
 | nm::nms,at_,r::l,d,hr,ha,hnd,hnm,hd=>by
  rw[mkF];split
  ·rfl
  next hle=>
   have hr0:=hr r (by simp);obtain ⟨g,w,od,c⟩:=r;obtain ⟨⟨h1,h2⟩,⟨h3,h4⟩,h5,h6⟩:=hr0;have h1:0<=g:=h1;have h3:0<=w:=h3;have h5:0<=od:=h5;have hnd:=List.nodup_cons.1 hnd;have hs1:(qjf nm at_ (g,w,od,c)).1=nm:=by cases c <;> rfl
   have hto:0<=(qjf nm at_ (g,w,od,c)).2.2.1:=by
    cases c with
    | true=>show 0<=(at_+g % 8+3) / 4*4+4+4*(w % 8);omega
    | false=>show 0<=at_+g % 8+1+4*(w % 8)+od % 4;omega
   have ih:=quv n nms (qjf nm at_ (g,w,od,c)).2.2.1 l (d++[qjf nm at_ (g,w,od,c)]) (λ r hr'=>hr r (by simp[hr'])) hto hnd.2 (λ x hx=>hnm x (by simp[hx])) (λ s hs=>by
    rcases List.mem_append.1 hs with hs | hs
    ·exact λ q=>hd s hs (by simp[q])
    ·rw[List.mem_singleton] at hs
     rw[hs,hs1];exact hnd.1)
   have hh:hasN d nm=false:=by
    unfold hasN;rw[List.any_eq_false];intro s hs;have:=hd s hs;simp only[decide_eq_true_eq];rintro rfl;exact this (by simp)
   have hp:plcB at_ n (qjf nm at_ (g,w,od,c))=true:=by
    cases c with
    | true=>
     have hle:¬ n<(at_+g % 8+3) / 4*4+4+4*(w % 8):=hle;refine decide_eq_true ⟨?_,?_,?_,λ _=>⟨?_,?_⟩⟩
     ·show at_<=(at_+g % 8+3) / 4*4;omega
     ·show (at_+g % 8+3) / 4*4<(at_+g % 8+3) / 4*4+4+4*(w % 8);omega
     ·show (at_+g % 8+3) / 4*4+4+4*(w % 8)<=n;omega
     ·show ((at_+g % 8+3) / 4*4).tmod 4=0
      rw[Int.tmod_eq_emod_of_nonneg (by omega)];omega
     ·show ((at_+g % 8+3) / 4*4+4+4*(w % 8)).tmod 4=0
      rw[Int.tmod_eq_emod_of_nonneg (by omega)];omega
    | false=>
     have hle:¬ n<at_+g % 8+1+4*(w % 8)+od % 4:=hle;refine decide_eq_true ⟨?_,?_,?_,λ q=>by cases q⟩
     ·show at_<=at_+g % 8;omega
     ·show at_+g % 8<at_+g % 8+1+4*(w % 8)+od % 4;omega
     ·show at_+g % 8+1+4*(w % 8)+od % 4<=n;omega
   rw[valF,hs1,hnm nm (by simp),hh,hp,ih];rfl
theorem mk_valid {raw:List Raw} {n:Int} (h:∀ r∈raw,rawOK r):validB (mk raw n) n=true:=by
 have hl:=q2w n nmL 0 raw;have h8:nmL.length=8:=rfl;unfold validB;rw[decide_eq_true (show (mk raw n).length<=8 from by rw[<- h8];exact hl),Bool.true_and];exact quv n nmL 0 raw [] h (Int.le_refl _) (by decide) (by decide) (λ s hs=>by cases hs)
theorem qrt (n:Int):∀ (nm:List (List UInt8)) (at_:Int) (l:List Raw),∀ s∈mkF n nm at_ l,s.1∈nm
 | [],_,_,s,hs=>by rw[mkF] at hs;cases hs;intros;contradiction
 | _::_,_,[],s,hs=>by rw[mkF] at hs;cases hs;intros;contradiction
 | nm::nms,at_,r::l,s,hs=>by
  rw[mkF] at hs;split at hs
  ·cases hs
  ·rcases List.mem_cons.1 hs with rfl | hs
   ·obtain ⟨g,w,od,c⟩:=r
    cases c <;> simp[qjf]
   ·exact List.mem_cons_of_mem _ (qrt n nms _ l s hs)
def okNs (l:List Sec):Prop:=∀ s∈l,s.1.length<2 ^ 62
theorem mk_ok (raw:List Raw) (n:Int):okNs (mk raw n):=λ s hs=>by
 have:=qrt n nmL 0 raw s hs;have h:∀ x∈nmL,x.length<2 ^ 62:=by decide
 exact h _ this
end Go.Proofs.YtdeacfammdjajaaGreatDoor.Im
namespace Go.Proofs.YtdeacfammdjajaaGreatDoor
open Go.Px Go.Ax
set_option maxRecDepth 100000
def ctSplF:Ctr:=⟨[paS,.sl seS],λ x=>∀ s∈(show List SecT from x.2.1),s.1.length<2 ^ 62,λ x=>[.sl paS (splV x.1 x.2.1).1,.i (splV x.1 x.2.1).2],λ _=>[]⟩
def ctMkF:Ctr:=⟨[.sl Im.rwS,iI],λ x=>Im.preMk x.1 x.2.1,λ x=>[.sl seS (Im.mk x.1 x.2.1)],λ _=>[]⟩
def CSs:CV:=[(24,.inl ctSn12),(10,.inl ctM6),(26,.inl ctInG),(27,.inl ctApF),(28,.inl ctSplF),(25,.inl ctMkF),(30,.inl ctR2),(29,.inl ctFo),(31,.inl ctCost)]
set_option maxRecDepth 100000
theorem vc_ss (x:Int × List (List Int)) (r:List (Int × Int × Int × Bool)) (b:List Int) (Q:List SV->Prop) (R:List Item->PS->Prop):sA CSs Tryz.f4 (λ rs _=>Q rs) (λ it S=>R it (qbr [6,7,9,10,11,13,15,17] [15] S)) [.code (qae Tryz.f4)] (entry [raS,.sl Im.rwS,.sl uB] (x,r,b,())) =
  (ctSn12.pre ()/\ctM6.pre ((x.1,x.2),())/\ctMkF.pre (r,(szV x.2 (x.1 % (13:Int))).2.2.1,())/\ctInG.pre (b,(szV x.2 (x.1 % (13:Int))).2.1,())/\ctApF.pre (inpL b (szV x.2 (x.1 % (13:Int))).2.1.toNat,(szV x.2 (x.1 % (13:Int))),())/\ctSplF.pre ((szV x.2 (x.1 % (13:Int))),Im.mk r (szV x.2 (x.1 % (13:Int))).2.2.1,())/\ctFo.pre ((szV x.2 (x.1 % (13:Int))),())/\bc (decide ((apV (inpL b (szV x.2 (x.1 % (13:Int))).2.1.toNat) (szV x.2 (x.1 % (13:Int)))).2≠0)) (true=true/\true=true/\true=true/\true=true/\Q [.bool false]) (bc (bif false then true else decide ((splV (szV x.2 (x.1 % (13:Int))) (Im.mk r (szV x.2 (x.1 % (13:Int))).2.2.1)).2≠0)) (true=true/\true=true/\true=true/\Q [.bool false]) (bc (bif false then true else decide ((foV (szV x.2 (x.1 % (13:Int)))).2≠0)) (true=true/\true=true/\Q [.bool false]) (bc (bif false then true else decide ((↑(splV (szV x.2 (x.1 % (13:Int))) (Im.mk r (szV x.2 (x.1 % (13:Int))).2.2.1)).1.length:Int)≠(↑(Im.mk r (szV x.2 (x.1 % (13:Int))).2.2.1).length:Int))) (true=true/\Q [.bool false]) (bc (bif false then true else decide ((↑(apV (inpL b (szV x.2 (x.1 % (13:Int))).2.1.toNat) (szV x.2 (x.1 % (13:Int)))).1.length:Int)≠(szV x.2 (x.1 % (13:Int))).2.2.1)) (Q [.bool false]) (R (hd Tryz.f4 0) { env:=[(6,.bool false),(7,.bool true),(9,.sl seS (Im.mk r (szV x.2 (x.1 % (13:Int))).2.2.1)),(10,.sl uB (inpL b (szV x.2 (x.1 % (13:Int))).2.1.toNat)),(11,.sl uB (apV (inpL b (szV x.2 (x.1 % (13:Int))).2.1.toNat) (szV x.2 (x.1 % (13:Int)))).1),(13,.sl paS (splV (szV x.2 (x.1 % (13:Int))) (Im.mk r (szV x.2 (x.1 % (13:Int))).2.2.1)).1),(15,.ptr 15 0),(17,.i 0)],blk:=[(15,.var [.bool (foV (szV x.2 (x.1 % (13:Int)))).1.1,.i (foV (szV x.2 (x.1 % (13:Int)))).1.2.1,.i (foV (szV x.2 (x.1 % (13:Int)))).1.2.2.1,.sl opS (foV (szV x.2 (x.1 % (13:Int)))).1.2.2.2])] })))))):=by kernel_rfl
theorem q16 (q:PaT) (l:List PaT) (c:List SecT) (old all:List Int) (i:Nat) (Q:List SV->Prop) (R:List Item->PS->Prop):sA CSs Tryz.f4 (λ rs _=>Q rs) (λ it S=>R it (qbr [6,7,9,10,11,13,15,17] [15] S)) (hd Tryz.f4 0) ⟨[(6,.bool false),(7,.bool true),(9,.sl seS c),(10,.sl uB old),(11,.sl uB all),(13,.sl paS l),(15,.ptr 15 0),(17,.i (i:Nat))],[(15,.var [.bool q.1,.i q.2.1,.i q.2.2.1,.sl opS q.2.2.2])]⟩ =
  (bc (decide ((i:Int)<(l.length:Int))) ((0:Int)<=(i:Int)/\(i:Int)<(l.length:Int)/\ctApF.pre (old,(gtP l (i:Int).toNat),())/\bc (decide ((apV old (gtP l (i:Int).toNat)).2≠0)) (true=true/\true=true/\Q [.bool false]) ((0:Int)<=(i:Int)/\(i:Int)<(c.length:Int)/\(0:Int)<=(i:Int)/\(i:Int)<(c.length:Int)/\(0:Int)<=(gt seS c (i:Int).toNat).2.1/\(gt seS c (i:Int).toNat).2.1<=(gt seS c (i:Int).toNat).2.2.1/\(gt seS c (i:Int).toNat).2.2.1<=(all.length:Int)/\ctR2.pre ((apV old (gtP l (i:Int).toNat)).1,Px.part all (some (gt seS c (i:Int).toNat).2.1) (some (gt seS c (i:Int).toNat).2.2.1),())/\bc (bif false then true else !decide ((have this:=(apV old (gtP l (i:Int).toNat)).1;this)=Px.part all (some (gt seS c (i:Int).toNat).2.1) (some (gt seS c (i:Int).toNat).2.2.1))) (true=true/\Q [.bool false]) ((0:Int)<=(i:Int)/\(i:Int)<(l.length:Int)/\ctCost.pre ((gtP l (i:Int).toNat),())/\ctCost.pre (q,())/\bc (bif false then true else decide (qgb (0:Int) q.2.2.2<qgb (0:Int) (gtP l (i:Int).toNat).2.2.2)) (Q [.bool false]) (R (hd Tryz.f4 0) { env:=[(6,.bool false),(7,.bool true),(9,.sl seS c),(10,.sl uB old),(11,.sl uB all),(13,.sl paS l),(15,.ptr 15 0),(17,.i (IntKind.i64.wrap ((i:Int)+1)))],blk:=[(15,.var [.bool q.1,.i q.2.1,.i q.2.2.1,.sl opS q.2.2.2])] })))) (Q [.bool true])):=by kernel_rfl
def pcP (m:Int) (q:List SyT):PaT:=(false,m,(q.length:Int),chL q)
theorem qxz:∀ (l:List (PaT × Int)) (o:List PaT),(∀ x∈l,x.2=0)->colF l o=(o++l.map Prod.fst,0)
 | [],o,_=>by rw[colF,List.map_nil,List.append_nil]
 | x::l,o,h=>by
  rw[colF,decide_eq_false (by rw[h x (List.mem_cons_self ..)];simp)]
  show colF l (o++[x.1])=_
  rw[qxz l _ λ y hy=>h y (List.mem_cons_of_mem _ hy),List.map_cons,List.append_assoc];rfl
theorem q9i {s:List SyT} {m:Int} (hs:∀ x∈s,sOK m x=true) (h0:0<=m) (h1:m<=65536) {L:List (List SyT)} (hL:∀ q∈L,(∀ x∈q,x∈s)/\q.length<=4096):colF (L.map (cpV · m)) []=(L.map (pcP m),0):=by
 have e:∀ q∈L,cpV q m=(pcP m q,0):=λ q hq=>q9h (λ x hx=>hs x ((hL q hq).1 x hx)) h0 h1 (hL q hq).2
 rw[qxz]
 ·rw[List.nil_append,List.map_map]
  congr 1
  exact List.map_congr_left λ q hq=>by rw[Function.comp,e q hq]
 ·intro x hx;obtain ⟨q,hq,rfl⟩:=List.mem_map.1 hx
  show (cpV q m).2=0
  rw[e q hq]
theorem pc_ok {q:List SyT} {m:Int} (hs:∀ x∈q,sOK m x=true) (h0:0<=m) (h1:m<=65536) (hl:q.length<=4096):(chkV (pcP m q)).2=0/\symV (pcP m q)=(q,0):=by
 have:=q5o false hs h0 h1 hl;exact ⟨this.1,this.2.2⟩
theorem qqk {s:List SyT} {a b:Int}:∀ x∈cutS s a b,x∈s:=λ x hx=>List.mem_of_mem_take (List.mem_of_mem_drop hx)
theorem q6l {s:List SyT} {a b:Int} (h0:0<=a) (h:a<=b) (h2:b<=s.length):((cutS s a b).length:Int)=b-a:=by
 show ((((s.take b.toNat).drop a.toNat).length:Nat):Int)=_
 rw[List.length_drop,List.length_take];omega
theorem q4s {p:PaT} {l:List SecT} (h:(chkV p).2=0) (hl:p.1=false) (hm:0<=p.2.1/\p.2.1<=65536) (h4:(symV p).1.length<=4096) (hv:Im.validB l p.2.2.1=true) :
  splV p l=((secF (symV p).1 l).map (pcP p.2.1),0):=by
 have hs:=qq5 h;have hr:=(qc6 hs.1).1;unfold splV;rw[q41 hs.1 hl,decide_eq_false (by simp),hv];refine q9i hr hm.1 hm.2 λ q hq=>?_
 obtain ⟨x,_,rfl⟩:=List.mem_map.1 hq;refine ⟨qqk,?_⟩
 show (((symV p).1.take _).drop _).length<=4096
 rw[List.length_drop,List.length_take];omega
theorem q03 {s:List SyT} {m a b:Int} (hs:∀ x∈s,sOK m x=true) (h0:0<=m) (h1:m<=65536) (hl:s.length<=4096):qgb 0 (pcP m (cutS s a b)).2.2.2<=qgb 0 (chL s):=by
 have hc:(cutS s a b).length<=4096:=by
  show ((s.take _).drop _).length<=4096
  rw[List.length_drop,List.length_take];omega
 show qgb 0 (chL (cutS s a b))<=_
 rw[qql (λ x hx=>hs x (qqk x hx)) h0 h1 hc,qql hs h0 h1 hl];have k1:=q04 s.length s (Nat.le_refl _) (by omega) b.toNat;have k2:=qsd (l:=s.take b.toNat) (by rw[List.length_take];omega) a.toNat;exact Int.le_trans k2 k1
theorem q6k {s:List SyT} {a b:Int} {old:List Int}:(cutS s a b).map (ruB old)=((s.map (ruB old)).take b.toNat).drop a.toNat:=by
 show ((s.take b.toNat).drop a.toNat).map _=_
 rw[List.map_drop,List.map_take]
attribute [local irreducible] Go.Px.sy Go.Px.syE
theorem qva:Held Tryz.prog G0 28 ctSplF:=by
 have h:=spl_held.frz (λ x _=>by
  show inL 0 (splV x.1 x.2.1).1.length [SV.win true paS 0 0 (splV x.1 x.2.1).1.length,SV.i (splV x.1 x.2.1).2]/\True
  exact ⟨⟨λ _=>by omega,⟨trivial,trivial⟩⟩,trivial⟩)
 refine h.iff rfl (λ x h=>h) (λ x _=>?_) (λ x _=>rfl)
 show [SV.sl paS (splV x.1 x.2.1).1,SV.i (splV x.1 x.2.1).2]=[SV.sl paS (winL paS 0 (splV x.1 x.2.1).1.length (splV x.1 x.2.1).1),SV.i (splV x.1 x.2.1).2]
 rw[winA (e:=paS)]
theorem qz7:Held Tryz.prog G0 25 ctMkF:=by
 have h:=Im.mk_held.frz (λ x _=>by
  show inL 0 (Im.mk x.1 x.2.1).length [SV.win true seS 0 0 (Im.mk x.1 x.2.1).length]/\True
  exact ⟨⟨λ _=>by omega,trivial⟩,trivial⟩)
 refine h.iff rfl (λ x h=>h) (λ x _=>?_) (λ x _=>rfl)
 show [SV.sl seS (Im.mk x.1 x.2.1)]=[SV.sl seS (winL seS 0 (Im.mk x.1 x.2.1).length (Im.mk x.1 x.2.1))]
 rw[winA (e:=seS)]
theorem cxSs:CxOK Tryz.prog tt G0 CSs:=((((((((cx0.k qxy (fn:=Tryz.f31)).k q6f (fn:=Tryz.f29)).k q4z (fn:=Tryz.f30)).k qz7 (fn:=Tryz.f25)).k qva (fn:=Tryz.f28)).k q1m (fn:=Tryz.f27)).k q0m (fn:=Tryz.f26)).k qti (fn:=Tryz.f10)).k qvb (fn:=Tryz.f24)
abbrev GDss (it:List Item) (S:PS):Prop:=GD 4 Tryz.f4 (λ rs _=>rs=[.bool true]) it S
theorem q4q {m:Int} {old:List Int} {s:List SyT} {c:List SecT} (hm:0<=m/\m<=65536) (hs:∀ x∈s,sOK m x=true) (h4:s.length<=4096) (ho:(old.length:Int)=m) (hc:∀ x∈c,0<=x.2.1/\x.2.1<x.2.2.1/\x.2.2.1<=(s.length:Int)) (hl:c.length<=8) (q:PaT) (hq:q.2.2.2=chL s) :
  ∀ (j i:Nat),c.length-i=j->i<=c.length ->
  GDss (hd Tryz.f4 0) ⟨[(6,.bool false),(7,.bool true),(9,.sl seS c),(10,.sl uB old),(11,.sl uB (s.map (ruB old))),(13,.sl paS ((secF s c).map (pcP m))),(15,.ptr 15 0),(17,.i (i:Nat))],[(15,.var [.bool q.1,.i q.2.1,.i q.2.2.1,.sl opS q.2.2.2])]⟩:=by
 have hL:((secF s c).map (pcP m)).length=c.length:=by rw[List.length_map,secF,List.length_map]
 have kq:∀ y∈q.2.2.2,k14 y:=by rw[hq];exact (qnt (q5o false hs hm.1 hm.2 h4).1).1
 have kl:List.length q.2.2.2<1099511627776:=by rw[hq];exact (qnt (q5o false hs hm.1 hm.2 h4).1).2
 intro j
 induction j with
 | zero=>
  intro i hj hi;refine qat cxSs (q16 q _ c old (s.map (ruB old)) i _ _) ?_;rw[hL,decide_eq_false (show ¬ (i:Int)<(c.length:Int) by omega),bc_f]
 | succ j ih=>
  intro i hj hi;have hil:i<c.length:=by omega
  have hiL:i<((secF s c).map (pcP m)).length:=by omega
  have eg:gtP ((secF s c).map (pcP m)) i=pcP m (cutS s c[i].2.1 c[i].2.2.1):=by
   rw[qht hiL,List.getElem_map];unfold secF;rw[List.getElem_map]
  have es:gt seS c i=c[i]:=qxc hil;have hci:=hc _ (List.getElem_mem hil);generalize c[i]=x at *;have hcl:((cutS s x.2.1 x.2.2.1).length:Int)=x.2.2.1-x.2.1:=q6l hci.1 (by omega) hci.2.2;have hR:∀ y∈cutS s x.2.1 x.2.2.1,sOK m y=true:=λ y hy=>hs y (qqk y hy)
  have hp:=pc_ok hR hm.1 hm.2 (by omega);have ea:=q3d (old:=old) (p:=pcP m (cutS s x.2.1 x.2.2.1)) hp.1 ho;rw[hp.2] at ea;have hcost:=q03 (a:=x.2.1) (b:=x.2.2.1) hs hm.1 hm.2 h4;rw[<- hq] at hcost;have nx:=ih (i+1) (by omega) (by omega);refine qat cxSs (q16 q _ c old (s.map (ruB old)) i _ _) ?_;rw[hL,decide_eq_true (show (i:Int)<(c.length:Int) by omega),bc_t,IntWalk.i64_in ((i:Int)+1) (by omega)];simp only[Int.toNat_natCast,eg,es,ea,ne_eq,not_true_eq_false,decide_false,bc_f,cond_false];have ecut:Px.part (s.map (ruB old)) (some x.2.1) (some x.2.2.1)=(cutS s x.2.1 x.2.2.1).map (ruB old):=by rw[q6k];rfl
  rw[ecut];simp only[decide_true,Bool.not_true,bc_f];rw[decide_eq_false (show ¬ qgb 0 q.2.2.2<qgb 0 (pcP m (cutS s x.2.1 x.2.2.1)).2.2.2 by omega),bc_f];have hr2:((cutS s x.2.1 x.2.2.1).map (ruB old)).length<1099511627776:=by rw[List.length_map];omega
  refine ⟨by omega,by omega,rfl,by omega,by omega,by omega,by omega,hci.1,Int.le_of_lt hci.2.1,by rw[List.length_map];exact hci.2.2,hr2,by omega,by omega,qnt hp.1,⟨kq,kl⟩,?_⟩;exact nx.only ⟨rfl,rfl,rfl,rfl,rfl,rfl,rfl,rfl,trivial⟩ ⟨rfl,trivial⟩
abbrev RmT2:Type:=Int × List (List Int)
def preSs (x:RmT2) (r:List Im.Raw):Prop:=qv1 x.1 x.2/\∀ y∈r,Im.rawOK y
def ctSs:Ctr:=⟨[raS,.sl Im.rwS,.sl uB],λ x=>preSs x.1 x.2.1,λ _=>[.bool true],λ _=>[]⟩
theorem q8k (x:RmT2) (r:List Im.Raw) (b:List Int) (hx:qv1 x.1 x.2) (hr:∀ y∈r,Im.rawOK y):GDss [.code (qae Tryz.f4)] (entry [raS,.sl Im.rwS,.sl uB] (x,r,b,())):=by
 obtain ⟨hz,ht,hlen⟩:=hx;have hm:0<=x.1 % 13/\x.1 % 13<=12:=by omega
 obtain ⟨hp,h30⟩:=sz_ok (t:=x.2) (m:=x.1 % 13) ht hm.1 (by omega);have hpm:(szV x.2 (x.1 % 13)).2.1=x.1 % 13:=rfl;have hp1:(szV x.2 (x.1 % 13)).1=false:=rfl;refine qat cxSs (vc_ss x r b _ _) ?_;rw[hpm];generalize szV x.2 (x.1 % 13)=p at *;have hsl:=qq5 hp;have hv:=Im.mk_valid (raw:=r) (n:=p.2.2.1) hr;have hvi:=qq3 hv;have v1:=q4s (p:=p) (l:=Im.mk r p.2.2.1) hp hp1 (by omega) (by omega) hv;have hin:(inpL b (x.1 % 13).toNat).length=(x.1 % 13).toNat:=qr2 _ _;have ea:=q3d (old:=inpL b (x.1 % 13).toNat) hp (by omega);have ef:=(fo_ok hp (by have:=hsl.2;omega)).1;have e3:(symF p.2.2.2)=(symV p).1:=(qpq hsl.1).2.symm;rw[e3] at ef;have hL:((secF (symV p).1 (Im.mk r p.2.2.1)).map (pcP p.2.1)).length=(Im.mk r p.2.2.1).length:=by rw[List.length_map,secF,List.length_map]
 have hA:((((symV p).1.map (ruB (inpL b (x.1 % 13).toNat))).length:Nat):Int)=p.2.2.1:=by rw[List.length_map];exact hsl.2
 simp only[v1,ea,ef,ne_eq,not_true_eq_false,decide_false,cond_false,bc_f,hL,hA];have pI:preI (x.1 % 13):=⟨by omega,by omega⟩;have hout:0<=p.2.2.1/\p.2.2.1<100000:=by have:=hsl.2;omega
 refine ⟨trivial,⟨hz,ht,hlen⟩,⟨hr,hout⟩,pI,hp1,Im.mk_ok r _,trivial,?_⟩;have g:=q4q (m:=x.1 % 13) (old:=inpL b (x.1 % 13).toNat) (s:=(symV p).1) (c:=Im.mk r p.2.2.1) ⟨by omega,by omega⟩ (by have:=(qc6 hsl.1).1;rw[hpm] at this;exact this) (by omega) (by omega) (λ y hy=>by rw[hsl.2];exact hvi.2 y hy) hvi.1 (p.1,p.2.1,p.2.2.1,chL (symV p).1) rfl _ 0 rfl (Nat.zero_le _);rw[hpm] at g |-;exact g.only ⟨rfl,rfl,rfl,rfl,rfl,rfl,rfl,rfl,trivial⟩ ⟨rfl,trivial⟩
theorem q4r:Held Tryz.prog G0 4 ctSs:=Held.of cxSs (fn:=Tryz.f4) rfl rfl ⟨by decide,by decide⟩ λ ⟨x,r,b,_⟩ hp=>(q8k x r b hp.1 hp.2).post λ rs blk hq=>QC.flat (by rw[hq];rfl) rfl (by rw[hq];rfl)
abbrev u8L (b:List Int):Prop:=∀ j,0<=gtB b j/\gtB b j<256
theorem quy {n:Int} (h:wfD uB n):0<=n/\n<256:=by
 have h:(Lit.int IntKind.u8 n).wf=true:=h;simp[Lit.wf,IntKind.min,IntKind.max,IntKind.signed,IntKind.bits] at h;omega
theorem q8a {l:List Int} (h:∀ x∈l,wfD uB x):u8L l:=λ j=>by
 by_cases hj:j<l.length
 ·rw[qoy hj];exact quy (h _ (List.getElem_mem hj))
 ·have:gtB l j=0:=by
   show gt uB _ _=_
   unfold gt;rw[List.getElem?_eq_none (by omega)];rfl
  rw[this];decide
theorem l4_of {l:List (List Int)} (h:∀ x∈l,wfD a4S x):qm3 l:=λ j=>by
 by_cases hj:j<l.length
 ·have e:gt a4S l j=l[j]:=gtE (e:=a4S) hj;rw[e];exact q8a (h _ (List.getElem_mem hj)).2
 ·have:gt a4S l j=List.replicate 4 (0:Int):=by
   unfold gt;rw[List.getElem?_eq_none (by omega)];rfl
  rw[this];exact q8a λ x hx=>by
   rw[List.eq_of_mem_replicate hx];rfl
theorem m6_of {x:Int × List (List Int)} (h:wfD raS x):qv1 x.1 x.2:=⟨quy h.1,l4_of h.2.2,h.2.1⟩
theorem qt3 {g:Nat} {x:ABlk} (h:rawG.get g=some x):(g=0/\x=.cells qhw 222 2)\/(g=1/\x=.cells qhp 230 2):=by
 unfold rawG T.get at h;split at h
 next e=>cases h;exact .inl ⟨e,rfl⟩
 next h0=>
  split at h
  next h1=>
   unfold T.get at h;split at h
   next h2=>cases h;exact .inr ⟨by omega,rfl⟩
   ·split at h <;> simp[T.get] at h
  ·simp[T.get] at h
theorem hG:Glob G0.raw:=⟨λ g x h=>by rcases qt3 h with ⟨rfl,_⟩ | ⟨rfl,_⟩ <;> decide,λ g x h=>by rcases qt3 h with ⟨_,rfl⟩ | ⟨_,rfl⟩ <;> decide⟩
abbrev H0:AHeap:=⟨qlk,G0.raw⟩
def Z0:Nat->Option ABlk:=λ g=>rawG.get g
theorem gz0:GZ Z0 G0:=by
 refine ⟨λ g x e=>?_,λ g x e=>e⟩;simp only[G0,lk] at e;split at e
 next h=>subst h;cases e;refine ⟨by decide,λ ν=>⟨0,0,qhw,222,2,rfl,rfl,by decide,?_⟩⟩;exact qvh (.arr 5 coS) costsL ⟨rfl,λ x _=>⟨trivial,trivial⟩⟩
 ·split at e
  next h=>subst h;cases e;refine ⟨by decide,λ ν=>⟨1,0,qhp,230,2,rfl,rfl,by decide,?_⟩⟩;exact qvh (.arr 9 kindSh) kindsL ⟨rfl,λ x _=>⟨trivial,trivial,trivial,trivial,trivial⟩⟩
  ·cases e
theorem fro0:Px.Fro G0 H0:=⟨λ i x h=>by rcases qt3 h with ⟨rfl,rfl⟩ | ⟨rfl,rfl⟩ <;> rfl,λ i x h=>by rcases qt3 h with ⟨rfl,rfl⟩ | ⟨rfl,rfl⟩ <;> trivial,λ i x h=>by rcases qt3 h with ⟨rfl,rfl⟩ | ⟨rfl,rfl⟩ <;> decide,gz0⟩
end Go.Proofs.YtdeacfammdjajaaGreatDoor
