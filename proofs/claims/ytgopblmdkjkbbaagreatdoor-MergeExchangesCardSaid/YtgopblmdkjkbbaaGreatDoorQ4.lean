/-
  A part of the proof: what pieces of the program give; conditions: those of each theorem.
-/
import Derived.Test.YtgopblmdkjkbbaaGreatDoorQ3
import Derived.Test.YtgopblmdkjkbbaaGreatDoorQ2
set_option linter.unusedVariables false
set_option linter.unusedSimpArgs false
namespace Go.Proofs.YtgopblmdkjkbbaaGreatDoor
open Go.Px Go.Ax
open Go.IntKind(i64 u32 u8)
set_option maxRecDepth 100000
attribute [local irreducible] Go.Px.sy Go.Px.syE
theorem qyk:HeldI Tryz.prog G0 83 ctWhT:=HeldI.run cx0 (fn:=Tryz.f83) rfl rfl ⟨by decide,by decide⟩ λ ⟨l,_,_⟩ _=>by
 refine (q76 l _ _).mpr ⟨[(0,2),(1,3)],?_,?_,by decide,λ p hp=>?_⟩
 rotate_left 2
 ·simp only[List.mem_cons,List.not_mem_nil,or_false] at hp;rcases hp with rfl | rfl <;> decide
 all_goals
  have p0:piOf [(0,2),(1,3)] 0=some 2:=by decide
  have p1:piOf [(0,2),(1,3)] 1=some 3:=by decide
 ·exact qbb (qtp qa8 (qbb (qko p0) (qbb (qko p1) qa8))) qa8
 ·exact ⟨.inl ⟨2,_,p0,rfl,_,rfl,qds _ _ rfl⟩,.inl ⟨3,_,p1,rfl,_,rfl,qbb (qtp qa8 qa8) qa8⟩,trivial⟩
theorem qym:HeldI Tryz.prog G0 83 ctWhC:=HeldI.run cx0 (fn:=Tryz.f83) rfl rfl ⟨by decide,by decide⟩ λ ⟨l,⟨_,⟨b,_⟩,_⟩,_⟩ _=>by
 refine (q78 l b _ _).mpr ⟨[(0,2),(1,3)],?_,?_,by decide,λ p hp=>?_⟩
 rotate_left 2
 ·simp only[List.mem_cons,List.not_mem_nil,or_false] at hp;rcases hp with rfl | rfl <;> decide
 all_goals
  have p0:piOf [(0,2),(1,3)] 0=some 2:=by decide
  have p1:piOf [(0,2),(1,3)] 1=some 3:=by decide
  have p2:piOf [(0,2),(1,3)] BIG=some BIG:=by decide
 ·exact qbb (qtp qa8 (qbb (qko p0) (qbb (qko p1) qa8))) qa8
 ·exact ⟨.inl ⟨2,_,p0,rfl,_,rfl,qds _ _ rfl⟩,.inl ⟨3,_,p1,rfl,_,rfl,qbb (qtp qa8 (qbb (qko p2) qa8)) qa8⟩,.inl ⟨BIG,_,p2,rfl,_,rfl,qds _ _ rfl⟩,trivial⟩
theorem qyl:HeldI Tryz.prog G0 89 ctWhR:=HeldI.run cx0 (fn:=Tryz.f89) rfl rfl ⟨by decide,by decide⟩ λ ⟨l,_,_⟩ _=>by
 refine (q77 l _ _).mpr ⟨[(0,2),(1,3)],?_,?_,by decide,λ p hp=>?_⟩
 rotate_left 2
 ·simp only[List.mem_cons,List.not_mem_nil,or_false] at hp;rcases hp with rfl | rfl <;> decide
 all_goals
  have p0:piOf [(0,2),(1,3)] 0=some 2:=by decide
  have p1:piOf [(0,2),(1,3)] 1=some 3:=by decide
 ·exact qbb (qtp qa8 (qbb (qko p0) (qbb (qko p1) qa8))) qa8
 ·exact ⟨.inl ⟨2,_,p0,rfl,_,rfl,qds _ _ rfl⟩,.inl ⟨3,_,p1,rfl,_,rfl,qbb (qtp qa8 qa8) qa8⟩,trivial⟩
def rngS (o:List (Int × Int)) (i:Int):List (Int × Int):=match decide (0<o.length/\(gtR o (o.length-1)).2=i) with
 | true=>o.set (o.length-1) ((gtR o (o.length-1)).1,i+1)
 | false=>o++[(i,i+1)]
def rngF:List Int->List (Int × Int)->List (Int × Int)
 | [],o=>o
 | i::r,o=>rngF r (rngS o i)
theorem qrj (o:List (Int × Int)) (i:Int):(rngS o i).length<=o.length+1:=by
 unfold rngS;split
 ·rw[List.length_set];omega
 ·rw[List.length_append];exact Nat.le_refl _
theorem qgk {α:Type} {p:Int->α->Bool}:∀ (l:List α) (i:Nat),∀ x∈whF p i l,(i:Int)<=x.1/\x.1<i+l.length
 | [],i,x,h=>by simp[whF] at h
 | s::r,i,x,h=>by
  have go:x∈whF p (i+1) r->(i:Int)<=x.1/\x.1<i+(s::r).length:=λ h=>by
   have:=qgk r (i+1) x h;rw[List.length_cons];omega
  rw[whF] at h;split at h
  ·rcases List.mem_cons.1 h with rfl | h
   ·rw[List.length_cons];simp only;omega
   ·exact go h
  ·exact go h
theorem qmu {α:Type} {p:Int->α->Bool}:∀ (l:List α) (i:Nat),(whF p i l).length<=l.length
 | [],i=>Nat.le_refl _
 | s::r,i=>by
  have:=qmu (p:=p) r (i+1);rw[whF];split
  ·rw[List.length_cons,List.length_cons];omega
  ·rw[List.length_cons];omega
def bkG (x:DI KG):List (Nat × LB):=[(BIG,.var [.win true rgS 0 0 x.1.1.length]),(0,.row 127 rgS x.1.1)]
theorem hdSr:hd Tryz.f82 0=.code (.rangeFunc (.tmp 6) #[7,8] (rfA Tryz.f82 0) (rfB Tryz.f82 0))::rfK Tryz.f82 0:=by kernel_rfl
theorem rndSr:rnd Tryz.f82 0=[.code (rfA Tryz.f82 0),.beginRound,.code (rfB Tryz.f82 0)]:=by kernel_rfl
theorem qgn {QL:AExit->Nat × Bool->DI KG->Prop} {g:Nat × Bool}:∀ (rs:List (Int × SyT)) (o:List (Int × Int)),(∀ x∈rs,0<=x.1/\x.1<1000000)->o.length+rs.length<2 ^ 30->QL .normal g ((rngF (rs.map (·.1)) o,()),()) ->
  ql0 Tryz.prog G0 82 Tryz.f82.ntmps Y0 [3] [7,8] KG ySy (rfA Tryz.f82 0) (rfB Tryz.f82 0) QL (rs.map yS) g ((o,()),())
 | [],o,_,_,h=>h
 | (i,s)::rs,o,hb,hl,h=>by
  rw[List.length_cons] at hl;obtain ⟨hb0,hb1⟩:0<=i/\i<1000000:=hb (i,s) (by simp);have k:=qgn (QL:=QL) (g:=g) rs (rngS o i) (λ x hx=>hb x (by simp[hx])) (by have:=qrj o i;omega) h
  show GoodE Tryz.prog G0 82 Tryz.f82.ntmps .ready Y0 _ [.code (rfA Tryz.f82 0),.beginRound,.code (rfB Tryz.f82 0)] g (qdu [3] [7,8] KG ySy ((o,()),()) (i,s,()))
  rw[<- rndSr];have e1:i64.wrap (i+1)=i+1:=IntWalk.i64_in _ (by omega);have new:rngS o i=o++[(i,i+1)]->0+1<=([(i,i64.wrap (i+(1:Int)))]:List rgS.D).length/\o.length=o.length/\(0:Nat)=0/\o.length+([(i,i64.wrap (i+(1:Int)))]:List rgS.D).length<2 ^ 30/\16<=2 ^ 10:=λ _=>⟨Nat.le_refl _,rfl,rfl,by simp only[List.length_singleton];omega,by decide⟩
  refine qc7 cx0 (q4c o i s g.1 g.2 _ _) (qaf (λ hp=>?_) (λ hp=>⟨rfl,?_⟩))
  ·have hp:=of_decide_eq_true hp;have e2:i64.wrap ((o.length:Int)-1)=((o.length-1:Nat):Int):=by rw[IntWalk.i64_in _ (by omega)];omega
   simp only[e2,Int.toNat_natCast,Nat.zero_add];refine ⟨by omega,by omega,by omega,qaf (λ hq=>?_) (λ hq=>?_)⟩
   ·have hq:=of_decide_eq_true hq;have e3:rngS o i=o.set (o.length-1) ((gtR o (o.length-1)).1,i+1):=by
     unfold rngS;rw[decide_eq_true ⟨by omega,hq⟩]
    rw[e3] at k;refine ⟨by omega,by omega,by omega,by omega,by omega,by omega,?_⟩;rw[hq,e1];exact ⟨[],((o.set (o.length-1) ((gtR o (o.length-1)).1,i+1),()),()),⟨⟨by show some (LB.var [SV.win true rgS (BIG+1) 0 o.length])=some (LB.var [SV.win true rgS (BIG+1) 0 (o.set _ _).length]);rw[List.length_set],rfl,trivial⟩,rfl,rfl⟩,k⟩
   ·have hq:=of_decide_eq_false hq;have e3:rngS o i=o++[(i,i+1)]:=by
     unfold rngS;rw[decide_eq_false λ h=>hq h.2]
    rw[e3] at k;rw[e1];refine ⟨Nat.le_refl _,trivial,trivial,(show o.length+1<2 ^ 30 by omega),by decide,?_⟩;exact ⟨[(BIG+1,38)],((o++[(i,i+1)],()),()),⟨⟨by show some (LB.var [SV.win true rgS 38 0 (o.length+1)])=some (LB.var [SV.win true rgS 38 0 (o++[(i,i+1)]).length]);rw[List.length_append,List.length_singleton],rfl,trivial⟩,rfl,rfl⟩,k⟩
  ·have hp:=of_decide_eq_false hp;have e3:rngS o i=o++[(i,i+1)]:=by
    unfold rngS;rw[decide_eq_false λ h=>hp (by omega)]
   rw[e3] at k;rw[e1];refine ⟨Nat.le_refl _,rfl,rfl,(show o.length+1<2 ^ 30 by omega),by decide,?_⟩;exact ⟨[(BIG+1,38)],((o++[(i,i+1)],()),()),⟨⟨by show some (LB.var [SV.win true rgS 38 0 (o.length+1)])=some (LB.var [SV.win true rgS 38 0 (o++[(i,i+1)]).length]);rw[List.length_append,List.length_singleton],rfl,trivial⟩,rfl,rfl⟩,k⟩
theorem hdBr:hd Tryz.f88 0=.code (.rangeFunc (.tmp 6) #[7,8] (rfA Tryz.f88 0) (rfB Tryz.f88 0))::rfK Tryz.f88 0:=by kernel_rfl
theorem rndBr:rnd Tryz.f88 0=[.code (rfA Tryz.f88 0),.beginRound,.code (rfB Tryz.f88 0)]:=by kernel_rfl
theorem qkb {QL:AExit->Nat × Bool->DI KG->Prop} {g:Nat × Bool}:∀ (rs:List (Int × Bool)) (o:List (Int × Int)),(∀ x∈rs,0<=x.1/\x.1<1000000)->o.length+rs.length<2 ^ 30->QL .normal g ((rngF (rs.map (·.1)) o,()),()) ->
  ql0 Tryz.prog G0 88 Tryz.f88.ntmps Y0 [3] [7,8] KG yBo (rfA Tryz.f88 0) (rfB Tryz.f88 0) QL (rs.map yB) g ((o,()),())
 | [],o,_,_,h=>h
 | (i,s)::rs,o,hb,hl,h=>by
  rw[List.length_cons] at hl;obtain ⟨hb0,hb1⟩:0<=i/\i<1000000:=hb (i,s) (by simp);have k:=qkb (QL:=QL) (g:=g) rs (rngS o i) (λ x hx=>hb x (by simp[hx])) (by have:=qrj o i;omega) h
  show GoodE Tryz.prog G0 88 Tryz.f88.ntmps .ready Y0 _ [.code (rfA Tryz.f88 0),.beginRound,.code (rfB Tryz.f88 0)] g (qdu [3] [7,8] KG yBo ((o,()),()) (i,s,()))
  rw[<- rndBr];have e1:i64.wrap (i+1)=i+1:=IntWalk.i64_in _ (by omega);have new:rngS o i=o++[(i,i+1)]->0+1<=([(i,i64.wrap (i+(1:Int)))]:List rgS.D).length/\o.length=o.length/\(0:Nat)=0/\o.length+([(i,i64.wrap (i+(1:Int)))]:List rgS.D).length<2 ^ 30/\16<=2 ^ 10:=λ _=>⟨Nat.le_refl _,rfl,rfl,by simp only[List.length_singleton];omega,by decide⟩
  refine qc7 cx0 (q4e o i s g.1 g.2 _ _) (qaf (λ hp=>?_) (λ hp=>⟨rfl,?_⟩))
  ·have hp:=of_decide_eq_true hp;have e2:i64.wrap ((o.length:Int)-1)=((o.length-1:Nat):Int):=by rw[IntWalk.i64_in _ (by omega)];omega
   simp only[e2,Int.toNat_natCast,Nat.zero_add];refine ⟨by omega,by omega,by omega,qaf (λ hq=>?_) (λ hq=>?_)⟩
   ·have hq:=of_decide_eq_true hq;have e3:rngS o i=o.set (o.length-1) ((gtR o (o.length-1)).1,i+1):=by
     unfold rngS;rw[decide_eq_true ⟨by omega,hq⟩]
    rw[e3] at k;refine ⟨by omega,by omega,by omega,by omega,by omega,by omega,?_⟩;rw[hq,e1];exact ⟨[],((o.set (o.length-1) ((gtR o (o.length-1)).1,i+1),()),()),⟨⟨by show some (LB.var [SV.win true rgS (BIG+1) 0 o.length])=some (LB.var [SV.win true rgS (BIG+1) 0 (o.set _ _).length]);rw[List.length_set],rfl,trivial⟩,rfl,rfl⟩,k⟩
   ·have hq:=of_decide_eq_false hq;have e3:rngS o i=o++[(i,i+1)]:=by
     unfold rngS;rw[decide_eq_false λ h=>hq h.2]
    rw[e3] at k;rw[e1];refine ⟨Nat.le_refl _,trivial,trivial,(show o.length+1<2 ^ 30 by omega),by decide,?_⟩;exact ⟨[(BIG+1,38)],((o++[(i,i+1)],()),()),⟨⟨by show some (LB.var [SV.win true rgS 38 0 (o.length+1)])=some (LB.var [SV.win true rgS 38 0 (o++[(i,i+1)]).length]);rw[List.length_append,List.length_singleton],rfl,trivial⟩,rfl,rfl⟩,k⟩
  ·have hp:=of_decide_eq_false hp;have e3:rngS o i=o++[(i,i+1)]:=by
    unfold rngS;rw[decide_eq_false λ h=>hp (by omega)]
   rw[e3] at k;rw[e1];refine ⟨Nat.le_refl _,rfl,rfl,(show o.length+1<2 ^ 30 by omega),by decide,?_⟩;exact ⟨[(BIG+1,38)],((o++[(i,i+1)],()),()),⟨⟨by show some (LB.var [SV.win true rgS 38 0 (o.length+1)])=some (LB.var [SV.win true rgS 38 0 (o++[(i,i+1)]).length]);rw[List.length_append,List.length_singleton],rfl,trivial⟩,rfl,rfl⟩,k⟩
def rgTV (l:List SyT):List (Int × Int):=rngF ((whF tcB 0 l).map (·.1)) []
def ctRgT:CtrI:=⟨[iT],λ x=>preT x.1.2,λ x=>[.win true rgS 0 0 (rgTV x.1.2.1.1).length],λ x=>[(0,.row 127 rgS (rgTV x.1.2.1.1))]⟩
theorem qzu:HeldI Tryz.prog G0 82 ctRgT:=by
 refine HeldI.of cx0 (fn:=Tryz.f82) rfl rfl ⟨by decide,by decide⟩ λ ⟨⟨⟨⟩,⟨l,⟨⟩⟩,_,⟨⟩⟩,⟨⟩⟩ hp=>?_
 replace hp:l.length<1000000:=hp;refine qlq cx0 (q8j l _ _) ?_
 show GoodE Tryz.prog G0 82 Tryz.f82.ntmps .fn Y0 (endK tt G0 Tryz.f82.results.toList (QI ctRgT (((),(l,()),(((),()),()),()),()))) (hd Tryz.f82 0) (0,false) _
 rw[hdSr];refine GoodE.rangeF (gf:=132) (ct:=ctTY) (Ko:=KG) (xi:=((l,()),(((),()),()),())) (x0:=(([],()),())) (ns1:=[some BIG,some (BIG+1)]) (ns2:=[some 3,none]) (tl:=[(3,.ptr 3 0)]) (bkF:=bkG) (rF:=[(0,BIG+1)]) (d:=21) (m:=1)
  (by simp) ?_ qjt rfl rfl rfl ?_ hp ⟨rfl,trivial⟩ rfl ?_ (by decide) ⟨by decide,by decide,rfl⟩ rfl ?_ (by decide) ?_
 ·exact λ args w=>qa0 (fn:=Tryz.f132) rfl rfl rfl args w
 ·exact λ c hc=>by cases hc
 ·exact λ c hc=>by cases hc
 ·exact λ x hx=>⟨⟨rfl,rfl,trivial⟩,by simp[bkG,rho,lk,BIG],λ p hp hb=>(by
   simp only[bkG,List.mem_cons,List.not_mem_nil,or_false] at hp;rcases hp with rfl | rfl
   ·exact ⟨rfl,rfl⟩
   ·exact absurd hb (show ¬ BIG<=0 by decide)),by kernel_rfl⟩
 ·have hw:=qmu (p:=tcB) l 0;refine qgn (whF tcB 0 l) [] (λ x hx=>?_) ?_ ?_
  ·have:=qgk l 0 x hx;omega
  ·simp only[List.length_nil];omega
  ·have e:GoodE Tryz.prog G0 82 Tryz.f82.ntmps .fn Y0 (endK tt G0 Tryz.f82.results.toList (QI ctRgT (((),(l,()),(((),()),()),()),()))) (rfK Tryz.f82 0) (0,false) ⟨[(3,.ptr 3 0)],[(3,.var [.win true rgS 1086016 0 (rgTV l).length]),(1086016,.row 127 rgS (rgTV l))]⟩:=by
    refine qc7 cx0 (qur _ 0 false _ _) ?_
    show QI ctRgT _ [.win true rgS 1086016 0 (rgTV l).length] _
    have p0:piOf [(0,1086016)] 0=some 1086016:=by decide
    refine ⟨[(0,1086016)],qbb (by simp only[Mt];exact .inl ⟨true,1086016,rfl,p0,λ _=>rfl⟩) qa8,⟨.inl ⟨1086016,_,p0,rfl,rfl⟩,trivial⟩,by decide,λ p hp=>?_⟩;simp only[List.mem_cons,List.not_mem_nil,or_false] at hp;subst hp;decide
   exact e.only ⟨by kernel_rfl,trivial⟩ ⟨by kernel_rfl,by kernel_rfl,trivial⟩
def rgCV (l b:List SyT):List (Int × Int):=rngF ((whF (clB b) 0 l).map (·.1)) []
def ctRgC:CtrI:=⟨[iC],λ x=>preC x.1.2,λ x=>[.win true rgS 0 0 (rgCV x.1.2.1.1 x.1.2.2.1.1.2.1.1).length],λ x=>[(0,.row 127 rgS (rgCV x.1.2.1.1 x.1.2.2.1.1.2.1.1))]⟩
theorem qzw:HeldI Tryz.prog G0 82 ctRgC:=by
 refine HeldI.of cx0 (fn:=Tryz.f82) rfl rfl ⟨by decide,by decide⟩ λ ⟨⟨⟨⟩,⟨l,⟨⟩⟩,⟨⟨⟨⟩,⟨⟨b,⟨⟩⟩,⟨⟩⟩⟩,⟨⟩⟩,⟨⟩⟩,⟨⟩⟩ hp=>?_
 replace hp:l.length<1000000/\l.length<=b.length:=hp;have hp1:=hp.1;refine qlq cx0 (q8l l b _ _) ?_
 show GoodE Tryz.prog G0 82 Tryz.f82.ntmps .fn Y0 (endK tt G0 Tryz.f82.results.toList (QI ctRgC (((),(l,()),(((),((b,()),())),()),()),()))) (hd Tryz.f82 0) (0,false) _
 rw[hdSr];refine GoodE.rangeF (gf:=132) (ct:=ctCY) (Ko:=KG) (xi:=((l,()),(((),((b,()),())),()),())) (x0:=(([],()),())) (ns1:=[some BIG,some (BIG+1),some (BIG+2)]) (ns2:=[some 3,none]) (tl:=[(3,.ptr 3 0)]) (bkF:=bkG) (rF:=[(0,BIG+1)]) (d:=21) (m:=1)
  (by simp) ?_ q01 rfl rfl rfl ?_ hp ⟨rfl,trivial⟩ rfl ?_ (by decide) ⟨by decide,by decide,rfl⟩ rfl ?_ (by decide) ?_
 ·exact λ args w=>qa0 (fn:=Tryz.f132) rfl rfl rfl args w
 ·exact λ c hc=>by cases hc
 ·exact λ c hc=>by cases hc
 ·exact λ x hx=>⟨⟨rfl,rfl,trivial⟩,by simp[bkG,rho,lk,BIG],λ p hp hb=>(by
   simp only[bkG,List.mem_cons,List.not_mem_nil,or_false] at hp;rcases hp with rfl | rfl
   ·exact ⟨rfl,rfl⟩
   ·exact absurd hb (show ¬ BIG<=0 by decide)),by kernel_rfl⟩
 ·have hw:=qmu (p:=(clB b)) l 0;refine qgn (whF (clB b) 0 l) [] (λ x hx=>?_) ?_ ?_
  ·have:=qgk l 0 x hx;omega
  ·simp only[List.length_nil];omega
  ·have e:GoodE Tryz.prog G0 82 Tryz.f82.ntmps .fn Y0 (endK tt G0 Tryz.f82.results.toList (QI ctRgC (((),(l,()),(((),((b,()),())),()),()),()))) (rfK Tryz.f82 0) (0,false) ⟨[(3,.ptr 3 0)],[(3,.var [.win true rgS 1086016 0 (rgCV l b).length]),(1086016,.row 127 rgS (rgCV l b))]⟩:=by
    refine qc7 cx0 (qur _ 0 false _ _) ?_
    show QI ctRgC _ [.win true rgS 1086016 0 (rgCV l b).length] _
    have p0:piOf [(0,1086016)] 0=some 1086016:=by decide
    refine ⟨[(0,1086016)],qbb (by simp only[Mt];exact .inl ⟨true,1086016,rfl,p0,λ _=>rfl⟩) qa8,⟨.inl ⟨1086016,_,p0,rfl,rfl⟩,trivial⟩,by decide,λ p hp=>?_⟩;simp only[List.mem_cons,List.not_mem_nil,or_false] at hp;subst hp;decide
   exact e.only ⟨by kernel_rfl,trivial⟩ ⟨by kernel_rfl,by kernel_rfl,trivial⟩
def rgRV (l:List Bool):List (Int × Int):=rngF ((whF (λ _ x=>x) 0 l).map (·.1)) []
def ctRgR:CtrI:=⟨[iR],λ x=>preR x.1.2,λ x=>[.win true rgS 0 0 (rgRV x.1.2.1.1).length],λ x=>[(0,.row 127 rgS (rgRV x.1.2.1.1))]⟩
theorem qzv:HeldI Tryz.prog G0 88 ctRgR:=by
 refine HeldI.of cx0 (fn:=Tryz.f88) rfl rfl ⟨by decide,by decide⟩ λ ⟨⟨⟨⟩,⟨l,⟨⟩⟩,_,⟨⟩⟩,⟨⟩⟩ hp=>?_
 replace hp:l.length<1000000:=hp;refine qlq cx0 (q8k l _ _) ?_
 show GoodE Tryz.prog G0 88 Tryz.f88.ntmps .fn Y0 (endK tt G0 Tryz.f88.results.toList (QI ctRgR (((),(l,()),(((),()),()),()),()))) (hd Tryz.f88 0) (0,false) _
 rw[hdBr];refine GoodE.rangeF (gf:=133) (ct:=ctRY) (Ko:=KG) (xi:=((l,()),(((),()),()),())) (x0:=(([],()),())) (ns1:=[some BIG,some (BIG+1)]) (ns2:=[some 3,none]) (tl:=[(3,.ptr 3 0)]) (bkF:=bkG) (rF:=[(0,BIG+1)]) (d:=21) (m:=1)
  (by simp) ?_ q0z rfl rfl rfl ?_ hp ⟨rfl,trivial⟩ rfl ?_ (by decide) ⟨by decide,by decide,rfl⟩ rfl ?_ (by decide) ?_
 ·exact λ args w=>qa0 (fn:=Tryz.f133) rfl rfl rfl args w
 ·exact λ c hc=>by cases hc
 ·exact λ c hc=>by cases hc
 ·exact λ x hx=>⟨⟨rfl,rfl,trivial⟩,by simp[bkG,rho,lk,BIG],λ p hp hb=>(by
   simp only[bkG,List.mem_cons,List.not_mem_nil,or_false] at hp;rcases hp with rfl | rfl
   ·exact ⟨rfl,rfl⟩
   ·exact absurd hb (show ¬ BIG<=0 by decide)),by kernel_rfl⟩
 ·have hw:=qmu (p:=(λ _ x=>x)) l 0;refine qkb (whF (λ _ x=>x) 0 l) [] (λ x hx=>?_) ?_ ?_
  ·have:=qgk l 0 x hx;omega
  ·simp only[List.length_nil];omega
  ·have e:GoodE Tryz.prog G0 88 Tryz.f88.ntmps .fn Y0 (endK tt G0 Tryz.f88.results.toList (QI ctRgR (((),(l,()),(((),()),()),()),()))) (rfK Tryz.f88 0) (0,false) ⟨[(3,.ptr 3 0)],[(3,.var [.win true rgS 1086016 0 (rgRV l).length]),(1086016,.row 127 rgS (rgRV l))]⟩:=by
    refine qc7 cx0 (q4d _ 0 false _ _) ?_
    show QI ctRgR _ [.win true rgS 1086016 0 (rgRV l).length] _
    have p0:piOf [(0,1086016)] 0=some 1086016:=by decide
    refine ⟨[(0,1086016)],qbb (by simp only[Mt];exact .inl ⟨true,1086016,rfl,p0,λ _=>rfl⟩) qa8,⟨.inl ⟨1086016,_,p0,rfl,rfl⟩,trivial⟩,by decide,λ p hp=>?_⟩;simp only[List.mem_cons,List.not_mem_nil,or_false] at hp;subst hp;decide
   exact e.only ⟨by kernel_rfl,trivial⟩ ⟨by kernel_rfl,by kernel_rfl,trivial⟩
abbrev KB:List AK:=[.ptr [.row 4 .bool]]
abbrev gtT (l:List Bool) (i:Nat):Bool:=gt Sh.bool l i
def C7:CV:=[(82,.inr ctRgT),(82,.inr ctRgC),(88,.inr ctRgR),(83,.inr ctWhT),(83,.inr ctWhC),(89,.inr ctWhR),(84,.inl ctTc)]
theorem cx7:CxOK Tryz.prog tt G0 C7:=((((((cx0.k qpp (fn:=Tryz.f84)).consI qyl (fn:=Tryz.f89) rfl rfl rfl).consI qym (fn:=Tryz.f83) rfl rfl rfl).consI qyk (fn:=Tryz.f83) rfl rfl rfl).consI qzv (fn:=Tryz.f88) rfl rfl rfl).consI qzw (fn:=Tryz.f82) rfl rfl rfl).consI qzu (fn:=Tryz.f82) rfl rfl rfl
set_option maxRecDepth 100000
theorem q8m (l:List SyT) (Q:QT) (R:RT):sA C7 Tryz.f90 Q R [.code (qad Tryz.f90)] (entry [slY] (l,())) =
  ((0:Int)<=l.length/\(l.length:Int)<=(l.length:Int)/\(l.length:Int)<2 ^ 24/\(↑(1:Nat):Int)*(l.length:Int)<=2 ^ 48/\ctWhT.pre (l,((),()),())/\R (hd Tryz.f90 0) { env:=[(0,.sl syS l),(2,.nils),(3,.ptr 3 0),(6,.sl syS l),(7,.i l.length),(8,.win true Sh.bool (8:Nat) (0:Nat) (l.length:Int).toNat),(9,.sl syS l),(10,.fn (132:Nat) [] [.ptr (1040960:Nat) 0,.ptr 1040961 0])],blk:=[(3,.var [.win true Sh.bool (8:Nat) (0:Nat) (l.length:Int).toNat]),(8,.row 4 Sh.bool (List.replicate (l.length:Int).toNat Sh.bool.dflt)),(1040960,.var [.sl syS l]),(1040961,.var [.fn (84:Nat) [] []])] }):=by kernel_rfl
theorem q4f (o:List Bool) (i:Int) (s:SyT) (j:Nat) (q:Bool) (Q:AExit->Nat × Bool->PS->Prop) (R:List Item->Nat × Bool->PS->Prop):syE tt G0 C7 Tryz.f90.ntmps Y0 Q R .ready 1000 (rnd Tryz.f90 0) (j,q) (qdu [3] [11,12] KB ySy ((o,()),()) (i,s,())) =
  (bc s.1 ((0:Int)<=s.2.1/\s.2.1<(o.length:Int)/\0+Int.toNat s.2.1<o.length/\Q AExit.normal (j,q) { env:=[(5,.ptr 5 0),(11,.i i),(12,.agg [.bool s.1,.i s.2.1,.u s.2.2]),(3,.ptr 1099511627776 0),(13,.ptr 5 0),(14,.bool s.1),(15,.win true Sh.bool (1099511627777:Nat) (0:Nat) o.length),(16,.ptr 5 1),(17,.i s.2.1),(18,.elp Sh.bool (1099511627777:Nat) (0+Int.toNat s.2.1) (0:Nat))],blk:=[(5,.var [.bool s.1,.i s.2.1,.u s.2.2]),(1099511627776,.var [.win true Sh.bool (1099511627777:Nat) (0:Nat) o.length]),(1099511627777,.row 4 Sh.bool (o.set (0+Int.toNat s.2.1) true))] }) (Q AExit.normal (j,q) { env:=[(5,.ptr 5 0),(11,.i i),(12,.agg [.bool s.1,.i s.2.1,.u s.2.2]),(3,.ptr 1099511627776 0),(13,.ptr 5 0),(14,.bool s.1)],blk:=[(5,.var [.bool s.1,.i s.2.1,.u s.2.2]),(1099511627776,.var [.win true Sh.bool (1099511627777:Nat) (0:Nat) o.length]),(1099511627777,.row 4 Sh.bool o)] })):=by kernel_rfl
theorem q4g (o:List Bool) (j:Nat) (q:Bool) (Q:AExit->Nat × Bool->PS->Prop) (R:List Item->Nat × Bool->PS->Prop):syE tt G0 C7 Tryz.f90.ntmps Y0 Q R .fn 1000 (rfK Tryz.f90 0) (j,q) (⟨[(3,.ptr 3 0)],[(3,.var [.win true .bool 1086016 0 o.length]),(1086016,.row 4 .bool o)]⟩) =
  (Q AExit.ret (j,q) { env:=[(2,.win true Sh.bool (1086016:Nat) (0:Nat) o.length),(3,.ptr 3 0),(19,.win true Sh.bool (1086016:Nat) (0:Nat) o.length)],blk:=[(3,.var [.win true Sh.bool (1086016:Nat) (0:Nat) o.length]),(1086016,.row 4 Sh.bool o)] }):=by kernel_rfl
theorem q89 (a b:List SyT) (Q:QT) (R:RT):sA C7 Tryz.f92 Q R [.code (qad Tryz.f92)] (entry [slY,slY] (a,b,())) =
  (ctWhC.pre (a,((),(b,()),()),())/\ctRgC.pre (((),(a,()),(((),(b,()),()),()),()),())/\Q [.win true rgS 1040960 0 (rgCV a b).length] [(1040960,.row 127 rgS (rgCV a b))]):=by kernel_rfl
theorem QC.row0 {ct:Ctr} {x:DL ct.args} {rs:List SV} {blk:List (Nat × LB)} {e:Sh} {et:TypeId} {a k:Nat} {xs:List e.D} (h:ct.out x=[.win true e 0 0 xs.length]) (hr:ct.rows x=[.row et e xs]) (hs:rs=[.win true e a 0 k]) (hk:k=xs.length) (hb:lk blk a=some (.row et e xs)):QC ct x rs blk:=by
 subst hs;subst hk;refine ⟨λ i=>if i=0 then some a else none,?_,?_,λ i j b h1 h2=>?_,by rw[hr];rfl⟩
 ·rw[h];exact ⟨_,_,rfl,.inl ⟨true,a,rfl,rfl,λ h=>h⟩,rfl⟩
 ·rw[hr];exact ⟨.inl ⟨a,rfl,hb⟩,trivial⟩
 ·simp only at h1 h2;split at h1
  ·split at h2
   ·omega
   ·cases h2
  ·cases h1
def ctCls:Ctr:=⟨[slY,slY],λ x=>x.1.length<1000000/\x.1.length<=x.2.1.length,λ x=>[.win true rgS 0 0 (rgCV x.1 x.2.1).length],λ x=>[.row 127 rgS (rgCV x.1 x.2.1)]⟩
theorem q1p:Held Tryz.prog G0 92 ctCls:=Held.run cx7 (fn:=Tryz.f92) rfl rfl ⟨by decide,by decide⟩ λ ⟨a,b,_⟩ hp=>by
 refine (q89 a b _ _).mpr ⟨trivial,hp,?_⟩;exact QC.row0 (e:=rgS) (xs:=rgCV a b) (et:=127) rfl rfl rfl rfl rfl
def rdbF:List (Int × SyT)->List Bool->List Bool
 | [],o=>o
 | x::r,o=>rdbF r (match x.2.1 with
  | true=>o.set x.2.2.1.toNat true
  | false=>o)
def rdbV (l:List SyT):List Bool:=rdbF (whF tcB 0 l) (List.replicate l.length false)
theorem qjm:∀ (r:List (Int × SyT)) (o:List Bool),(rdbF r o).length=o.length
 | [],o=>rfl
 | x::r,o=>by
  rw[rdbF,qjm r];split
  ·rw[List.length_set]
  ·rfl
def bkB (x:DI KB):List (Nat × LB):=[(BIG,.var [.win true .bool 0 0 x.1.1.length]),(0,.row 4 .bool x.1.1)]
theorem hdRb:hd Tryz.f90 0=.code (.rangeFunc (.tmp 10) #[11,12] (rfA Tryz.f90 0) (rfB Tryz.f90 0))::rfK Tryz.f90 0:=by kernel_rfl
theorem rndRb:rnd Tryz.f90 0=[.code (rfA Tryz.f90 0),.beginRound,.code (rfB Tryz.f90 0)]:=by kernel_rfl
theorem qh9 {QL:AExit->Nat × Bool->DI KB->Prop} {g:Nat × Bool}:∀ (rs:List (Int × SyT)) (o:List Bool),(∀ x∈rs,x.2.1=true->0<=x.2.2.1/\x.2.2.1<o.length)->QL .normal g ((rdbF rs o,()),()) ->
  ql0 Tryz.prog G0 90 Tryz.f90.ntmps Y0 [3] [11,12] KB ySy (rfA Tryz.f90 0) (rfB Tryz.f90 0) QL (rs.map yS) g ((o,()),())
 | [],o,_,h=>h
 | (i,s)::rs,o,hb,h=>by
  show GoodE Tryz.prog G0 90 Tryz.f90.ntmps .ready Y0 _ [.code (rfA Tryz.f90 0),.beginRound,.code (rfB Tryz.f90 0)] g (qdu [3] [11,12] KB ySy ((o,()),()) (i,s,()))
  rw[<- rndRb];rw[rdbF] at h;have hs:s.1=true->0<=s.2.1/\s.2.1<o.length:=hb (i,s) (by simp);refine qc7 cx7 (q4f o i s g.1 g.2 _ _) (qaf (λ hp=>?_) (λ hp=>?_))
  ·have hp:s.1=true:=hp;obtain ⟨h0,h1⟩:=hs hp;simp only[hp] at h;have k:=qh9 (QL:=QL) (g:=g) rs (o.set s.2.1.toNat true) (λ x hx=>by rw[List.length_set];exact hb x (by simp[hx])) h;rw[Nat.zero_add];refine ⟨h0,h1,by omega,?_⟩;exact ⟨[],((o.set s.2.1.toNat true,()),()),⟨⟨by show some (LB.var [SV.win true Sh.bool (BIG+1) 0 o.length])=some (LB.var [SV.win true Sh.bool (BIG+1) 0 (o.set _ _).length]);rw[List.length_set],rfl,trivial⟩,rfl,rfl⟩,k⟩
  ·have hp:s.1=false:=hp;simp only[hp] at h;have k:=qh9 (QL:=QL) (g:=g) rs o (λ x hx=>hb x (by simp[hx])) h;exact ⟨[],((o,()),()),⟨⟨rfl,rfl,trivial⟩,rfl,rfl⟩,k⟩
def evY (l:List SyT):Prop:=l.length<1000000/\∀ s∈l,s.1=true->0<=s.2.1/\s.2.1<l.length
def ctRdb:Ctr:=⟨[slY],λ x=>evY x.1,λ x=>[.win true .bool 0 0 (rdbV x.1).length],λ x=>[.row 4 .bool (rdbV x.1)]⟩
theorem qpo {α:Type} {p:Int->α->Bool}:∀ (l:List α) (i:Nat),∀ x∈whF p i l,x.2∈l
 | [],i,x,h=>by simp[whF] at h
 | s::r,i,x,h=>by
  rw[whF] at h;split at h
  ·rcases List.mem_cons.1 h with rfl | h
   ·simp
   ·exact List.mem_cons_of_mem _ (qpo r _ x h)
  ·exact List.mem_cons_of_mem _ (qpo r _ x h)
theorem rdb_held:Held Tryz.prog G0 90 ctRdb:=by
 refine Held.of cx7 (fn:=Tryz.f90) rfl rfl ⟨by decide,by decide⟩ λ ⟨l,⟨⟩⟩ hp=>?_
 obtain ⟨hl,hr⟩:evY l:=hp;refine qlq cx7 (q8m l _ _) ⟨by omega,by omega,?_,?_,trivial,?_⟩
 ·show (l.length:Int)<2 ^ 24;omega
 ·show (((1:Nat):Int))*(l.length:Int)<=2 ^ 48;omega
 show GoodE Tryz.prog G0 90 Tryz.f90.ntmps .fn Y0 (endK tt G0 Tryz.f90.results.toList (QC ctRdb (l,()))) (hd Tryz.f90 0) (0,false) _
 rw[hdRb];simp only[Int.toNat_natCast];refine GoodE.rangeF (gf:=132) (ct:=ctTY) (Ko:=KB) (xi:=((l,()),(((),()),()),())) (x0:=((List.replicate l.length false,()),())) (ns1:=[some 1040960,some 1040961]) (ns2:=[some 3,some 8]) (tl:=[(3,.ptr 3 0)]) (bkF:=bkB) (rF:=[(0,BIG+1)]) (d:=21) (m:=2)
  (by simp) ?_ qjt rfl rfl rfl ?_ hl ⟨rfl,trivial⟩ rfl ?_ (by decide) ⟨by decide,by decide,rfl⟩ rfl ?_ (by decide) ?_
 ·exact λ args w=>qa0 (fn:=Tryz.f132) rfl rfl rfl args w
 ·exact λ c hc=>by cases hc
 ·intro c hc;have hc:c∈[l.length=(List.replicate l.length false).length]:=hc;rw[List.mem_singleton] at hc;subst hc;rw[List.length_replicate]
 ·exact λ x hx=>⟨⟨rfl,rfl,trivial⟩,by simp[bkB,rho,lk,BIG],λ p hp hb=>(by
   simp only[bkB,List.mem_cons,List.not_mem_nil,or_false] at hp;rcases hp with rfl | rfl
   ·exact ⟨rfl,rfl⟩
   ·exact absurd hb (show ¬ BIG<=0 by decide)),by kernel_rfl⟩
 ·refine qh9 (whF tcB 0 l) (List.replicate l.length false) (λ x hx h=>?_) ?_
  ·rw[List.length_replicate];exact hr _ (qpo l 0 x hx) h
  ·have e:GoodE Tryz.prog G0 90 Tryz.f90.ntmps .fn Y0 (endK tt G0 Tryz.f90.results.toList (QC ctRdb (l,()))) (rfK Tryz.f90 0) (0,false) ⟨[(3,.ptr 3 0)],[(3,.var [.win true .bool 1086016 0 (rdbV l).length]),(1086016,.row 4 .bool (rdbV l))]⟩:=by
    refine qc7 cx7 (q4g _ 0 false _ _) ?_
    show QC ctRdb _ [.win true .bool 1086016 0 (rdbV l).length] _
    exact QC.row0 (e:=.bool) (xs:=rdbV l) (et:=4) rfl rfl rfl rfl rfl
   exact e.only ⟨by kernel_rfl,trivial⟩ ⟨by kernel_rfl,by kernel_rfl,trivial⟩
abbrev KD:List AK:=[.ptr [.dat slY],.ptr [.dat .bool],.ptr [.row 4 .bool]]
def C8:CV:=(90,.inl ctRdb)::(92,.inl ctCls)::C7
theorem cx8:CxOK Tryz.prog tt G0 C8:=(cx7.k q1p (fn:=Tryz.f92)).k rdb_held (fn:=Tryz.f90)
abbrev fO:AK:=.fn 129 [] [.ptr [.dat (.sl paS)]]
abbrev fU:AK:=.fn 131 [] [.ptr [.dat (.sl paS)]]
abbrev gtP (l:List PaT) (i:Nat):PaT:=gt paS l i
def othB (l:List PaT) (p:PaT):Bool:=p.1 != (gtP l 0).1
def uneB (l:List PaT) (p:PaT):Bool:=decide (p.2.1≠p.2.2.1) || decide (p.2.1≠(gtP l 0).2.1)
abbrev K1:List AK:=[.dat paS,.ptr [.dat (.sl paS)]]
def ctOth:CtrI:=⟨K1,λ x=>0<x.2.1.1.length,λ x=>[.bool (othB x.2.1.1 x.1)],λ x=>bkKL 0 K1 x⟩
def ctUne:CtrI:=⟨K1,λ x=>0<x.2.1.1.length,λ x=>[.bool (uneB x.2.1.1 x.1)],λ x=>bkKL 0 K1 x⟩
set_option maxRecDepth 100000
theorem q87 (a b:List SyT) (Q:QT) (R:RT):sA C8 Tryz.f136 Q R [.code (qad Tryz.f136)] (entry [slY,slY] (a,b,())) =
  (ctRdb.pre (b,())/\ctWhT.pre (a,((),()),())/\R (hd Tryz.f136 0) { env:=[(0,.sl syS a),(1,.sl syS b),(3,.ptr 3 0),(4,.ptr 4 0),(5,.ptr 5 0),(7,.sl syS b),(8,.win true Sh.bool (1032768:Nat) (0:Nat) (rdbV b).length),(9,.sl syS a),(10,.fn (132:Nat) [] [.ptr (1040960:Nat) 0,.ptr 1040961 0])],blk:=[(3,.var [.sl syS b]),(4,.var [.bool Sh.bool.dflt]),(5,.var [.win true Sh.bool (1032768:Nat) (0:Nat) (rdbV b).length]),(1032768,.row 4 Sh.bool (rdbV b)),(1040960,.var [.sl syS a]),(1040961,.var [.fn (84:Nat) [] []])] }):=by kernel_rfl
theorem qu2 (b:List SyT) (r:Bool) (o:List Bool) (i:Int) (s:SyT) (j:Nat) (q:Bool) (Q:AExit->Nat × Bool->PS->Prop) (R:List Item->Nat × Bool->PS->Prop):syE tt G0 C8 Tryz.f136.ntmps Y0 Q R .ready 1000 (rnd Tryz.f136 0) (j,q) (qdu [3,4,5] [11,12] KD ySy ((b,()),((r,()),((o,()),()))) (i,s,())) =
  ((0:Int)<=i/\i<(b.length:Int)/\ctTc.pre (i,(gtY b i.toNat),())/\bc (tcB i (gtY b i.toNat)) (true=true/\Q AExit.ret (j,q) { env:=[(6,.i i),(11,.i i),(12,.agg [.bool s.1,.i s.2.1,.u s.2.2]),(3,.ptr 1099511627776 0),(4,.ptr 1099511627777 0),(5,.ptr 1099511627778 0),(13,.i i),(14,.sl syS b),(15,.i i),(16,.elv syS (gtY b i.toNat)),(17,.agg (yI (gtY b i.toNat))),(18,.bool (tcB i (gtY b i.toNat))),(19,.bool true),(20,SV.tup []),(21,SV.tup []),(22,SV.tup []),(23,SV.tup []),(24,.bool true)],blk:=[(1099511627776,.var [.sl syS b]),(1099511627777,.var [.bool true]),(1099511627778,.var [.win true Sh.bool (1099511627779:Nat) (0:Nat) o.length]),(1099511627779,.row 4 Sh.bool o)] }) ((0:Int)<=i/\i<(o.length:Int)/\0+i.toNat<o.length/\bc (bif false then true else gtT o (0+i.toNat)) (Q AExit.ret (j,q) { env:=[(6,.i i),(11,.i i),(12,.agg [.bool s.1,.i s.2.1,.u s.2.2]),(3,.ptr 1099511627776 0),(4,.ptr 1099511627777 0),(5,.ptr 1099511627778 0),(13,.i i),(14,.sl syS b),(15,.i i),(16,.elv syS (gtY b i.toNat)),(17,.agg (yI (gtY b i.toNat))),(18,.bool (tcB i (gtY b i.toNat))),(19,.bool false),(20,.win true Sh.bool (1099511627779:Nat) (0:Nat) o.length),(21,.i i),(22,.elp Sh.bool (1099511627779:Nat) (0+i.toNat) (0:Nat)),(23,.bool (gtT o (0+i.toNat))),(24,.bool (bif false then true else gtT o (0+i.toNat)))],blk:=[(1099511627776,.var [.sl syS b]),(1099511627777,.var [.bool true]),(1099511627778,.var [.win true Sh.bool (1099511627779:Nat) (0:Nat) o.length]),(1099511627779,.row 4 Sh.bool o)] }) (Q AExit.normal (j,q) { env:=[(6,.i i),(11,.i i),(12,.agg [.bool s.1,.i s.2.1,.u s.2.2]),(3,.ptr 1099511627776 0),(4,.ptr 1099511627777 0),(5,.ptr 1099511627778 0),(13,.i i),(14,.sl syS b),(15,.i i),(16,.elv syS (gtY b i.toNat)),(17,.agg (yI (gtY b i.toNat))),(18,.bool (tcB i (gtY b i.toNat))),(19,.bool false),(20,.win true Sh.bool (1099511627779:Nat) (0:Nat) o.length),(21,.i i),(22,.elp Sh.bool (1099511627779:Nat) (0+i.toNat) (0:Nat)),(23,.bool (gtT o (0+i.toNat))),(24,.bool (bif false then true else gtT o (0+i.toNat)))],blk:=[(1099511627776,.var [.sl syS b]),(1099511627777,.var [.bool r]),(1099511627778,.var [.win true Sh.bool (1099511627779:Nat) (0:Nat) o.length]),(1099511627779,.row 4 Sh.bool o)] }))):=by kernel_rfl
theorem q46 (r:Bool) (j:Nat) (q:Bool) (Q:AExit->Nat × Bool->PS->Prop) (R:List Item->Nat × Bool->PS->Prop):syE tt G0 C8 Tryz.f136.ntmps Y0 Q R .fn 1000 (rfK Tryz.f136 0) (j,q) (⟨[(4,.ptr 4 0)],[(4,.var [.bool r])]⟩) =
  (Q AExit.ret (j,q) { env:=[(4,.ptr 4 0)],blk:=[(4,.var [.bool false])] }):=by kernel_rfl
theorem q45 (r:Bool) (j:Nat) (q:Bool) (Q:AExit->Nat × Bool->PS->Prop) (R:List Item->Nat × Bool->PS->Prop):syE tt G0 C8 Tryz.f136.ntmps Y0 Q R .fn 1000 (qqi .ret++rfK Tryz.f136 0) (j,q) (⟨[(4,.ptr 4 0)],[(4,.var [.bool r])]⟩) =
  (Q AExit.ret (j,q) { env:=[(4,.ptr 4 0)],blk:=[(4,.var [.bool r])] }):=by kernel_rfl
theorem q8o (l:List PaT) (li:Bool) (m o:Int) (x:List OpT) (Q:QT) (R:RT):sA [] Tryz.f129 Q R [.code (qad Tryz.f129)] (qa7 K1 ((li,m,o,x),(l,()),())) =
  ((0:Int)<=0/\(0:Int)<l.length/\Q [.bool !li == (gtP l (0)).1] [(2,.var (pL li m o x)),(1099511627776,.var [.sl paS l])]):=by kernel_rfl
theorem q79 (l:List PaT) (li:Bool) (m o:Int) (x:List OpT) (Q:QT) (R:RT):sA [] Tryz.f131 Q R [.code (qad Tryz.f131)] (qa7 K1 ((li,m,o,x),(l,()),())) =
  (bc (decide (m≠o)) (true=true/\Q [.bool true] [(2,.var (pL li m o x)),(1099511627776,.var [.sl paS l])]) ((0:Int)<=0/\(0:Int)<l.length/\Q [.bool (bif false then true else decide (m≠(gtP l (0)).2.1))] [(2,.var (pL li m o x)),(1099511627776,.var [.sl paS l])])):=by kernel_rfl
def disP (b:List SyT) (x:Int × SyT):Bool:=tcB x.1 (gtY b x.1.toNat) || gtT (rdbV b) x.1.toNat
def disB (a b:List SyT):Bool:=(whF tcB 0 a).any (disP b)
def ctDis:Ctr:=⟨[slY,slY],λ x=>evY x.2.1/\x.1.length<=x.2.1.length,λ x=>[.bool (disB x.1 x.2.1)],λ _=>[]⟩
def bkD (x:DI KD):List (Nat × LB):=[(BIG,.var [.sl syS x.1.1]),(BIG+1,.var [.bool x.2.1.1]),(BIG+2,.var [.win true .bool 0 0 x.2.2.1.1.length]),(0,.row 4 .bool x.2.2.1.1)]
theorem hdDi:hd Tryz.f136 0=.code (.rangeFunc (.tmp 10) #[11,12] (rfA Tryz.f136 0) (rfB Tryz.f136 0))::rfK Tryz.f136 0:=by kernel_rfl
theorem q9z:rnd Tryz.f136 0=[.code (rfA Tryz.f136 0),.beginRound,.code (rfB Tryz.f136 0)]:=by kernel_rfl
theorem qmm {b:List SyT} {QL:AExit->Nat × Bool->DI KD->Prop} {g:Nat × Bool} (hE:QL .ret g ((b,()),((true,()),((rdbV b,()),())))) (hl:(rdbV b).length=b.length):∀ (rs:List (Int × SyT)),(∀ x∈rs,0<=x.1/\x.1<b.length)->(rs.any (disP b)=false->QL .normal g ((b,()),((false,()),((rdbV b,()),())))) ->
  ql0 Tryz.prog G0 136 Tryz.f136.ntmps Y0 [3,4,5] [11,12] KD ySy (rfA Tryz.f136 0) (rfB Tryz.f136 0) QL (rs.map yS) g ((b,()),((false,()),((rdbV b,()),())))
 | [],_,h=>h rfl
 | (i,s)::rs,hb,h=>by
  show GoodE Tryz.prog G0 136 Tryz.f136.ntmps .ready Y0 _ [.code (rfA Tryz.f136 0),.beginRound,.code (rfB Tryz.f136 0)] g (qdu [3,4,5] [11,12] KD ySy ((b,()),((false,()),((rdbV b,()),()))) (i,s,()))
  rw[<- q9z];obtain ⟨h0,h1⟩:0<=i/\i<b.length:=hb (i,s) (by simp);refine qc7 cx8 (qu2 b false (rdbV b) i s g.1 g.2 _ _) ⟨h0,h1,trivial,qaf (λ k1=>⟨rfl,?_⟩) (λ k1=>⟨h0,by omega,by omega,?_⟩)⟩
  ·exact ⟨[],((b,()),((true,()),((rdbV b,()),()))),⟨⟨rfl,rfl,rfl,rfl,trivial⟩,rfl,rfl⟩,hE⟩
  ·rw[Nat.zero_add];refine qaf (λ k2=>?_) (λ k2=>?_)
   ·exact ⟨[],((b,()),((true,()),((rdbV b,()),()))),⟨⟨rfl,rfl,rfl,rfl,trivial⟩,rfl,rfl⟩,hE⟩
   ·have k1:tcB i (gtY b i.toNat)=false:=k1;have k2:gtT (rdbV b) i.toNat=false:=k2;have hp:disP b (i,s)=false:=by simp only[disP];rw[k1,k2];rfl
    have k:=qmm (b:=b) (QL:=QL) (g:=g) hE hl rs (λ x hx=>hb x (by simp[hx])) (λ hq=>h (by rw[List.any_cons,hp,hq];rfl));exact ⟨[],((b,()),((false,()),((rdbV b,()),()))),⟨⟨rfl,rfl,rfl,rfl,trivial⟩,rfl,rfl⟩,k⟩
theorem qlg {b:List SyT} {QL:AExit->Nat × Bool->DI KD->Prop} {g:Nat × Bool} (hl:(rdbV b).length=b.length):∀ (rs:List (Int × SyT)),(∀ x∈rs,0<=x.1/\x.1<b.length)->rs.any (disP b)=false->QL .normal g ((b,()),((false,()),((rdbV b,()),()))) ->
  ql0 Tryz.prog G0 136 Tryz.f136.ntmps Y0 [3,4,5] [11,12] KD ySy (rfA Tryz.f136 0) (rfB Tryz.f136 0) QL (rs.map yS) g ((b,()),((false,()),((rdbV b,()),())))
 | [],_,_,h=>h
 | (i,s)::rs,hb,hn,h=>by
  rw[List.any_cons,Bool.or_eq_false_iff] at hn;obtain ⟨hn0,hn⟩:=hn;have hn0:(tcB i (gtY b i.toNat) || gtT (rdbV b) i.toNat)=false:=hn0;rw[Bool.or_eq_false_iff] at hn0
  show GoodE Tryz.prog G0 136 Tryz.f136.ntmps .ready Y0 _ [.code (rfA Tryz.f136 0),.beginRound,.code (rfB Tryz.f136 0)] g (qdu [3,4,5] [11,12] KD ySy ((b,()),((false,()),((rdbV b,()),()))) (i,s,()))
  rw[<- q9z];obtain ⟨h0,h1⟩:0<=i/\i<b.length:=hb (i,s) (by simp);refine qc7 cx8 (qu2 b false (rdbV b) i s g.1 g.2 _ _) ⟨h0,h1,trivial,qaf (λ k1=>⟨rfl,?_⟩) (λ k1=>⟨h0,by omega,by omega,?_⟩)⟩
  ·exfalso;have k1:tcB i (gtY b i.toNat)=true:=k1;rw[k1] at hn0;cases hn0.1
  ·rw[Nat.zero_add];refine qaf (λ k2=>?_) (λ k2=>?_)
   ·exfalso;have k2:gtT (rdbV b) i.toNat=true:=k2;rw[k2] at hn0;cases hn0.2
   ·have k1:tcB i (gtY b i.toNat)=false:=k1;have k2:gtT (rdbV b) i.toNat=false:=k2;have hp:disP b (i,s)=false:=by simp only[disP];rw[k1,k2];rfl
    have k:=qlg (b:=b) (QL:=QL) (g:=g) hl rs (λ x hx=>hb x (by simp[hx])) hn h;exact ⟨[],((b,()),((false,()),((rdbV b,()),()))),⟨⟨rfl,rfl,rfl,rfl,trivial⟩,rfl,rfl⟩,k⟩
theorem q3r (Q:List SV->List (Nat × LB)->Prop) (r:Bool) (g:Nat × Bool):endK tt G0 Tryz.f136.results.toList Q AExit.ret g { env:=[(4,SV.ptr 4 0)],blk:=[(4,LB.var [SV.bool r])] }=Q [SV.bool r] [(4,LB.var [SV.bool r])]:=by kernel_rfl
theorem q1l:Held Tryz.prog G0 136 ctDis:=by
 refine Held.of cx8 (fn:=Tryz.f136) rfl rfl ⟨by decide,by decide⟩ λ ⟨a,b,⟨⟩⟩ hp=>?_
 obtain ⟨hev,hab⟩:evY b/\a.length<=b.length:=hp;have hbl:=hev.1;have hrl:(rdbV b).length=b.length:=by unfold rdbV;rw[qjm,List.length_replicate]
 refine qlq cx8 (q87 a b _ _) ⟨hev,trivial,?_⟩
 show GoodE Tryz.prog G0 136 Tryz.f136.ntmps .fn Y0 (endK tt G0 Tryz.f136.results.toList (QC ctDis (a,b,()))) (hd Tryz.f136 0) (0,false) _
 rw[hdDi];refine GoodE.rangeF (gf:=132) (ct:=ctTY) (Ko:=KD) (xi:=((a,()),(((),()),()),())) (x0:=((b,()),((false,()),((rdbV b,()),())))) (ns1:=[some 1040960,some 1040961]) (ns2:=[some 3,some 4,some 5,some 1032768]) (tl:=[(3,.ptr 3 0),(4,.ptr 4 0),(5,.ptr 5 0)]) (bkF:=bkD) (rF:=[(0,BIG+3)]) (d:=21) (m:=4)
  (by simp) ?_ qjt rfl rfl rfl ?_ (show a.length<1000000 by omega) ⟨rfl,rfl,rfl,trivial⟩ rfl ?_ (by decide) ⟨by decide,by decide,rfl⟩ rfl ?_ (by decide) ?_
 ·exact λ args w=>qa0 (fn:=Tryz.f132) rfl rfl rfl args w
 ·exact λ c hc=>by cases hc
 ·intro c hc;have hc:c∈[(rdbV b).length=(rdbV b).length]:=hc;rw[List.mem_singleton] at hc;subst hc;rfl
 ·exact λ x hx=>⟨⟨rfl,rfl,rfl,rfl,trivial⟩,by simp[bkD,rho,lk,BIG],λ p hp hb=>(by
   simp only[bkD,List.mem_cons,List.not_mem_nil,or_false] at hp;rcases hp with rfl | rfl | rfl | rfl
   ·exact ⟨rfl,rfl⟩
   ·exact ⟨rfl,rfl⟩
   ·exact ⟨rfl,rfl⟩
   ·exact absurd hb (show ¬ BIG<=0 by decide)),by kernel_rfl⟩
 ·by_cases hany:(whF tcB 0 a).any (disP b)=true
  ·refine qmm (b:=b) ?_ hrl (whF tcB 0 a) (λ x hx=>by have:=qgk a 0 x hx;omega) (λ hq=>by rw[hany] at hq;cases hq);have e:GoodE Tryz.prog G0 136 Tryz.f136.ntmps .fn Y0 (endK tt G0 Tryz.f136.results.toList (QC ctDis (a,b,()))) (qqi .ret++rfK Tryz.f136 0) (0,false) ⟨[(4,.ptr 4 0)],[(4,.var [.bool true])]⟩:=by
    refine qc7 cx8 (q45 true 0 false _ _) ?_;rw[q3r];exact QC.flat (by show [SV.bool (disB a b)]=_;unfold disB;rw[hany]) rfl rfl
   exact e.only ⟨by kernel_rfl,trivial⟩ ⟨by kernel_rfl,trivial⟩
  refine qlg (b:=b) hrl (whF tcB 0 a) (λ x hx=>by have:=qgk a 0 x hx;omega) (by simpa using hany) ?_
  ·have hq:(whF tcB 0 a).any (disP b)=false:=by simpa using hany
   have e:GoodE Tryz.prog G0 136 Tryz.f136.ntmps .fn Y0 (endK tt G0 Tryz.f136.results.toList (QC ctDis (a,b,()))) (rfK Tryz.f136 0) (0,false) ⟨[(4,.ptr 4 0)],[(4,.var [.bool false])]⟩:=by
    refine qc7 cx8 (q46 false 0 false _ _) ?_;rw[q3r];exact QC.flat (by show [SV.bool (disB a b)]=_;unfold disB;rw[hq]) rfl rfl
   exact e.only ⟨by kernel_rfl,trivial⟩ ⟨by kernel_rfl,trivial⟩
theorem qz5:HeldI Tryz.prog G0 129 ctOth:=HeldI.run cx0 (fn:=Tryz.f129) rfl rfl ⟨by decide,by decide⟩ λ ⟨⟨li,m,o,x⟩,⟨l,⟨⟩⟩,⟨⟩⟩ hp=>by
 have hp:0<l.length:=hp;refine (q8o l li m o x _ _).mpr ⟨by omega,by omega,QI.self rfl rfl rfl (λ p hp=>?_)⟩;have hp:p∈[(BIG,LB.var [SV.sl paS l])]:=hp;rw[List.mem_singleton] at hp;subst hp;rfl
theorem qy4:HeldI Tryz.prog G0 131 ctUne:=HeldI.run cx0 (fn:=Tryz.f131) rfl rfl ⟨by decide,by decide⟩ λ ⟨⟨li,m,o,x⟩,⟨l,⟨⟩⟩,⟨⟩⟩ hp=>by
 have hp:0<l.length:=hp;have fin:∀ {v:Bool} {w:LB},uneB l (li,m,o,x)=v->QI ctUne ((li,m,o,x),(l,()),()) [SV.bool v] [(2,w),(BIG,LB.var [SV.sl paS l])]:=fun {v w} h=>by
  refine QI.self ?_ rfl rfl (λ p hp=>?_)
  ·show [SV.bool (uneB l (li,m,o,x))]=_;rw[h]
  ·have hp:p∈[(BIG,LB.var [SV.sl paS l])]:=hp;rw[List.mem_singleton] at hp;subst hp;rfl
 refine (q79 l li m o x _ _).mpr (qaf (λ h=>⟨rfl,fin ?_⟩) (λ h=>⟨by omega,by omega,fin ?_⟩))
 ·show (decide (m≠o) || _)=true
  have h:decide (m≠o)=true:=h;rw[h];rfl
 ·show (decide (m≠o) || decide (m≠(gtP l 0).2.1))=_
  have h:decide (m≠o)=false:=h;rw[h];rfl
abbrev slP:Sh:=.sl paS
def ixF (p:PaT->Bool):List PaT->Nat->Int
 | [],_ => -1
 | x::r,i=>match p x with
  | true=>(i:Int)
  | false=>ixF p r (i+1)
abbrev KO:List AK:=[.dat slP,fO]
abbrev KU:List AK:=[.dat slP,fU]
def qtg (l b:List PaT):Prop:=0<b.length/\l.length<1000000
def ctIfO:CtrI:=⟨KO,λ x=>qtg x.1 x.2.1.2.1.1,λ x=>[.i (ixF (othB x.2.1.2.1.1) x.1 0)],λ x=>bkKL 0 KO x⟩
def ctIfU:CtrI:=⟨KU,λ x=>qtg x.1 x.2.1.2.1.1,λ x=>[.i (ixF (uneB x.2.1.2.1.1) x.1 0)],λ x=>bkKL 0 KU x⟩
def C9:CV:=[(129,.inr ctOth),(131,.inr ctUne)]
theorem cx9:CxOK Tryz.prog tt G0 C9:=(cx0.consI qy4 (fn:=Tryz.f131) rfl rfl rfl).consI qz5 (fn:=Tryz.f129) rfl rfl rfl
set_option maxRecDepth 100000
theorem q85 (l b:List PaT) (Q:QT) (R:RT):sA C9 Tryz.f158 Q (λ it S=>R it (qa5 [0,1,7,8] [BIG] S)) [.code (qad Tryz.f158)] (qa7 KO (l,((),((b,()),())),())) =
  (R (hd Tryz.f158 0) { env:=[(0,.sl paS l),(1,.fn (129:Nat) [] [.ptr 1099511627776 0]),(7,.i l.length),(8,.i 0)],blk:=[(1099511627776,.var [.sl paS b])] }):=by kernel_rfl
theorem qu1 (l b:List PaT) (i:Nat) (Q:QT) (R:RT):sA C9 Tryz.f158 Q (λ it S=>R it (qa5 [0,1,7,8] [BIG] S)) (hd Tryz.f158 0) ⟨[(0,.sl paS l),(1,.fn 129 [] [.ptr BIG 0]),(7,.i (l.length:Nat)),(8,.i (i:Nat))],[(BIG,.var [.sl paS b])]⟩ =
  (bc (decide ((i:Int)<l.length)) ((0:Int)<=i/\(i:Int)<l.length/\ctOth.pre ((gtP l (i:Int).toNat),(b,()),())/\bc (othB b (gtP l (i:Int).toNat)) (Q [.i i] [(1099511627776,.var [.sl paS b])]) (R (hd Tryz.f158 0) { env:=[(0,.sl paS l),(1,.fn (129:Nat) [] [.ptr 1099511627776 0]),(7,.i l.length),(8,.i (IntKind.i64.wrap ((i:Int)+1)))],blk:=[(1099511627776,.var [.sl paS b])] })) (Q [.i (-1:Int)] [(1099511627776,.var [.sl paS b])])):=by kernel_rfl
theorem q9f (l b:List PaT) (Q:QT) (R:RT):sA [(158,.inr ctIfO)] Tryz.f130 Q R [.code (qad Tryz.f130)] (qa7 KO (l,((),((b,()),())),())) =
  (ctIfO.pre (l,((),(b,()),()),())/\Q [.bool (decide ((0:Int)<=ixF (othB b) l (0:Nat)))] [(1099511627776,.var [.sl paS b])]):=by kernel_rfl
theorem q84 (l b:List PaT) (Q:QT) (R:RT):sA C9 Tryz.f158 Q (λ it S=>R it (qa5 [0,1,7,8] [BIG] S)) [.code (qad Tryz.f158)] (qa7 KU (l,((),((b,()),())),())) =
  (R (hd Tryz.f158 0) { env:=[(0,.sl paS l),(1,.fn (131:Nat) [] [.ptr 1099511627776 0]),(7,.i l.length),(8,.i 0)],blk:=[(1099511627776,.var [.sl paS b])] }):=by kernel_rfl
theorem qu0 (l b:List PaT) (i:Nat) (Q:QT) (R:RT):sA C9 Tryz.f158 Q (λ it S=>R it (qa5 [0,1,7,8] [BIG] S)) (hd Tryz.f158 0) ⟨[(0,.sl paS l),(1,.fn 131 [] [.ptr BIG 0]),(7,.i (l.length:Nat)),(8,.i (i:Nat))],[(BIG,.var [.sl paS b])]⟩ =
  (bc (decide ((i:Int)<l.length)) ((0:Int)<=i/\(i:Int)<l.length/\ctUne.pre ((gtP l (i:Int).toNat),(b,()),())/\bc (uneB b (gtP l (i:Int).toNat)) (Q [.i i] [(1099511627776,.var [.sl paS b])]) (R (hd Tryz.f158 0) { env:=[(0,.sl paS l),(1,.fn (131:Nat) [] [.ptr 1099511627776 0]),(7,.i l.length),(8,.i (IntKind.i64.wrap ((i:Int)+1)))],blk:=[(1099511627776,.var [.sl paS b])] })) (Q [.i (-1:Int)] [(1099511627776,.var [.sl paS b])])):=by kernel_rfl
theorem q9e (l b:List PaT) (Q:QT) (R:RT):sA [(158,.inr ctIfU)] Tryz.f130 Q R [.code (qad Tryz.f130)] (qa7 KU (l,((),((b,()),())),())) =
  (ctIfU.pre (l,((),(b,()),()),())/\Q [.bool (decide ((0:Int)<=ixF (uneB b) l (0:Nat)))] [(1099511627776,.var [.sl paS b])]):=by kernel_rfl
abbrev QIx (b:List PaT) (v:SV):List SV->List (Nat × LB)->Prop:=λ rs blk=>rs=[v]/\lk blk BIG=some (LB.var [.sl paS b])
theorem qoy {l:List PaT} {i:Nat} (h:i<l.length):gtP l i=l[i]:=gtE (e:=paS) h
theorem qqj (p:PaT->Bool):∀ (l:List PaT) (i:Nat),decide ((0:Int)<=ixF p l i)=l.any p
 | [],i=>rfl
 | x::r,i=>by
  rw[ixF,List.any_cons];cases h:p x with
  | true=>simp only[Bool.true_or,decide_eq_true_eq];omega
  | false=>simp only[Bool.false_or];exact qqj p r (i+1)
theorem q1b {l b:List PaT} {v:SV} (hb:0<b.length) (hl:l.length<1000000):∀ (k i:Nat),l.length-i=k->i<=l.length->v=.i (ixF (othB b) (l.drop i) i)->GD 158 Tryz.f158 (QIx b v) (hd Tryz.f158 0) ⟨[(0,.sl paS l),(1,.fn 129 [] [.ptr BIG 0]),(7,.i (l.length:Nat)),(8,.i (i:Nat))],[(BIG,.var [.sl paS b])]⟩:=by
 intro k
 induction k with
 | zero=>
  intro i hk hi hv;have hi:i=l.length:=by omega
  subst hi;refine qak cx9 (qu1 l b l.length _ _) ?_;rw[decide_eq_false (by omega),bc_f];rw[List.drop_length] at hv;exact ⟨by rw[hv];rfl,rfl⟩
 | succ k ih=>
  intro i hk hi hv;have hil:i<l.length:=by omega
  refine qak cx9 (qu1 l b i _ _) ?_;rw[decide_eq_true (show (i:Int)<(l.length:Int) by omega),bc_t];simp only[Int.toNat_natCast];rw[qa4 hil,ixF,<- qoy hil] at hv;refine ⟨by omega,by omega,hb,qaf (λ h=>?_) (λ h=>?_)⟩
  ·have h:othB b (gtP l i)=true:=h;rw[h] at hv;exact ⟨by rw[hv],rfl⟩
  ·have h:othB b (gtP l i)=false:=h;rw[h] at hv;have nx:=ih (i+1) (by omega) (by omega) hv;rw[wr2 i (by omega)];exact nx.only ⟨rfl,rfl,rfl,rfl,trivial⟩ ⟨rfl,trivial⟩
theorem q1c:HeldI Tryz.prog G0 158 ctIfO:=HeldI.of cx9 (fn:=Tryz.f158) rfl rfl ⟨by decide,by decide⟩ λ ⟨l,⟨⟨⟩,⟨⟨b,⟨⟩⟩,⟨⟩⟩⟩,⟨⟩⟩ hp=>by
 obtain ⟨hb,hl⟩:qtg l b:=hp;refine qak cx9 (q85 l b _ _) (((q1b (v:=.i (ixF (othB b) l 0)) hb hl _ 0 rfl (Nat.zero_le _) rfl).post λ rs blk hq=>?_).only ⟨rfl,rfl,rfl,rfl,trivial⟩ ⟨rfl,trivial⟩);refine QI.self hq.1.symm (by rw[hq.1];rfl) rfl (λ p hp=>?_);have hp:p∈[(BIG,LB.var [SV.sl paS b])]:=hp;rw[List.mem_singleton] at hp;subst hp;exact hq.2
def ctCfO:CtrI:=⟨KO,λ x=>qtg x.1 x.2.1.2.1.1,λ x=>[.bool (List.any x.1 (othB x.2.1.2.1.1))],λ x=>bkKL 0 KO x⟩
theorem q1u:HeldI Tryz.prog G0 130 ctCfO:=HeldI.run (cx0.consI q1c (fn:=Tryz.f158) rfl rfl rfl) (fn:=Tryz.f130) rfl rfl ⟨by decide,by decide⟩ λ ⟨l,⟨⟨⟩,⟨⟨b,⟨⟩⟩,⟨⟩⟩⟩,⟨⟩⟩ hp=>by
 refine (q9f l b _ _).mpr ⟨hp,QI.self ?_ rfl rfl (λ p hp=>?_)⟩
 ·show [SV.bool (List.any l (othB b))]=[SV.bool (decide ((0:Int)<=ixF (othB b) l 0))]
  rw[qqj]
 ·have hp:p∈[(BIG,LB.var [SV.sl paS b])]:=hp;rw[List.mem_singleton] at hp;subst hp;rfl
theorem q09 {l b:List PaT} {v:SV} (hb:0<b.length) (hl:l.length<1000000):∀ (k i:Nat),l.length-i=k->i<=l.length->v=.i (ixF (uneB b) (l.drop i) i)->GD 158 Tryz.f158 (QIx b v) (hd Tryz.f158 0) ⟨[(0,.sl paS l),(1,.fn 131 [] [.ptr BIG 0]),(7,.i (l.length:Nat)),(8,.i (i:Nat))],[(BIG,.var [.sl paS b])]⟩:=by
 intro k
 induction k with
 | zero=>
  intro i hk hi hv;have hi:i=l.length:=by omega
  subst hi;refine qak cx9 (qu0 l b l.length _ _) ?_;rw[decide_eq_false (by omega),bc_f];rw[List.drop_length] at hv;exact ⟨by rw[hv];rfl,rfl⟩
 | succ k ih=>
  intro i hk hi hv;have hil:i<l.length:=by omega
  refine qak cx9 (qu0 l b i _ _) ?_;rw[decide_eq_true (show (i:Int)<(l.length:Int) by omega),bc_t];simp only[Int.toNat_natCast];rw[qa4 hil,ixF,<- qoy hil] at hv;refine ⟨by omega,by omega,hb,qaf (λ h=>?_) (λ h=>?_)⟩
  ·have h:uneB b (gtP l i)=true:=h;rw[h] at hv;exact ⟨by rw[hv],rfl⟩
  ·have h:uneB b (gtP l i)=false:=h;rw[h] at hv;have nx:=ih (i+1) (by omega) (by omega) hv;rw[wr2 i (by omega)];exact nx.only ⟨rfl,rfl,rfl,rfl,trivial⟩ ⟨rfl,trivial⟩
theorem q1a:HeldI Tryz.prog G0 158 ctIfU:=HeldI.of cx9 (fn:=Tryz.f158) rfl rfl ⟨by decide,by decide⟩ λ ⟨l,⟨⟨⟩,⟨⟨b,⟨⟩⟩,⟨⟩⟩⟩,⟨⟩⟩ hp=>by
 obtain ⟨hb,hl⟩:qtg l b:=hp;refine qak cx9 (q84 l b _ _) (((q09 (v:=.i (ixF (uneB b) l 0)) hb hl _ 0 rfl (Nat.zero_le _) rfl).post λ rs blk hq=>?_).only ⟨rfl,rfl,rfl,rfl,trivial⟩ ⟨rfl,trivial⟩);refine QI.self hq.1.symm (by rw[hq.1];rfl) rfl (λ p hp=>?_);have hp:p∈[(BIG,LB.var [SV.sl paS b])]:=hp;rw[List.mem_singleton] at hp;subst hp;exact hq.2
def ctCfU:CtrI:=⟨KU,λ x=>qtg x.1 x.2.1.2.1.1,λ x=>[.bool (List.any x.1 (uneB x.2.1.2.1.1))],λ x=>bkKL 0 KU x⟩
theorem q1t:HeldI Tryz.prog G0 130 ctCfU:=HeldI.run (cx0.consI q1a (fn:=Tryz.f158) rfl rfl rfl) (fn:=Tryz.f130) rfl rfl ⟨by decide,by decide⟩ λ ⟨l,⟨⟨⟩,⟨⟨b,⟨⟩⟩,⟨⟩⟩⟩,⟨⟩⟩ hp=>by
 refine (q9e l b _ _).mpr ⟨hp,QI.self ?_ rfl rfl (λ p hp=>?_)⟩
 ·show [SV.bool (List.any l (uneB b))]=[SV.bool (decide ((0:Int)<=ixF (uneB b) l 0))]
  rw[qqj]
 ·have hp:p∈[(BIG,LB.var [SV.sl paS b])]:=hp;rw[List.mem_singleton] at hp;subst hp;rfl
def C10:CV:=[(22,.inl ctSym),(130,.inr ctCfO),(130,.inr ctCfU)]
theorem cx10:CxOK Tryz.prog tt G0 C10:=((cx0.consI q1t (fn:=Tryz.f130) rfl rfl rfl).consI q1u (fn:=Tryz.f130) rfl rfl rfl).k qmx (fn:=Tryz.f22)
set_option maxRecDepth 100000
theorem q8d (l:List PaT) (Q:QT) (R:RT):sA C10 Tryz.f81 Q (λ it S=>R it (qa5 [1,4,11,12,13] [1,28] S)) [.code (qad Tryz.f81)] (entry [slP] (l,())) =
  (R (hd Tryz.f81 0) { env:=[(1,.ptr 1 0),(4,.nils),(11,.sl paS l),(12,.i l.length),(13,.i 0)],blk:=[(1,.var [.sl paS l])] }):=by kernel_rfl
theorem q34 (l:List PaT) (i:Nat) (Q:QT) (R:RT):sA C10 Tryz.f81 Q (λ it S=>R it (qa5 [1,4,11,12,13] [1,28] S)) (hd Tryz.f81 0) ⟨[(1,.ptr 1 0),(4,.nils),(11,.sl paS l),(12,.i (l.length:Nat)),(13,.i (i:Nat))],[(1,.var [.sl paS l])]⟩ =
  (bc (decide ((i:Int)<l.length)) ((0:Int)<=i/\(i:Int)<l.length/\ctSym.pre ((gtP l (i:Int).toNat),())/\bc (decide ((symV (gtP l (i:Int).toNat)).2≠0)) (Q [.nils,.i (symV (gtP l (i:Int).toNat)).2] [(1,.var [.sl paS l]),(6,.var [.bool (gtP l (i:Int).toNat).1,.i (gtP l (i:Int).toNat).2.1,.i (gtP l (i:Int).toNat).2.2.1,.sl opS (gtP l (i:Int).toNat).2.2.2]),(1077824,.row 93 syS (symV (gtP l (i:Int).toNat)).1)]) (0+(symV (gtP l (i:Int).toNat)).1.length<=(symV (gtP l (i:Int).toNat)).1.length/\0+(symV (gtP l (i:Int).toNat)).1.length<=(symV (gtP l (i:Int).toNat)).1.length/\0+(symV (gtP l (i:Int).toNat)).1.length<=(symV (gtP l (i:Int).toNat)).1.length/\0+(symV (gtP l (i:Int).toNat)).1.length<=(symV (gtP l (i:Int).toNat)).1.length/\0+(symV (gtP l (i:Int).toNat)).1.length<=(symV (gtP l (i:Int).toNat)).1.length/\0+1<=((List.replicate (1:Nat) syS.sl.dflt).set (0:Nat) (winL syS 0 (symV (gtP l (i:Int).toNat)).1.length (symV (gtP l (i:Int).toNat)).1)).length/\(winL ((λ self=>self.6) (mkT (1:Nat) (24:Nat) false (TK.slice (93:TypeId)) syS.sl none)) (0:Nat) (1:Nat) ((List.replicate (1:Nat) syS.sl.dflt).set (0:Nat) (winL syS 0 (symV (gtP l (i:Int).toNat)).1.length (symV (gtP l (i:Int).toNat)).1))).length<2 ^ 30/\(24:Nat)<=2 ^ 10/\R (hd Tryz.f81 0) { env:=[(1,.ptr 1 0),(4,.win true syS.sl (28:Nat) (0:Nat) (1:Nat)),(11,.sl paS l),(12,.i l.length),(13,.i (IntKind.i64.wrap ((i:Int)+1)))],blk:=[(1,.var [.sl paS l]),(28,.row 33 syS.sl (winL ((λ self=>self.6) (mkT (1:Nat) (24:Nat) false (TK.slice (93:TypeId)) syS.sl none)) (0:Nat) (1:Nat) ((List.replicate (1:Nat) syS.sl.dflt).set (0:Nat) (winL syS 0 (symV (gtP l (i:Int).toNat)).1.length (symV (gtP l (i:Int).toNat)).1))))] })) (ctCfO.pre (l,((),(l,()),()),())/\bc (l.any (othB l)) (Q [.nils,.i 62] [(1,.var [.sl paS l])]) (ctCfU.pre (l,((),(l,()),()),())/\bc (l.any (uneB l)) (Q [.nils,.i 61] [(1,.var [.sl paS l])]) (Q [.nils,.i 0] [(1,.var [.sl paS l])])))):=by kernel_rfl
theorem quk (l:List PaT) (a:List (List SyT)) (i:Nat) (Q:QT) (R:RT):sA C10 Tryz.f81 Q (λ it S=>R it (qa5 [1,4,11,12,13] [1,28] S)) (hd Tryz.f81 0) ⟨[(1,.ptr 1 0),(4,.win true slY 28 0 a.length),(11,.sl paS l),(12,.i (l.length:Nat)),(13,.i (i:Nat))],[(1,.var [.sl paS l]),(28,.row 33 slY a)]⟩ =
  (bc (decide ((i:Int)<l.length)) ((0:Int)<=i/\(i:Int)<l.length/\ctSym.pre ((gtP l (i:Int).toNat),())/\bc (decide ((symV (gtP l (i:Int).toNat)).2≠0)) (Q [.nils,.i (symV (gtP l (i:Int).toNat)).2] [(1,.var [.sl paS l]),(6,.var [.bool (gtP l (i:Int).toNat).1,.i (gtP l (i:Int).toNat).2.1,.i (gtP l (i:Int).toNat).2.2.1,.sl opS (gtP l (i:Int).toNat).2.2.2]),(28,.row 33 syS.sl a),(1077824,.row 93 syS (symV (gtP l (i:Int).toNat)).1)]) (0+(symV (gtP l (i:Int).toNat)).1.length<=(symV (gtP l (i:Int).toNat)).1.length/\0+(symV (gtP l (i:Int).toNat)).1.length<=(symV (gtP l (i:Int).toNat)).1.length/\0+(symV (gtP l (i:Int).toNat)).1.length<=(symV (gtP l (i:Int).toNat)).1.length/\0+(symV (gtP l (i:Int).toNat)).1.length<=(symV (gtP l (i:Int).toNat)).1.length/\0+(symV (gtP l (i:Int).toNat)).1.length<=(symV (gtP l (i:Int).toNat)).1.length/\0+1<=((List.replicate (1:Nat) syS.sl.dflt).set (0:Nat) (winL syS 0 (symV (gtP l (i:Int).toNat)).1.length (symV (gtP l (i:Int).toNat)).1)).length/\a.length=a.length/\(0:Nat)=(0:Nat)/\a.length+(winL ((λ self=>self.6) (mkT (1:Nat) (24:Nat) false (TK.slice (93:TypeId)) syS.sl none)) (0:Nat) (1:Nat) ((List.replicate (1:Nat) syS.sl.dflt).set (0:Nat) (winL syS 0 (symV (gtP l (i:Int).toNat)).1.length (symV (gtP l (i:Int).toNat)).1))).length<2 ^ 30/\(24:Nat)<=2 ^ 10/\R (hd Tryz.f81 0) { env:=[(1,.ptr 1 0),(4,.win true syS.sl (28:Nat) (0:Nat) (a.length+(winL ((λ self=>self.6) (mkT (1:Nat) (24:Nat) false (TK.slice (93:TypeId)) syS.sl none)) (0:Nat) (1:Nat) ((List.replicate (1:Nat) syS.sl.dflt).set (0:Nat) (winL syS 0 (symV (gtP l (i:Int).toNat)).1.length (symV (gtP l (i:Int).toNat)).1))).length)),(11,.sl paS l),(12,.i l.length),(13,.i (IntKind.i64.wrap ((i:Int)+1)))],blk:=[(1,.var [.sl paS l]),(28,.row 33 syS.sl (a++winL syS.sl (0:Nat) (1:Nat) ((List.replicate (1:Nat) syS.sl.dflt).set (0:Nat) (winL syS 0 (symV (gtP l (i:Int).toNat)).1.length (symV (gtP l (i:Int).toNat)).1))))] })) (ctCfO.pre (l,((),(l,()),()),())/\bc (l.any (othB l)) (Q [.nils,.i 62] [(1,.var [.sl paS l]),(28,.row 33 syS.sl a)]) (ctCfU.pre (l,((),(l,()),()),())/\bc (l.any (uneB l)) (Q [.nils,.i 61] [(1,.var [.sl paS l]),(28,.row 33 syS.sl a)]) (Q [.win true syS.sl (28:Nat) (0:Nat) a.length,.i 0] [(1,.var [.sl paS l]),(28,.row 33 syS.sl a)])))):=by kernel_rfl
def syEr:List PaT->Int
 | []=>0
 | p::r=>match decide ((symV p).2≠0) with
  | true=>(symV p).2
  | false=>syEr r
def sySy (p:PaT):List SyT:=(symV p).1
def qah (l:List PaT):List (List SyT) × Int:=match decide (syEr l≠0) with
 | true=>([],syEr l)
 | false=>match l.any (othB l) with
  | true=>([],62)
  | false=>match l.any (uneB l) with
   | true=>([],61)
   | false=>(l.map sySy,0)
def q91 (l:List PaT):Prop:=0<l.length/\l.length<1000000
def ctSyo:Ctr:=⟨[slP],λ x=>q91 x.1,λ x=>[.win true slY 0 0 (qah x.1).1.length,.i (qah x.1).2],λ x=>[.row 33 slY (qah x.1).1]⟩
theorem qmw {l:List PaT} {v:Int} {blk:List (Nat × LB)} (h:qah l=([],v)):QC ctSyo (l,()) [.nils,.i v] blk:=by
 refine QC.nil1 (e:=slY) (et:=33) ?_ ?_ (by decide)
 ·show [SV.win true slY 0 0 (qah l).1.length,SV.i (qah l).2]=_;rw[h];rfl
 ·show [LB.row 33 slY (qah l).1]=_;rw[h]
theorem qpu {l:List PaT} (h:syEr l≠0):qah l=([],syEr l):=by unfold qah;rw[decide_eq_true h]
theorem qvb {l:List PaT} (h:syEr l=0) (h2:l.any (othB l)=true):qah l=([],62):=by unfold qah;rw[decide_eq_false (by simp[h]),h2]
theorem qva {l:List PaT} (h:syEr l=0) (h2:l.any (othB l)=false) (h3:l.any (uneB l)=true):qah l=([],61):=by unfold qah;rw[decide_eq_false (by simp[h]),h2,h3]
theorem qpt {l:List PaT} (h:syEr l=0) (h2:l.any (othB l)=false) (h3:l.any (uneB l)=false):qah l=(l.map sySy,0):=by unfold qah;rw[decide_eq_false (by simp[h]),h2,h3]
theorem q7j {l:List PaT} {i:Nat} (h:i<l.length):l.drop i=gtP l i::l.drop (i+1):=by rw[qa4 h,<- qoy h]
theorem q9k {l:List PaT} {i:Nat} (h:i<l.length):(l.take (i+1)).map sySy=(l.take i).map sySy++[sySy (gtP l i)]:=by
 rw[List.take_add_one,List.getElem?_eq_getElem h,<- qoy h,List.map_append];rfl
theorem q2z {l:List PaT} {i:Nat} (h:i<l.length):((symV (gtP l i)).2≠0->syEr (l.drop i)=(symV (gtP l i)).2)/\((symV (gtP l i)).2=0->syEr (l.drop i)=syEr (l.drop (i+1))):=by
 rw[q7j h,syEr];constructor
 ·intro hq;rw[decide_eq_true hq]
 ·intro hq;rw[decide_eq_false (by simp[hq])]
section
variable (l:List PaT) (hl0:0<l.length) (hl1:l.length<1000000)
abbrev syS' (i:Nat) (w:SV) (bs:List (Nat × LB)):PS:=⟨[(1,.ptr 1 0),(4,w),(11,.sl paS l),(12,.i (l.length:Nat)),(13,.i (i:Nat))],(1,.var [.sl paS l])::bs⟩
include hl0 hl1
theorem qu8:∀ (k i:Nat) (a:List (List SyT)),l.length-i=k->i<=l.length->a=(l.take i).map sySy->syEr (l.drop i)=syEr l->GD 81 Tryz.f81 (QC ctSyo (l,())) (hd Tryz.f81 0) (syS' l i (.win true slY 28 0 a.length) [(28,.row 33 slY a)]):=by
 intro k
 induction k with
 | zero=>
  intro i a hk hi ha he;have hi:i=l.length:=by omega
  subst hi;rw[List.drop_length] at he;have he:syEr l=0:=he.symm;rw[List.take_length] at ha;refine qak cx10 (quk l a l.length _ _) ?_;rw[decide_eq_false (by omega),bc_f];refine ⟨⟨hl0,hl1⟩,qaf (λ h=>qmw (qvb he h)) (λ h=>⟨⟨hl0,hl1⟩,qaf (λ h2=>qmw (qva he h h2)) (λ h2=>?_)⟩)⟩;have hv:=qpt he h h2;rw[<- ha] at hv;refine QC.row1 (e:=slY) (xs:=a) (et:=33) (n:=0) ?_ ?_ rfl rfl rfl
  ·show [SV.win true slY 0 0 (qah l).1.length,SV.i (qah l).2]=_;rw[hv]
  ·show [LB.row 33 slY (qah l).1]=_;rw[hv]
 | succ k ih=>
  intro i a hk hi ha he;have hil:i<l.length:=by omega
  obtain ⟨d1,d2⟩:=q2z hil;have hal:a.length=i:=by rw[ha,List.length_map,List.length_take];omega
  refine qak cx10 (quk l a i _ _) ?_;rw[decide_eq_true (show (i:Int)<(l.length:Int) by omega),bc_t];simp only[Int.toNat_natCast];refine ⟨by omega,by omega,trivial,qaf (λ h=>?_) (λ h=>?_)⟩
  ·have h:(symV (gtP l i)).2≠0:=of_decide_eq_true h;refine qmw ?_;rw[qpu (by rw[<- he,d1 h];exact h),<- he,d1 h]
  ·have h:(symV (gtP l i)).2=0:=by have:=of_decide_eq_false h;simpa using this
   have nx:=ih (i+1) (a++[sySy (gtP l i)]) (by omega) (by omega) (by rw[q9k hil,<- ha]) ((d2 h).symm.trans he);have e:winL syS 0 (symV (gtP l i)).1.length (symV (gtP l i)).1=sySy (gtP l i):=winA (e:=syS) _;rw[wr2 i (by omega)];refine ⟨by omega,by omega,by omega,by omega,by omega,Nat.le_refl 1,trivial,trivial,(show a.length+1<2 ^ 30 by omega),by decide,?_⟩;refine nx.only ⟨rfl,by rw[List.length_append];rfl,rfl,rfl,rfl,trivial⟩ ⟨rfl,?_,trivial⟩;rw[<- e];rfl
theorem qs5:GD 81 Tryz.f81 (QC ctSyo (l,())) (hd Tryz.f81 0) (syS' l 0 .nils []):=by
 obtain ⟨d1,d2⟩:=q2z hl0;refine qak cx10 (q34 l 0 _ _) ?_;rw[decide_eq_true (show ((0:Nat):Int)<(l.length:Int) by omega),bc_t];simp only[Int.toNat_natCast];refine ⟨by omega,by omega,trivial,qaf (λ h=>?_) (λ h=>?_)⟩
 ·have h:(symV (gtP l 0)).2≠0:=of_decide_eq_true h;refine qmw ?_;have he:syEr l=(symV (gtP l 0)).2:=d1 h;rw[qpu (by rw[he];exact h),he]
 ·have h:(symV (gtP l 0)).2=0:=by have:=of_decide_eq_false h;simpa using this
  have nx:=qu8 l hl0 hl1 _ 1 [sySy (gtP l 0)] rfl (by omega) (by rw[q9k hl0];rfl) (d2 h).symm;have e:winL syS 0 (symV (gtP l 0)).1.length (symV (gtP l 0)).1=sySy (gtP l 0):=winA (e:=syS) _;rw[wr2 0 (by omega)];refine ⟨by omega,by omega,by omega,by omega,by omega,Nat.le_refl 1,(show 1<2 ^ 30 by decide),by decide,?_⟩;refine nx.only ⟨rfl,rfl,rfl,rfl,rfl,trivial⟩ ⟨rfl,?_,trivial⟩;rw[<- e];rfl
end
theorem qza:Held Tryz.prog G0 81 ctSyo:=Held.of cx10 (fn:=Tryz.f81) rfl rfl ⟨by decide,by decide⟩ λ ⟨l,⟨⟩⟩ hp=>
 qak cx10 (q8d l _ _) ((qs5 l hp.1 hp.2).only ⟨rfl,rfl,rfl,rfl,rfl,trivial⟩ ⟨rfl,trivial⟩)
def ctCln:Ctr:=⟨[slY],λ x=>x.1.length<1000000,λ x=>[.win true syS 0 0 (List.length x.1)],λ x=>[.row 93 syS x.1]⟩
abbrev gtSs (l:List (List SyT)) (i:Nat):List SyT:=gt slY l i
def ctRdf:Ctr:=⟨[slY],λ x=>evY x.1,λ x=>[.sl .bool (rdbV x.1)],λ _=>[]⟩
def C11:CV:=(90,.inl ctRdf)::(81,.inl ctSyo)::(136,.inl ctDis)::(93,.inl ctCln)::(94,.inl ctCp)::(53,.inl ctFo)::C8
abbrev KM:List AK:=[.ptr [.row 93 syS]]
set_option maxRecDepth 100000
theorem q9a (l:List SyT) (Q:QT) (R:RT):sA [] Tryz.f93 Q R [.code (qad Tryz.f93)] (entry [slY] (l,())) =
  (∀ (r:Bool),(r=true->l=[])->bc r (Q [.nils] []) ((0:Nat)=(List.replicate (0:Nat) syS.dflt).length/\(0:Nat)=(0:Nat)/\0+l.length<2 ^ 30/\(24:Nat)<=2 ^ 10/\Q [.win true syS 7 0 (0+l.length)] [(7,.row 93 syS (List.replicate (0:Nat) syS.dflt++l))])):=by kernel_rfl
theorem q4s (li:Bool) (m o:Int) (l:List OpT) (Q:QT) (R:RT):sA C11 Tryz.f33 Q R [.code (qad Tryz.f33)] (entry [paS] ((li,m,o,l),())) =
  (0+1<=([(li,m,o,l)]:List paS.D).length/\ctSyo.pre (([(li,m,o,l)]:List paS.D),())/\bc (decide ((qah (([(li,m,o,l)]:List paS.D))).2≠0)) (Q [.nils,.i (qah (([(li,m,o,l)]:List paS.D))).2] [(1,.var (pL li m o l)),(1036864,.row 33 syS.sl (qah (([(li,m,o,l)]:List paS.D))).1)]) ((0:Int)<=0/\(0:Int)<(↑(qah (([(li,m,o,l)]:List paS.D))).1.length:Int)/\0+0<(qah (([(li,m,o,l)]:List paS.D))).1.length/\ctWhT.pre (gtSs (qah (([(li,m,o,l)]:List paS.D))).1 (0+0),((),()),())/\ctRgT.pre (((),(gtSs (qah (([(li,m,o,l)]:List paS.D))).1 (0+0),()),(((),()),()),()),())/\Q [.win true rgS 1077824 0 (rgTV (gtSs (qah (([(li,m,o,l)]:List paS.D))).1 (0+0))).length,.i 0] [(1,.var (pL li m o l)),(1036864,.row 33 syS.sl (qah (([(li,m,o,l)]:List paS.D))).1),(1077824,.row 127 rgS (rgTV (gtSs (qah (([(li,m,o,l)]:List paS.D))).1 (0+0))))])):=by kernel_rfl
theorem q8v (li:Bool) (m o:Int) (l:List OpT) (Q:QT) (R:RT):sA C11 Tryz.f35 Q R [.code (qad Tryz.f35)] (entry [paS] ((li,m,o,l),())) =
  (0+1<=([(li,m,o,l)]:List paS.D).length/\ctSyo.pre (([(li,m,o,l)]:List paS.D),())/\bc (decide ((qah (([(li,m,o,l)]:List paS.D))).2≠0)) (Q [.nils,.i (qah (([(li,m,o,l)]:List paS.D))).2] [(1,.var (pL li m o l)),(1040960,.row 33 syS.sl (qah (([(li,m,o,l)]:List paS.D))).1)]) ((0:Int)<=0/\(0:Int)<(↑(qah (([(li,m,o,l)]:List paS.D))).1.length:Int)/\0+0<(qah (([(li,m,o,l)]:List paS.D))).1.length/\ctRdf.pre (gtSs (qah (([(li,m,o,l)]:List paS.D))).1 (0+0),())/\ctWhR.pre (rdbV (gtSs (qah (([(li,m,o,l)]:List paS.D))).1 (0+0)),((),()),())/\ctRgR.pre (((),(rdbV (gtSs (qah (([(li,m,o,l)]:List paS.D))).1 (0+0)),()),(((),()),()),()),())/\Q [.win true rgS 1090112 0 (rgRV (rdbV (gtSs (qah (([(li,m,o,l)]:List paS.D))).1 (0+0)))).length,.i 0] [(1,.var (pL li m o l)),(1040960,.row 33 syS.sl (qah (([(li,m,o,l)]:List paS.D))).1),(1090112,.row 127 rgS (rgRV (rdbV (gtSs (qah (([(li,m,o,l)]:List paS.D))).1 (0+0)))))])):=by kernel_rfl
theorem q8y (li:Bool) (m o:Int) (l:List OpT) (li2:Bool) (m2 o2:Int) (l2:List OpT) (Q:QT) (R:RT):sA C11 Tryz.f38 Q R [.code (qad Tryz.f38)] (entry [paS,paS] ((li,m,o,l),(li2,m2,o2,l2),())) =
  (0+2<=([(li,m,o,l),(li2,m2,o2,l2)]:List paS.D).length/\ctSyo.pre (([(li,m,o,l),(li2,m2,o2,l2)]:List paS.D),())/\bc (decide ((qah (([(li,m,o,l),(li2,m2,o2,l2)]:List paS.D))).2≠0)) (Q [.nils,.i (qah (([(li,m,o,l),(li2,m2,o2,l2)]:List paS.D))).2] [(2,.var (pL li m o l)),(3,.var (pL li2 m2 o2 l2)),(1049152,.row 33 syS.sl (qah (([(li,m,o,l),(li2,m2,o2,l2)]:List paS.D))).1)]) ((0:Int)<=0/\(0:Int)<(↑(qah (([(li,m,o,l),(li2,m2,o2,l2)]:List paS.D))).1.length:Int)/\0+0<(qah (([(li,m,o,l),(li2,m2,o2,l2)]:List paS.D))).1.length/\(0:Int)<=1/\(1:Int)<(↑(qah (([(li,m,o,l),(li2,m2,o2,l2)]:List paS.D))).1.length:Int)/\0+1<(qah (([(li,m,o,l),(li2,m2,o2,l2)]:List paS.D))).1.length/\ctCls.pre (gtSs (qah (([(li,m,o,l),(li2,m2,o2,l2)]:List paS.D))).1 (0+0),gtSs (qah (([(li,m,o,l),(li2,m2,o2,l2)]:List paS.D))).1 (0+1),())/\Q [.win true rgS 1098304 0 (rgCV (gtSs (qah (([(li,m,o,l),(li2,m2,o2,l2)]:List paS.D))).1 (0+0)) (gtSs (qah (([(li,m,o,l),(li2,m2,o2,l2)]:List paS.D))).1 (0+1))).length,.i 0] [(2,.var (pL li m o l)),(3,.var (pL li2 m2 o2 l2)),(1049152,.row 33 syS.sl (qah (([(li,m,o,l),(li2,m2,o2,l2)]:List paS.D))).1),(1098304,.row 127 rgS (rgCV (gtSs (qah (([(li,m,o,l),(li2,m2,o2,l2)]:List paS.D))).1 (0+0)) (gtSs (qah (([(li,m,o,l),(li2,m2,o2,l2)]:List paS.D))).1 (0+1))))])):=by kernel_rfl
def qig (li:Bool) (m o:Int) (l:List OpT) (li2:Bool) (m2 o2:Int) (l2:List OpT):List (Nat × LB):=[(2,.var (pL li m o l)),(3,.var (pL li2 m2 o2 l2)),(4,.var [.bool false,.i 0,.i 0,.nils]),(5,.var [.bool false,.i 0,.i 0,.nils]),(1061440,.row 33 syS.sl (qah (([(li,m,o,l),(li2,m2,o2,l2)]:List paS.D))).1)]
theorem q8x (li:Bool) (m o:Int) (l:List OpT) (li2:Bool) (m2 o2:Int) (l2:List OpT) (Q:QT) (R:RT):sA C11 Tryz.f96 Q R [.code (qad Tryz.f96)] (entry [paS,paS] ((li,m,o,l),(li2,m2,o2,l2),())) =
  (0+2<=([(li,m,o,l),(li2,m2,o2,l2)]:List paS.D).length/\ctSyo.pre (([(li,m,o,l),(li2,m2,o2,l2)]:List paS.D),())/\bc (decide ((qah (([(li,m,o,l),(li2,m2,o2,l2)]:List paS.D))).2≠0)) (Q [.agg [.bool false,.i 0,.i 0,.nils],.agg [.bool false,.i 0,.i 0,.nils],.i (qah (([(li,m,o,l),(li2,m2,o2,l2)]:List paS.D))).2] (qig li m o l li2 m2 o2 l2)) ((0:Int)<=0/\(0:Int)<(↑(qah (([(li,m,o,l),(li2,m2,o2,l2)]:List paS.D))).1.length:Int)/\0+0<(qah (([(li,m,o,l),(li2,m2,o2,l2)]:List paS.D))).1.length/\(0:Int)<=1/\(1:Int)<(↑(qah (([(li,m,o,l),(li2,m2,o2,l2)]:List paS.D))).1.length:Int)/\0+1<(qah (([(li,m,o,l),(li2,m2,o2,l2)]:List paS.D))).1.length/\ctDis.pre (gtSs (qah (([(li,m,o,l),(li2,m2,o2,l2)]:List paS.D))).1 (0+0),gtSs (qah (([(li,m,o,l),(li2,m2,o2,l2)]:List paS.D))).1 (0+1),())/\bc (disB (gtSs (qah (([(li,m,o,l),(li2,m2,o2,l2)]:List paS.D))).1 (0+0)) (gtSs (qah (([(li,m,o,l),(li2,m2,o2,l2)]:List paS.D))).1 (0+1))) (true=true/\Q [.agg [.bool false,.i 0,.i 0,.nils],.agg [.bool false,.i 0,.i 0,.nils],.i 110] (qig li m o l li2 m2 o2 l2)) ((0:Int)<=1/\(1:Int)<(↑(qah (([(li,m,o,l),(li2,m2,o2,l2)]:List paS.D))).1.length:Int)/\0+1<(qah (([(li,m,o,l),(li2,m2,o2,l2)]:List paS.D))).1.length/\(0:Int)<=0/\(0:Int)<(↑(qah (([(li,m,o,l),(li2,m2,o2,l2)]:List paS.D))).1.length:Int)/\0+0<(qah (([(li,m,o,l),(li2,m2,o2,l2)]:List paS.D))).1.length/\ctDis.pre (gtSs (qah (([(li,m,o,l),(li2,m2,o2,l2)]:List paS.D))).1 (0+1),gtSs (qah (([(li,m,o,l),(li2,m2,o2,l2)]:List paS.D))).1 (0+0),())/\bc (bif false then true else disB (gtSs (qah (([(li,m,o,l),(li2,m2,o2,l2)]:List paS.D))).1 (0+1)) (gtSs (qah (([(li,m,o,l),(li2,m2,o2,l2)]:List paS.D))).1 (0+0))) (Q [.agg [.bool false,.i 0,.i 0,.nils],.agg [.bool false,.i 0,.i 0,.nils],.i 110] (qig li m o l li2 m2 o2 l2)) (ctFo.pre ((li2,m2,o2,l2),())/\bc (decide ((foV (li2,m2,o2,l2)).2≠0)) (Q [.agg [.bool false,.i 0,.i 0,.nils],.agg [.bool false,.i 0,.i 0,.nils],.i (foV (li2,m2,o2,l2)).2] [(2,.var (pL li m o l)),(3,.var (pL li2 m2 o2 l2)),(4,.var [.bool false,.i 0,.i 0,.nils]),(5,.var [.bool false,.i 0,.i 0,.nils]),(9,.var [.bool (foV (li2,m2,o2,l2)).1.1,.i (foV (li2,m2,o2,l2)).1.2.1,.i (foV (li2,m2,o2,l2)).1.2.2.1,.sl opS (foV (li2,m2,o2,l2)).1.2.2.2]),(1061440,.row 33 syS.sl (qah (([(li,m,o,l),(li2,m2,o2,l2)]:List paS.D))).1)]) (ctFo.pre ((li,m,o,l),())/\bc (decide ((foV (li,m,o,l)).2≠0)) (Q [.agg [.bool false,.i 0,.i 0,.nils],.agg [.bool false,.i 0,.i 0,.nils],.i (foV (li,m,o,l)).2] [(2,.var (pL li m o l)),(3,.var (pL li2 m2 o2 l2)),(4,.var [.bool false,.i 0,.i 0,.nils]),(5,.var [.bool false,.i 0,.i 0,.nils]),(9,.var [.bool (foV (li2,m2,o2,l2)).1.1,.i (foV (li2,m2,o2,l2)).1.2.1,.i (foV (li2,m2,o2,l2)).1.2.2.1,.sl opS (foV (li2,m2,o2,l2)).1.2.2.2]),(10,.var [.bool (foV (li,m,o,l)).1.1,.i (foV (li,m,o,l)).1.2.1,.i (foV (li,m,o,l)).1.2.2.1,.sl opS (foV (li,m,o,l)).1.2.2.2]),(1061440,.row 33 syS.sl (qah (([(li,m,o,l),(li2,m2,o2,l2)]:List paS.D))).1)]) (Q [.agg [.bool (foV (li2,m2,o2,l2)).1.1,.i (foV (li2,m2,o2,l2)).1.2.1,.i (foV (li2,m2,o2,l2)).1.2.2.1,.sl opS (foV (li2,m2,o2,l2)).1.2.2.2],.agg [.bool (foV (li,m,o,l)).1.1,.i (foV (li,m,o,l)).1.2.1,.i (foV (li,m,o,l)).1.2.2.1,.sl opS (foV (li,m,o,l)).1.2.2.2],.i 0] [(2,.var (pL li m o l)),(3,.var (pL li2 m2 o2 l2)),(4,.var [.bool (foV (li2,m2,o2,l2)).1.1,.i (foV (li2,m2,o2,l2)).1.2.1,.i (foV (li2,m2,o2,l2)).1.2.2.1,.sl opS (foV (li2,m2,o2,l2)).1.2.2.2]),(5,.var [.bool (foV (li,m,o,l)).1.1,.i (foV (li,m,o,l)).1.2.1,.i (foV (li,m,o,l)).1.2.2.1,.sl opS (foV (li,m,o,l)).1.2.2.2]),(9,.var [.bool (foV (li2,m2,o2,l2)).1.1,.i (foV (li2,m2,o2,l2)).1.2.1,.i (foV (li2,m2,o2,l2)).1.2.2.1,.sl opS (foV (li2,m2,o2,l2)).1.2.2.2]),(10,.var [.bool (foV (li,m,o,l)).1.1,.i (foV (li,m,o,l)).1.2.1,.i (foV (li,m,o,l)).1.2.2.1,.sl opS (foV (li,m,o,l)).1.2.2.2]),(1061440,.row 33 syS.sl (qah (([(li,m,o,l),(li2,m2,o2,l2)]:List paS.D))).1)])))))):=by kernel_rfl
theorem q8w (li:Bool) (m o:Int) (l:List OpT) (li2:Bool) (m2 o2:Int) (l2:List OpT) (Q:QT) (R:RT):sA C11 Tryz.f40 Q (λ it S=>R it (qa5 [2,4,8,40] [2,4,8,1147456,1163840,1163841] S)) [.code (qad Tryz.f40)] (entry [paS,paS] ((li,m,o,l),(li2,m2,o2,l2),())) =
  (0+2<=([(li,m,o,l),(li2,m2,o2,l2)]:List paS.D).length/\ctSyo.pre (([(li,m,o,l),(li2,m2,o2,l2)]:List paS.D),())/\bc (decide ((qah (([(li,m,o,l),(li2,m2,o2,l2)]:List paS.D))).2≠0)) (Q [.agg [.bool false,.i 0,.i 0,.nils],.i (qah (([(li,m,o,l),(li2,m2,o2,l2)]:List paS.D))).2] [(2,.var (pL li m o l)),(3,.var (pL li2 m2 o2 l2)),(4,.var [.bool false,.i 0,.i 0,.nils]),(1065536,.row 33 syS.sl (qah (([(li,m,o,l),(li2,m2,o2,l2)]:List paS.D))).1)]) ((0:Int)<=0/\(0:Int)<(↑(qah (([(li,m,o,l),(li2,m2,o2,l2)]:List paS.D))).1.length:Int)/\0+0<(qah (([(li,m,o,l),(li2,m2,o2,l2)]:List paS.D))).1.length/\(0:Int)<=1/\(1:Int)<(↑(qah (([(li,m,o,l),(li2,m2,o2,l2)]:List paS.D))).1.length:Int)/\0+1<(qah (([(li,m,o,l),(li2,m2,o2,l2)]:List paS.D))).1.length/\ctCls.pre (gtSs (qah (([(li,m,o,l),(li2,m2,o2,l2)]:List paS.D))).1 (0+0),gtSs (qah (([(li,m,o,l),(li2,m2,o2,l2)]:List paS.D))).1 (0+1),())/\bc (decide ((0:Int)<(↑(rgCV (gtSs (qah (([(li,m,o,l),(li2,m2,o2,l2)]:List paS.D))).1 (0+0)) (gtSs (qah (([(li,m,o,l),(li2,m2,o2,l2)]:List paS.D))).1 (0+1))).length:Int))) (Q [.agg [.bool false,.i 0,.i 0,.nils],.i 110] [(2,.var (pL li m o l)),(3,.var (pL li2 m2 o2 l2)),(4,.var [.bool false,.i 0,.i 0,.nils]),(1065536,.row 33 syS.sl (qah (([(li,m,o,l),(li2,m2,o2,l2)]:List paS.D))).1),(1118784,.row 127 rgS (rgCV (gtSs (qah (([(li,m,o,l),(li2,m2,o2,l2)]:List paS.D))).1 (0+0)) (gtSs (qah (([(li,m,o,l),(li2,m2,o2,l2)]:List paS.D))).1 (0+1))))]) ((0:Int)<=1/\(1:Int)<(↑(qah (([(li,m,o,l),(li2,m2,o2,l2)]:List paS.D))).1.length:Int)/\0+1<(qah (([(li,m,o,l),(li2,m2,o2,l2)]:List paS.D))).1.length/\ctCln.pre (gtSs (qah (([(li,m,o,l),(li2,m2,o2,l2)]:List paS.D))).1 (0+1),())/\(0:Int)<=0/\(0:Int)<(↑(qah (([(li,m,o,l),(li2,m2,o2,l2)]:List paS.D))).1.length:Int)/\0+0<(qah (([(li,m,o,l),(li2,m2,o2,l2)]:List paS.D))).1.length/\ctWhT.pre (gtSs (qah (([(li,m,o,l),(li2,m2,o2,l2)]:List paS.D))).1 (0+0),((),()),())/\R (hd Tryz.f40 0) { env:=[(2,.ptr 2 0),(4,.ptr 4 0),(8,.ptr 8 0),(40,.fn (132:Nat) [] [.ptr (1163840:Nat) 0,.ptr 1163841 0])],blk:=[(2,.var (pL li m o l)),(4,.var [.bool false,.i 0,.i 0,.nils]),(8,.var [.win true syS 1147456 0 (List.length (gtSs (qah (([(li,m,o,l),(li2,m2,o2,l2)]:List paS.D))).1 (0+1)))]),(1147456,.row 93 syS (gtSs (qah (([(li,m,o,l),(li2,m2,o2,l2)]:List paS.D))).1 (0+1))),(1163840,.var [.sl syS (gtSs (qah (([(li,m,o,l),(li2,m2,o2,l2)]:List paS.D))).1 (0+0))]),(1163841,.var [.fn (84:Nat) [] []])] }))):=by kernel_rfl
theorem q4t (b:List SyT) (i:Int) (s:SyT) (j:Nat) (q:Bool) (Q:AExit->Nat × Bool->PS->Prop) (R:List Item->Nat × Bool->PS->Prop):syE tt G0 C11 Tryz.f40.ntmps Y0 Q R .ready 1000 (rnd Tryz.f40 0) (j,q) (qdu [8] [41,42] KM ySy ((b,()),()) (i,s,())) =
  ((0:Int)<=i/\i<(b.length:Int)/\0+i.toNat<b.length/\Q AExit.normal (j,q) { env:=[(9,.i i),(10,.ptr 10 0),(41,.i i),(42,.agg [.bool s.1,.i s.2.1,.u s.2.2]),(8,.ptr 1099511627776 0),(43,.win true syS 1099511627777 0 b.length),(44,.i i),(45,.agg [.bool s.1,.i s.2.1,.u s.2.2]),(46,.elp syS (1099511627777:Nat) (0+i.toNat) (0:Nat))],blk:=[(10,.var [.bool s.1,.i s.2.1,.u s.2.2]),(1099511627776,.var [.win true syS 1099511627777 0 b.length]),(1099511627777,.row 93 syS (b.set (0+i.toNat) s))] }):=by kernel_rfl
theorem q4u (li:Bool) (m o:Int) (l:List OpT) (b:List SyT) (Q:QT) (R:RT):sA C11 Tryz.f40 Q R (rfK Tryz.f40 0) ⟨[(2,.ptr 2 0),(4,.ptr 4 0),(8,.ptr 8 0)],[(2,.var (pL li m o l)),(4,.var [.bool false,.i 0,.i 0,.nils]),(8,.var [.win true syS 1086016 0 b.length]),(1086016,.row 93 syS b)]⟩ =
  (0+b.length<=b.length/\0+b.length<=b.length/\ctCp.pre (winL syS 0 b.length b,m,())/\bc (decide ((cpV (winL syS 0 b.length b) m).2≠0)) (Q [.agg [.bool false,.i 0,.i 0,.nils],.i (cpV (winL syS 0 b.length b) m).2] [(2,.var (pL li m o l)),(4,.var [.bool false,.i 0,.i 0,.nils]),(8,.var [.sl syS (winL syS 0 b.length b)]),(11,.var [.bool (cpV (winL syS 0 b.length b) m).1.1,.i (cpV (winL syS 0 b.length b) m).1.2.1,.i (cpV (winL syS 0 b.length b) m).1.2.2.1,.sl opS (cpV (winL syS 0 b.length b) m).1.2.2.2])]) (Q [.agg [.bool li,.i (cpV (winL syS 0 b.length b) m).1.2.1,.i (cpV (winL syS 0 b.length b) m).1.2.2.1,.sl opS (cpV (winL syS 0 b.length b) m).1.2.2.2],.i 0] [(2,.var (pL li m o l)),(4,.var [.bool li,.i (cpV (winL syS 0 b.length b) m).1.2.1,.i (cpV (winL syS 0 b.length b) m).1.2.2.1,.sl opS (cpV (winL syS 0 b.length b) m).1.2.2.2]),(8,.var [.sl syS (winL syS 0 b.length b)]),(11,.var [.bool li,.i (cpV (winL syS 0 b.length b) m).1.2.1,.i (cpV (winL syS 0 b.length b) m).1.2.2.1,.sl opS (cpV (winL syS 0 b.length b) m).1.2.2.2])])):=by kernel_rfl
theorem QC.nil0 {ct:Ctr} {x:DL ct.args} {blk:List (Nat × LB)} {e:Sh} {et:TypeId} (h:ct.out x=[.win true e 0 0 0]) (hr:ct.rows x=[.row et e []]) (he:0<e.size):QC ct x [.nils] blk:=by
 refine ⟨λ _=>none,?_,?_,λ i j b h1 h2=>(by cases h1),by rw[hr];rfl⟩
 ·rw[h];exact ⟨_,_,rfl,.inr ⟨rfl,rfl,rfl,rfl⟩,rfl⟩
 ·rw[hr];exact ⟨.inr ⟨rfl,et,e,rfl,he⟩,trivial⟩
theorem q1q:Held Tryz.prog G0 93 ctCln:=Held.run cx0 (fn:=Tryz.f93) rfl rfl ⟨by decide,by decide⟩ λ ⟨l,⟨⟩⟩ hp=>by
 have hp:l.length<1000000:=hp;refine (q9a l _ _).mpr λ r hr=>qaf (λ h=>?_) (λ h=>⟨rfl,rfl,(by omega),by decide,?_⟩)
 ·have hl:l=[]:=hr h;subst hl;exact QC.nil0 (e:=syS) (et:=93) rfl rfl (by decide)
 ·refine QC.row0 (e:=syS) (xs:=l) (et:=93) rfl rfl rfl (Nat.zero_add _) ?_
  show some (LB.row 93 syS _)=_
  rfl
theorem qzy:Held Tryz.prog G0 90 ctRdf:=by
 have h:=rdb_held.frz (λ x _=>by
  show inL 0 (rdbV x.1).length [SV.win true .bool 0 0 (rdbV x.1).length]/\True
  exact ⟨⟨λ _=>by omega,trivial⟩,trivial⟩)
 refine h.iff rfl (λ x h=>h) (λ x _=>?_) (λ x _=>rfl)
 show [SV.sl .bool (rdbV x.1)]=[SV.sl .bool (winL .bool 0 (rdbV x.1).length (rdbV x.1))]
 rw[winA (e:=.bool)]
theorem cx11:CxOK Tryz.prog tt G0 C11:=((((((cx8.k q7f (fn:=Tryz.f53)).k q7n (fn:=Tryz.f94)).k q1q (fn:=Tryz.f93)).k q1l (fn:=Tryz.f136)).k qza (fn:=Tryz.f81)).k qzy (fn:=Tryz.f90))
theorem q2y {l:List PaT} (h:(qah l).2=0):qah l=(l.map sySy,0)/\syEr l=0/\l.any (othB l)=false/\l.any (uneB l)=false:=by
 by_cases h1:syEr l=0
 ·by_cases h2:l.any (othB l)=true
  ·rw[qvb h1 h2] at h;cases h
  ·by_cases h3:l.any (uneB l)=true
   ·rw[qva h1 (by simpa using h2) h3] at h;cases h
   ·exact ⟨qpt h1 (by simpa using h2) (by simpa using h3),h1,by simpa using h2,by simpa using h3⟩
 ·rw[qpu h1] at h;exact absurd h h1
def evP (p:PaT):Prop:=(symV p).2=0/\p.2.1=p.2.2.1
theorem q5g {p:PaT} {r:List PaT} (h:syEr (p::r)=0):(symV p).2=0/\syEr r=0:=by
 rw[syEr] at h;by_cases hq:(symV p).2=0
 ·rw[decide_eq_false (by simp[hq])] at h;exact ⟨hq,h⟩
 ·rw[decide_eq_true hq] at h;exact absurd h hq
theorem une0 {l:List PaT} {p:PaT} (h:uneB l p=false):p.2.1=p.2.2.1/\p.2.1=(gtP l 0).2.1:=by
 simpa [uneB] using h
theorem q1e (p:PaT) (r:List PaT):gtP (p::r) 0=p:=qoy (l:=p::r) (by simp)
theorem sy1 {p:PaT} (h:(qah [p]).2=0):qah [p]=([sySy p],0)/\evP p:=by
 obtain ⟨h1,h2,_,h4⟩:=q2y h;simp only[List.any_cons,List.any_nil,Bool.or_false] at h4;exact ⟨h1,(q5g h2).1,(une0 h4).1⟩
theorem sy2 {p q:PaT} (h:(qah [p,q]).2=0):qah [p,q]=([sySy p,sySy q],0)/\evP p/\evP q/\p.2.1=q.2.1/\p.1=q.1:=by
 obtain ⟨h1,h2,h3,h4⟩:=q2y h;simp only[List.any_cons,List.any_nil,Bool.or_false,Bool.or_eq_false_iff] at h3 h4;obtain ⟨k1,k2⟩:=q5g h2;have e:=une0 h4.2;rw[q1e] at e;have o:=h3.2;simp only[othB,q1e,bne_eq_false_iff_eq] at o;exact ⟨h1,⟨k1,(une0 h4.1).1⟩,⟨(q5g k2).1,e.1⟩,e.2.symm,o.symm⟩
theorem qfo {p:PaT} (h:evP p):((sySy p).length:Int)=p.2.1/\(0<=p.2.1/\p.2.1<=65536)/\∀ s∈sySy p,sOK p.2.1 s=true:=by
 obtain ⟨h1,h2,h3⟩:=ql3 h.1;exact ⟨h3.trans h.2.symm,h2,h1⟩
theorem ev_Y {p:PaT} (h:evP p):evY (sySy p):=by
 obtain ⟨h1,h2,h3⟩:=qfo h;refine ⟨by omega,λ s hs ho=>?_⟩;have:=qpw (h3 s hs) ho;omega
theorem qxn (a:List SyT) (r:List (List SyT)):gtSs (a::r) 0=a:=gtE (e:=slY) (l:=a::r) (by simp)
theorem q7b (a b:List SyT) (r:List (List SyT)):gtSs (a::b::r) 1=b:=gtE (e:=slY) (l:=a::b::r) (by simp)
def tchV (p:PaT):List (Int × Int) × Int:=match decide ((qah [p]).2≠0) with
 | true=>([],(qah [p]).2)
 | false=>(rgTV (sySy p),0)
def rdV (p:PaT):List (Int × Int) × Int:=match decide ((qah [p]).2≠0) with
 | true=>([],(qah [p]).2)
 | false=>(rgRV (rdbV (sySy p)),0)
def clV (p q:PaT):List (Int × Int) × Int:=match decide ((qah [p,q]).2≠0) with
 | true=>([],(qah [p,q]).2)
 | false=>(rgCV (sySy p) (sySy q),0)
def ctTch:Ctr:=⟨[paS],λ _=>True,λ x=>[.win true rgS 0 0 (tchV x.1).1.length,.i (tchV x.1).2],λ x=>[.row 127 rgS (tchV x.1).1]⟩
def ctRd:Ctr:=⟨[paS],λ _=>True,λ x=>[.win true rgS 0 0 (rdV x.1).1.length,.i (rdV x.1).2],λ x=>[.row 127 rgS (rdV x.1).1]⟩
def ctCl:Ctr:=⟨[paS,paS],λ _=>True,λ x=>[.win true rgS 0 0 (clV x.1 x.2.1).1.length,.i (clV x.1 x.2.1).2],λ x=>[.row 127 rgS (clV x.1 x.2.1).1]⟩
theorem qw3:Held Tryz.prog G0 33 ctTch:=Held.run cx11 (fn:=Tryz.f33) rfl rfl ⟨by decide,by decide⟩ λ ⟨⟨li,m,o,l⟩,⟨⟩⟩ _=>by
 refine (q4s li m o l _ _).mpr ⟨Nat.le_refl _,⟨by simp,by simp⟩,qaf (λ h=>?_) (λ h=>?_)⟩
 ·have e:tchV (li,m,o,l)=([],(qah [(li,m,o,l)]).2):=by unfold tchV;rw[show decide ((qah [(li,m,o,l)]).2≠0)=true from h]
  refine QC.nil1 (e:=rgS) (et:=127) ?_ ?_ (by decide)
  ·show [SV.win true rgS 0 0 (tchV _).1.length,SV.i (tchV _).2]=_;rw[e];rfl
  ·show [LB.row 127 rgS (tchV _).1]=_;rw[e]
 ·have h0:(qah [(li,m,o,l)]).2=0:=by have:=of_decide_eq_false h;simpa using this
  obtain ⟨h1,h2⟩:=sy1 h0;have hY:=ev_Y h2;have e:tchV (li,m,o,l)=(rgTV (sySy (li,m,o,l)),0):=by unfold tchV;rw[show decide ((qah [(li,m,o,l)]).2≠0)=false from h]
  rw[h1];simp only[Nat.add_zero,qxn];refine ⟨by omega,by simp,by simp,trivial,hY.1,?_⟩;refine QC.row1 (e:=rgS) (xs:=rgTV (sySy (li,m,o,l))) (et:=127) (n:=0) ?_ ?_ rfl rfl rfl
  ·show [SV.win true rgS 0 0 (tchV _).1.length,SV.i (tchV _).2]=_;rw[e]
  ·show [LB.row 127 rgS (tchV _).1]=_;rw[e]
theorem q0m:Held Tryz.prog G0 35 ctRd:=Held.run cx11 (fn:=Tryz.f35) rfl rfl ⟨by decide,by decide⟩ λ ⟨⟨li,m,o,l⟩,⟨⟩⟩ _=>by
 refine (q8v li m o l _ _).mpr ⟨Nat.le_refl _,⟨by simp,by simp⟩,qaf (λ h=>?_) (λ h=>?_)⟩
 ·have e:rdV (li,m,o,l)=([],(qah [(li,m,o,l)]).2):=by unfold rdV;rw[show decide ((qah [(li,m,o,l)]).2≠0)=true from h]
  refine QC.nil1 (e:=rgS) (et:=127) ?_ ?_ (by decide)
  ·show [SV.win true rgS 0 0 (rdV _).1.length,SV.i (rdV _).2]=_;rw[e];rfl
  ·show [LB.row 127 rgS (rdV _).1]=_;rw[e]
 ·have h0:(qah [(li,m,o,l)]).2=0:=by have:=of_decide_eq_false h;simpa using this
  obtain ⟨h1,h2⟩:=sy1 h0;have hY:=ev_Y h2;have e:rdV (li,m,o,l)=(rgRV (rdbV (sySy (li,m,o,l))),0):=by unfold rdV;rw[show decide ((qah [(li,m,o,l)]).2≠0)=false from h]
  have hrl:(rdbV (sySy (li,m,o,l))).length=(sySy (li,m,o,l)).length:=by unfold rdbV;rw[qjm,List.length_replicate]
  rw[h1];simp only[Nat.add_zero,qxn];refine ⟨by omega,by simp,by simp,hY,trivial,(show (rdbV (sySy (li,m,o,l))).length<1000000 by rw[hrl];exact hY.1),?_⟩;refine QC.row1 (e:=rgS) (xs:=rgRV (rdbV (sySy (li,m,o,l)))) (et:=127) (n:=0) ?_ ?_ rfl rfl rfl
  ·show [SV.win true rgS 0 0 (rdV _).1.length,SV.i (rdV _).2]=_;rw[e]
  ·show [LB.row 127 rgS (rdV _).1]=_;rw[e]
theorem q0o:Held Tryz.prog G0 38 ctCl:=Held.run cx11 (fn:=Tryz.f38) rfl rfl ⟨by decide,by decide⟩ λ ⟨⟨li,m,o,l⟩,⟨li2,m2,o2,l2⟩,⟨⟩⟩ _=>by
 refine (q8y li m o l li2 m2 o2 l2 _ _).mpr ⟨Nat.le_refl _,⟨by simp,by simp⟩,qaf (λ h=>?_) (λ h=>?_)⟩
 ·have e:clV (li,m,o,l) (li2,m2,o2,l2)=([],(qah [(li,m,o,l),(li2,m2,o2,l2)]).2):=by unfold clV;rw[show decide ((qah [(li,m,o,l),(li2,m2,o2,l2)]).2≠0)=true from h]
  refine QC.nil1 (e:=rgS) (et:=127) ?_ ?_ (by decide)
  ·show [SV.win true rgS 0 0 (clV _ _).1.length,SV.i (clV _ _).2]=_;rw[e];rfl
  ·show [LB.row 127 rgS (clV _ _).1]=_;rw[e]
 ·have h0:(qah [(li,m,o,l),(li2,m2,o2,l2)]).2=0:=by have:=of_decide_eq_false h;simpa using this
  obtain ⟨h1,h2,h3,h4,_⟩:=sy2 h0;have hY:=ev_Y h2;have e:clV (li,m,o,l) (li2,m2,o2,l2)=(rgCV (sySy (li,m,o,l)) (sySy (li2,m2,o2,l2)),0):=by unfold clV;rw[show decide ((qah [(li,m,o,l),(li2,m2,o2,l2)]).2≠0)=false from h]
  have la:=(qfo h2).1;have lb:=(qfo h3).1;rw[h1];simp only[Nat.add_zero,Nat.zero_add,qxn,q7b];refine ⟨by omega,by simp,by simp,by omega,by simp,by simp,⟨hY.1,(show (sySy (li,m,o,l)).length<=(sySy (li2,m2,o2,l2)).length by have:=h4;omega)⟩,?_⟩;refine QC.row1 (e:=rgS) (xs:=rgCV (sySy (li,m,o,l)) (sySy (li2,m2,o2,l2))) (et:=127) (n:=0) ?_ ?_ rfl rfl rfl
  ·show [SV.win true rgS 0 0 (clV _ _).1.length,SV.i (clV _ _).2]=_;rw[e]
  ·show [LB.row 127 rgS (clV _ _).1]=_;rw[e]
def mgF:List (Int × SyT)->List SyT->List SyT
 | [],o=>o
 | x::r,o=>mgF r (o.set x.1.toNat x.2)
def mgL (a b:List SyT):List SyT:=mgF (whF tcB 0 a) b
theorem qqb:∀ (r:List (Int × SyT)) (o:List SyT),(mgF r o).length=o.length
 | [],o=>rfl
 | x::r,o=>by rw[mgF,qqb r,List.length_set]
def mgV (p q:PaT):PaT × Int:=match decide ((qah [p,q]).2≠0) with
 | true=>((false,0,0,[]),(qah [p,q]).2)
 | false=>match decide (0<(rgCV (sySy p) (sySy q)).length) with
  | true=>((false,0,0,[]),110)
  | false=>match decide ((cpV (mgL (sySy p) (sySy q)) p.2.1).2≠0) with
   | true=>((false,0,0,[]),(cpV (mgL (sySy p) (sySy q)) p.2.1).2)
   | false=>((p.1,(cpV (mgL (sySy p) (sySy q)) p.2.1).1.2),0)
def ctMg:Ctr:=⟨[paS,paS],λ _=>True,λ x=>[paV (mgV x.1 x.2.1).1,.i (mgV x.1 x.2.1).2],λ _=>[]⟩
def bkM (x:DI KM):List (Nat × LB):=[(BIG,.var [.win true syS 0 0 x.1.1.length]),(0,.row 93 syS x.1.1)]
theorem hdMg:hd Tryz.f40 0=.code (.rangeFunc (.tmp 40) #[41,42] (rfA Tryz.f40 0) (rfB Tryz.f40 0))::rfK Tryz.f40 0:=by kernel_rfl
theorem rndMg:rnd Tryz.f40 0=[.code (rfA Tryz.f40 0),.beginRound,.code (rfB Tryz.f40 0)]:=by kernel_rfl
theorem qok {QL:AExit->Nat × Bool->DI KM->Prop} {g:Nat × Bool}:∀ (rs:List (Int × SyT)) (o:List SyT),(∀ x∈rs,0<=x.1/\x.1<o.length)->QL .normal g ((mgF rs o,()),()) ->
  ql0 Tryz.prog G0 40 Tryz.f40.ntmps Y0 [8] [41,42] KM ySy (rfA Tryz.f40 0) (rfB Tryz.f40 0) QL (rs.map yS) g ((o,()),())
 | [],o,_,h=>h
 | (i,s)::rs,o,hb,h=>by
  show GoodE Tryz.prog G0 40 Tryz.f40.ntmps .ready Y0 _ [.code (rfA Tryz.f40 0),.beginRound,.code (rfB Tryz.f40 0)] g (qdu [8] [41,42] KM ySy ((o,()),()) (i,s,()))
  rw[<- rndMg];obtain ⟨h0,h1⟩:0<=i/\i<o.length:=hb (i,s) (by simp);have k:=qok (QL:=QL) (g:=g) rs (o.set i.toNat s) (λ x hx=>by rw[List.length_set];exact hb x (by simp[hx])) h;refine qc7 cx11 (q4t o i s g.1 g.2 _ _) ?_;rw[Nat.zero_add];refine ⟨h0,h1,by omega,?_⟩;exact ⟨[],((o.set i.toNat s,()),()),⟨⟨by show some (LB.var [SV.win true syS (BIG+1) 0 o.length])=some (LB.var [SV.win true syS (BIG+1) 0 (o.set _ _).length]);rw[List.length_set],rfl,trivial⟩,rfl,rfl⟩,k⟩
theorem QPe.qc {ct:Ctr} {x:DL ct.args} {p:PaT × Int} {rs:List SV} {blk:List (Nat × LB)} (h:QPe p rs blk) (ho:ct.out x=[paV p.1,.i p.2]) (hr:ct.rows x=[]):QC ct x rs blk:=by
 refine QC.mt ?_ hr;rw[ho];exact h
theorem q94 (p:PaT) (z:Int):MtL (λ _=>none) [paV p,.i z] [.agg (pL p.1 p.2.1 p.2.2.1 p.2.2.2),.i z]:=⟨_,_,rfl,⟨_,rfl,_,_,rfl,rfl,_,_,rfl,rfl,_,_,rfl,rfl,_,_,rfl,.inl rfl,rfl⟩,_,_,rfl,rfl,rfl⟩
theorem qr2:Held Tryz.prog G0 40 ctMg:=Held.of cx11 (fn:=Tryz.f40) rfl rfl ⟨by decide,by decide⟩ λ ⟨⟨li,m,o,l⟩,⟨li2,m2,o2,l2⟩,⟨⟩⟩ _=>by
 have fin:∀ {v:PaT × Int} {rs blk},mgV (li,m,o,l) (li2,m2,o2,l2)=v->QPe v rs blk->QC ctMg ((li,m,o,l),(li2,m2,o2,l2),()) rs blk:=fun {v rs blk} h k=>QPe.qc k (by show [paV (mgV (li,m,o,l) (li2,m2,o2,l2)).1,SV.i (mgV (li,m,o,l) (li2,m2,o2,l2)).2]=_;rw[h]) rfl
 refine qak cx11 (q8w li m o l li2 m2 o2 l2 _ _) ⟨Nat.le_refl _,⟨by simp,by simp⟩,qaf (λ h=>?_) (λ h=>?_)⟩
 ·refine fin (v:=((false,0,0,[]),(qah [(li,m,o,l),(li2,m2,o2,l2)]).2)) ?_ (qcy _);unfold mgV;rw[show decide ((qah [(li,m,o,l),(li2,m2,o2,l2)]).2≠0)=true from h]
 ·have h0:(qah [(li,m,o,l),(li2,m2,o2,l2)]).2=0:=by have:=of_decide_eq_false h;simpa using this
  obtain ⟨h1,h2,h3,h4,_⟩:=sy2 h0;have hY:=ev_Y h2;have la:=(qfo h2).1;have lb:=(qfo h3).1;have hle:(sySy (li,m,o,l)).length=(sySy (li2,m2,o2,l2)).length:=by have:=h4;omega
  have e1:decide ((qah [(li,m,o,l),(li2,m2,o2,l2)]).2≠0)=false:=h;rw[h1];simp only[Nat.add_zero,Nat.zero_add,qxn,q7b];refine ⟨by omega,by simp,by simp,by omega,by simp,by simp,⟨hY.1,Nat.le_of_eq hle⟩,qaf (λ k=>?_) (λ k=>⟨by omega,by simp,by simp,(show (sySy (li2,m2,o2,l2)).length<1000000 by rw[<- hle];exact hY.1),by omega,by simp,by simp,trivial,?_⟩)⟩
  ·refine fin (v:=((false,0,0,[]),110)) ?_ (qcy _);have k:=of_decide_eq_true k;unfold mgV;rw[e1,show decide (0<(rgCV (sySy (li,m,o,l)) (sySy (li2,m2,o2,l2))).length)=true from decide_eq_true (by omega)]
  ·have k:=of_decide_eq_false k;have e2:decide (0<(rgCV (sySy (li,m,o,l)) (sySy (li2,m2,o2,l2))).length)=false:=decide_eq_false (by omega);generalize ha:sySy (li,m,o,l)=a at *;generalize hb:sySy (li2,m2,o2,l2)=b at *;have hK:GoodE Tryz.prog G0 40 Tryz.f40.ntmps .fn Y0 (endK tt G0 Tryz.f40.results.toList (QC ctMg ((li,m,o,l),(li2,m2,o2,l2),()))) (rfK Tryz.f40 0) (0,false) ⟨[(2,.ptr 2 0),(4,.ptr 4 0),(8,.ptr 8 0)],[(2,.var (pL li m o l)),(4,.var [.bool false,.i 0,.i 0,.nils]),(8,.var [.win true syS 1086016 0 (mgL a b).length]),(1086016,.row 93 syS (mgL a b))]⟩:=by
    refine qlq cx11 (q4u li m o l (mgL a b) _ _) ?_;rw[show winL syS 0 (mgL a b).length (mgL a b)=mgL a b from winA (e:=syS) _];have hml:(mgL a b).length<16777216:=by unfold mgL;rw[qqb];have:=hY.1;omega
    refine ⟨by omega,by omega,hml,qaf (λ k2=>?_) (λ k2=>?_)⟩
    ·refine fin (v:=((false,0,0,[]),(cpV (mgL a b) m).2)) ?_ (qcy _);unfold mgV;rw[e1,ha,hb,e2,show decide ((cpV (mgL a b) (li,m,o,l).2.1).2≠0)=true from k2]
    ·refine fin (v:=((li,(cpV (mgL a b) m).1.2),0)) ?_ (q94 _ _);unfold mgV;rw[e1,ha,hb,e2,show decide ((cpV (mgL a b) (li,m,o,l).2.1).2≠0)=false from k2]
   show GoodE Tryz.prog G0 40 Tryz.f40.ntmps .fn Y0 (endK tt G0 Tryz.f40.results.toList (QC ctMg ((li,m,o,l),(li2,m2,o2,l2),()))) (hd Tryz.f40 0) (0,false) _
   rw[hdMg];refine GoodE.rangeF (gf:=132) (ct:=ctTY) (Ko:=KM) (xi:=((a,()),(((),()),()),())) (x0:=((b,()),())) (ns1:=[some 1163840,some 1163841]) (ns2:=[some 8,some 1147456]) (tl:=[(8,.ptr 8 0)]) (bkF:=bkM) (rF:=[(0,BIG+1)]) (d:=21) (m:=2)
    (by simp) ?_ qjt rfl rfl rfl ?_ hY.1 ⟨rfl,trivial⟩ rfl ?_ (by decide) ⟨by decide,by decide,rfl⟩ rfl ?_ (by decide) ?_
   ·exact λ args w=>qa0 (fn:=Tryz.f132) rfl rfl rfl args w
   ·exact λ c hc=>by cases hc
   ·intro c hc;have hc:c∈[b.length=b.length]:=hc;rw[List.mem_singleton] at hc;subst hc;rfl
   ·exact λ x hx=>⟨⟨rfl,rfl,trivial⟩,by simp[bkM,rho,lk,BIG],λ p hp hb=>(by
     simp only[bkM,List.mem_cons,List.not_mem_nil,or_false] at hp;rcases hp with rfl | rfl
     ·exact ⟨rfl,rfl⟩
     ·exact absurd hb (show ¬ BIG<=0 by decide)),by kernel_rfl⟩
   ·refine qok (whF tcB 0 a) b (λ x hx=>by have:=qgk a 0 x hx;omega) ?_;exact hK.only ⟨by kernel_rfl,by kernel_rfl,by kernel_rfl,trivial⟩ ⟨by kernel_rfl,by kernel_rfl,by kernel_rfl,by kernel_rfl,trivial⟩
abbrev gtA4 (l:List (List Int)) (i:Nat):List Int:=gt a4S l i
def ctSys:Ctr:=⟨[paS],λ _=>True,λ x=>[.win true syS 0 0 (sySy x.1).length],λ x=>[.row 93 syS (sySy x.1)]⟩
def C13:CV:=[(80,.inl ctSys),(57,.inl ctRw),(24,.inl ctOf6),(15,.inl ctSym)]
set_option maxRecDepth 100000
theorem q8c (li:Bool) (m o:Int) (l:List OpT) (Q:QT) (R:RT):sA [(15,.inl ctSym)] Tryz.f80 Q R [.code (qad Tryz.f80)] (entry [paS] ((li,m,o,l),())) =
  (ctSym.pre ((li,m,o,l),())/\Q [.win true syS 1028672 0 (symV (li,m,o,l)).1.length] [(1,.var (pL li m o l)),(1028672,.row 93 syS (symV (li,m,o,l)).1)]):=by kernel_rfl
theorem q33 (z n:Int) (l:List (List Int)) (Q:QT) (R:RT):sA C13 Tryz.f32 Q (λ it S=>R it (qa5 [1,2,4,5,6,7,8,9] [2,4,7,1057344] S)) [.code (qad Tryz.f32)] (entry [raS,iI] ((z,l),n,())) =
  (ctRw.pre (n,())/\ctSys.pre ((rwV n),())/\R (hd Tryz.f32 0) { env:=[(1,.i n),(2,.ptr 2 0),(4,.ptr 4 0),(5,.win true syS 1057344 0 (sySy (rwV n)).length),(6,.i 0)],blk:=[(2,.var [.u z,.sl a4S l]),(4,.var [.bool false,.i 0,.i 0,.nils]),(1057344,.row 93 syS (sySy (rwV n)))] }):=by kernel_rfl
def qie (z n:Int) (l:List (List Int)) (s:List SyT):List (Nat × LB):=[(2,.var [.u z,.sl a4S l]),(4,.var [.bool (ofRV (winL syS (0:Nat) s.length s) n).1.1,.i (ofRV (winL syS (0:Nat) s.length s) n).1.2.1,.i (ofRV (winL syS (0:Nat) s.length s) n).1.2.2.1,.sl opS (ofRV (winL syS (0:Nat) s.length s) n).1.2.2.2]),(10,.var [.bool (ofRV (winL syS (0:Nat) s.length s) n).1.1,.i (ofRV (winL syS (0:Nat) s.length s) n).1.2.1,.i (ofRV (winL syS (0:Nat) s.length s) n).1.2.2.1,.sl opS (ofRV (winL syS (0:Nat) s.length s) n).1.2.2.2])]
theorem q2m (z n:Int) (l:List (List Int)) (s:List SyT) (i:Int) (Q:QT) (R:RT):sA C13 Tryz.f32 Q (λ it S=>R it (qa5 [1,2,4,5,6,7,8,9] [2,4,7,1057344] S)) (hd Tryz.f32 0) ⟨[(1,.i n),(2,.ptr 2 0),(4,.ptr 4 0),(5,.win true syS 1057344 0 s.length),(6,.i i)],[(2,.var [.u z,.sl a4S l]),(4,.var [.bool false,.i 0,.i 0,.nils]),(1057344,.row 93 syS s)]⟩ =
  (bc (decide (i<(l.length:Int))) (bc (decide (i<5)) (bc (decide ((0:Int)<n)) ((0:Int)<=i/\i<(l.length:Int)/\(0:Int)<=0/\(0:Int)<(↑(4:Nat):Int)/\0<4/\n≠0/\R (hd Tryz.f32 1) { env:=[(1,.i n),(2,.ptr 2 0),(4,.ptr 4 0),(5,.win true syS 1057344 0 s.length),(6,.i i),(7,.ptr 7 0),(8,.i ((i64.wrap (gtB (gtA4 l i.toNat) (0))).tmod n)),(9,.i 0)],blk:=[(2,.var [.u z,.sl a4S l]),(4,.var [.bool false,.i 0,.i 0,.nils]),(7,.var [.arr (4:Nat) uB (gtA4 l i.toNat)]),(1057344,.row 93 syS s)] }) (0+s.length<=s.length/\0+s.length<=s.length/\ctOf6.pre (winL syS 0 s.length s,n,())/\Q [.agg [.bool (ofRV (winL syS 0 s.length s) n).1.1,.i (ofRV (winL syS 0 s.length s) n).1.2.1,.i (ofRV (winL syS 0 s.length s) n).1.2.2.1,.sl opS (ofRV (winL syS 0 s.length s) n).1.2.2.2]] (qie z n l s))) (false=false/\0+s.length<=s.length/\0+s.length<=s.length/\ctOf6.pre (winL syS 0 s.length s,n,())/\Q [.agg [.bool (ofRV (winL syS 0 s.length s) n).1.1,.i (ofRV (winL syS 0 s.length s) n).1.2.1,.i (ofRV (winL syS 0 s.length s) n).1.2.2.1,.sl opS (ofRV (winL syS 0 s.length s) n).1.2.2.2]] (qie z n l s))) (false=false/\false=false/\0+s.length<=s.length/\0+s.length<=s.length/\ctOf6.pre (winL syS 0 s.length s,n,())/\Q [.agg [.bool (ofRV (winL syS 0 s.length s) n).1.1,.i (ofRV (winL syS 0 s.length s) n).1.2.1,.i (ofRV (winL syS 0 s.length s) n).1.2.2.1,.sl opS (ofRV (winL syS 0 s.length s) n).1.2.2.2]] (qie z n l s))):=by kernel_rfl
theorem q2n (z n:Int) (l:List (List Int)) (s:List SyT) (i:Int) (a k:Int) (c:List Int) (Q:QT) (R:RT):sA C13 Tryz.f32 Q (λ it S=>R it (qa5 [1,2,4,5,6,7,8,9] [2,4,7,1057344] S)) (hd Tryz.f32 1) ⟨[(1,.i n),(2,.ptr 2 0),(4,.ptr 4 0),(5,.win true syS 1057344 0 s.length),(6,.i i),(7,.ptr 7 0),(8,.i a),(9,.i k)],[(2,.var [.u z,.sl a4S l]),(4,.var [.bool false,.i 0,.i 0,.nils]),(7,.var [.arr 4 uB c]),(1057344,.row 93 syS s)]⟩ =
  ((0:Int)<=1/\(1:Int)<(↑(4:Nat):Int)/\1<4/\(64:Int)≠0/\(3:Int)≠0/\bc (decide (k<i64.wrap ((1:Int)+(i64.wrap (u8.wrap (Int.tdiv (gtB c (1)) (64:Int)))).tmod (3:Int)))) (bc (decide (i64.wrap (a+k)<n)) ((0:Int)<=1/\(1:Int)<(↑(4:Nat):Int)/\1<4/\(4:Int)≠0/\bc (decide (Int.tmod (gtB c (1)) (4:Int)=(0:Int))) ((0:Int)<=2/\(2:Int)<(↑(4:Nat):Int)/\2<4/\(0:Int)<=i64.wrap (a+k)/\i64.wrap (a+k)<(s.length:Int)/\0+(i64.wrap (a+k)).toNat<s.length/\R (hd Tryz.f32 1) { env:=[(1,.i n),(2,.ptr 2 0),(4,.ptr 4 0),(5,.win true syS 1057344 0 s.length),(6,.i i),(7,.ptr 7 0),(8,.i a),(9,.i (i64.wrap (k+1)))],blk:=[(2,.var [.u z,.sl a4S l]),(4,.var [.bool false,.i 0,.i 0,.nils]),(7,.var [.arr (4:Nat) uB c]),(1057344,.row 93 syS (s.set (0+(i64.wrap (a+k)).toNat) (false,(0:Int),gtB c (2))))] }) (bc (decide (Int.tmod (gtB c (1)) (4:Int)=(1:Int))) ((0:Int)<=3/\(3:Int)<(↑(4:Nat):Int)/\3<4/\(0:Int)<=i64.wrap (a+k)/\i64.wrap (a+k)<(s.length:Int)/\0+(i64.wrap (a+k)).toNat<s.length/\R (hd Tryz.f32 1) { env:=[(1,.i n),(2,.ptr 2 0),(4,.ptr 4 0),(5,.win true syS 1057344 0 s.length),(6,.i i),(7,.ptr 7 0),(8,.i a),(9,.i (i64.wrap (k+1)))],blk:=[(2,.var [.u z,.sl a4S l]),(4,.var [.bool false,.i 0,.i 0,.nils]),(7,.var [.arr (4:Nat) uB c]),(1057344,.row 93 syS (s.set (0+(i64.wrap (a+k)).toNat) (true,i64.wrap (a+k),gtB c (3))))] }) (bc (decide (Int.tmod (gtB c (1)) (4:Int)=(2:Int))) ((0:Int)<=2/\(2:Int)<(↑(4:Nat):Int)/\2<4/\n≠0/\(0:Int)<=i64.wrap (a+k)/\i64.wrap (a+k)<(s.length:Int)/\0+(i64.wrap (a+k)).toNat<s.length/\R (hd Tryz.f32 1) { env:=[(1,.i n),(2,.ptr 2 0),(4,.ptr 4 0),(5,.win true syS 1057344 0 s.length),(6,.i i),(7,.ptr 7 0),(8,.i a),(9,.i (i64.wrap (k+1)))],blk:=[(2,.var [.u z,.sl a4S l]),(4,.var [.bool false,.i 0,.i 0,.nils]),(7,.var [.arr (4:Nat) uB c]),(1057344,.row 93 syS (s.set (0+(i64.wrap (a+k)).toNat) (true,(i64.wrap (gtB c (2))).tmod n,(0:Int))))] }) ((0:Int)<=2/\(2:Int)<(↑(4:Nat):Int)/\2<4/\n≠0/\(0:Int)<=3/\(3:Int)<(↑(4:Nat):Int)/\3<4/\(3:Int)≠0/\(0:Int)<=i64.wrap (a+k)/\i64.wrap (a+k)<(s.length:Int)/\0+(i64.wrap (a+k)).toNat<s.length/\R (hd Tryz.f32 1) { env:=[(1,.i n),(2,.ptr 2 0),(4,.ptr 4 0),(5,.win true syS 1057344 0 s.length),(6,.i i),(7,.ptr 7 0),(8,.i a),(9,.i (i64.wrap (k+1)))],blk:=[(2,.var [.u z,.sl a4S l]),(4,.var [.bool false,.i 0,.i 0,.nils]),(7,.var [.arr (4:Nat) uB c]),(1057344,.row 93 syS (s.set (0+(i64.wrap (a+k)).toNat) (true,(i64.wrap (i64.wrap (gtB c (2))+k)).tmod n,Int.tmod (gtB c (3)) (3:Int))))] })))) (R (hd Tryz.f32 0) { env:=[(1,.i n),(2,.ptr 2 0),(4,.ptr 4 0),(5,.win true syS 1057344 0 s.length),(6,.i (i64.wrap (i+1))),(7,.ptr 7 0),(8,.i a),(9,.i k)],blk:=[(2,.var [.u z,.sl a4S l]),(4,.var [.bool false,.i 0,.i 0,.nils]),(7,.var [.arr (4:Nat) uB c]),(1057344,.row 93 syS s)] })) (false=false/\R (hd Tryz.f32 0) { env:=[(1,.i n),(2,.ptr 2 0),(4,.ptr 4 0),(5,.win true syS 1057344 0 s.length),(6,.i (i64.wrap (i+1))),(7,.ptr 7 0),(8,.i a),(9,.i k)],blk:=[(2,.var [.u z,.sl a4S l]),(4,.var [.bool false,.i 0,.i 0,.nils]),(7,.var [.arr (4:Nat) uB c]),(1057344,.row 93 syS s)] })):=by kernel_rfl
end Go.Proofs.YtgopblmdkjkbbaaGreatDoor
