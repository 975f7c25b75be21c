/-
  A part of the proof: what pieces of the program give; conditions: those of each theorem.
-/
import Derived.Test.YtdeacfammdjajaaGreatDoorQ3
import Derived.Test.YtdeacfammdjajaaGreatDoorQ1
import Derived.KernelRfl
import Derived.Test.YtdeacfammdjajaaGreatDoorQ2
import Derived.Test.YtdeacfammdjajaaGreatDoorHD
set_option linter.unusedVariables false
set_option linter.unusedSimpArgs false
namespace Go.Proofs.YtdeacfammdjajaaGreatDoor
open Go.Px Go.Ax
set_option maxRecDepth 100000
attribute [local irreducible] Go.Px.sy Go.Px.syE
theorem q8j {e n:Int} {x:Im.Sec} (h:Im.plcB e n x=true):e<=x.2.1/\x.2.1<x.2.2.1/\x.2.2.1<=n:=by
 have h:=of_decide_eq_true h;exact ⟨h.1,h.2.1,h.2.2.1⟩
theorem qus {n:Int}:∀ (l d:List Im.Sec) (e:Int),0<=e->Im.valF n d e l=true->∀ x∈l,0<=x.2.1/\x.2.1<x.2.2.1/\x.2.2.1<=n
 | [],_,_,_,_,_,h=>by cases h
 | s::l,d,e,he,h,x,hx=>by
  rw[Im.valF,Bool.and_eq_true,Bool.and_eq_true] at h;have hp:=q8j h.1.2;rcases List.mem_cons.1 hx with rfl | hx
  ·exact ⟨by omega,hp.2⟩
  ·exact qus l _ _ (by omega) h.2 x hx
theorem qyq {l:List Im.Sec} {n:Int} (h:Im.validB l n=true):l.length<=8/\∀ x∈l,0<=x.2.1/\x.2.1<x.2.2.1/\x.2.2.1<=n:=by
 unfold Im.validB at h;rw[Bool.and_eq_true] at h;exact ⟨of_decide_eq_true h.1,qus l [] 0 (Int.le_refl _) h.2⟩
theorem qvv {p:PaT} (h:(psV p).2=0):(((psV p).1.length:Nat):Int)=p.2.2.1/\(psV p).1.length<=65536/\psV p=((symV p).1,0)/\(symV p).2=0/\p.1=false:=by
 by_cases h1:(symV p).2=0
 ·cases hl:p.1 with
  | true=>rw[q8g h1 hl] at h;cases h
  | false=>
   have e:=q4t h1 hl;obtain ⟨r1,r2,r3⟩:=qc7 h1;rw[e];have k1:(((symV p).1.length:Nat):Int)=p.2.2.1:=r3;refine ⟨k1,?_,rfl,h1,rfl⟩;have k3:=(qex (qpp h1).1).2.2.1
   show (symV p).1.length<=65536
   omega
 ·rw[q8h h1] at h;exact absurd h h1
def splV (p:PaT) (l:List SecT):List PaT × Int:=match decide ((psV p).2≠0) with
 | true=>([],(psV p).2)
 | false=>match Im.validB l p.2.2.1 with
  | false=>([],120)
  | true=>colF ((secF (psV p).1 l).map (cpV · p.2.1)) []
def ctSpl:Ctr:=⟨[paS,.sl seS],λ x=>∀ s∈(show List SecT from x.2.1),s.1.length<2 ^ 62,λ x=>[.win true paS 0 0 (splV x.1 x.2.1).1.length,.i (splV x.1 x.2.1).2],λ x=>[.row 31 paS (splV x.1 x.2.1).1]⟩
theorem q4i (p:PaT) (l:List SecT) (hl:∀ s∈l,s.1.length<2 ^ 62) (R:List Item->PS->Prop):sA CSp Tryz.f28 (QC ctSpl (p,l,())) R [.code (qae Tryz.f28)] (entry [paS,.sl seS] (p,l,())):=by
 refine (q61 p l _ _).mpr ⟨trivial,qag (λ h=>?_) (λ h=>⟨⟨trivial,hl⟩,qag (λ h2=>?_) (λ h2=>?_)⟩)⟩
 ·have e:splV p l=([],(psV p).2):=by unfold splV;rw[show decide ((psV p).2≠0)=true from h]
  refine qde (e:=paS) (et:=31) (z:=(psV p).2) ?_ ?_ rfl (by decide)
  ·show [_,_]=_;rw[e];rfl
  ·show [_]=_;rw[e]
 ·have h2:Im.validB l p.2.2.1=false:=by simpa using h2
  have e:splV p l=([],120):=by unfold splV;rw[show decide ((psV p).2≠0)=false from h,h2]
  refine qde (e:=paS) (et:=31) (z:=120) ?_ ?_ rfl (by decide)
  ·show [_,_]=_;rw[e];rfl
  ·show [_]=_;rw[e]
 ·have h2:Im.validB l p.2.2.1=true:=by simpa using h2
  have h0:(psV p).2=0:=by have:=of_decide_eq_false h;simpa using this
  obtain ⟨k1,k2,_⟩:=qvv h0;obtain ⟨k3,k4⟩:=qyq h2;have hs:qiu (psV p).1 l:=⟨by omega,by have:l.length<=8:=k3;omega,λ x hx=>by rw[k1];exact k4 x hx⟩;have e:splV p l=colF ((secF (psV p).1 l).map (cpV · p.2.1)) []:=by unfold splV;rw[show decide ((psV p).2≠0)=false from h,h2]
  refine ⟨trivial,trivial,hs,?_⟩;refine qgp (e:=paS) (et:=31) (a:=1110592) (z:=(colF ((secF (psV p).1 l).map (cpV · p.2.1)) []).2) (xs:=(colF ((secF (psV p).1 l).map (cpV · p.2.1)) []).1) ?_ ?_ rfl rfl rfl
  ·show [_,_]=_;rw[e]
  ·show [_]=_;rw[e]
theorem qy3:Held Tryz.prog G0 28 ctSpl:=Held.run cxSp (fn:=Tryz.f28) rfl rfl ⟨by decide,by decide⟩ λ ⟨p,l,_⟩ hp=>q4i p l hp _
def secV (p:PaT) (n:Int):List PaT × Int:=match decide ((psV p).2≠0) with
 | true=>([],(psV p).2)
 | false=>match decide (1<=n/\n<=4096) with
  | false=>([],1)
  | true=>colF ((qa9 (psV p).1 n).map (cpV · p.2.1)) []
def ctSec:Ctr:=⟨[paS,iI],λ _=>True,λ x=>[.win true paS 0 0 (secV x.1 x.2.1).1.length,.i (secV x.1 x.2.1).2],λ x=>[.row 31 paS (secV x.1 x.2.1).1]⟩
theorem q4n (p:PaT) (n:Int) (R:List Item->PS->Prop):sA CSe Tryz.f32 (QC ctSec (p,n,())) R [.code (qae Tryz.f32)] (entry [paS,iI] (p,n,())):=by
 have bad:decide ((psV p).2≠0)=false->¬ (1<=n/\n<=4096)->secV p n=([],1):=λ h h2=>by unfold secV;rw[h,decide_eq_false h2]
 refine (q63 p n _ _).mpr ⟨trivial,qag (λ h=>?_) (λ h=>qag (λ h2=>⟨rfl,?_⟩) (λ h2=>qag (λ h3=>?_) (λ h3=>?_)))⟩
 ·have e:secV p n=([],(psV p).2):=by unfold secV;rw[show decide ((psV p).2≠0)=true from h]
  refine qde (e:=paS) (et:=31) (z:=(psV p).2) ?_ ?_ rfl (by decide)
  ·show [_,_]=_;rw[e];rfl
  ·show [_]=_;rw[e]
 ·have h2:n<1:=of_decide_eq_true h2;have e:=bad h (by omega);refine qde (e:=paS) (et:=31) (z:=1) ?_ ?_ rfl (by decide)
  ·show [_,_]=_;rw[e];rfl
  ·show [_]=_;rw[e]
 ·have h3:4096<n:=of_decide_eq_true h3;have e:=bad h (by omega);refine qde (e:=paS) (et:=31) (z:=1) ?_ ?_ rfl (by decide)
  ·show [_,_]=_;rw[e];rfl
  ·show [_]=_;rw[e]
 ·have h2:¬ n<1:=of_decide_eq_false h2;have h3:¬ 4096<n:=of_decide_eq_false h3;have h0:(psV p).2=0:=by have:=of_decide_eq_false h;simpa using this
  obtain ⟨k1,k2,_⟩:=qvv h0;have e:secV p n=colF ((qa9 (psV p).1 n).map (cpV · p.2.1)) []:=by unfold secV;rw[show decide ((psV p).2≠0)=false from h,decide_eq_true (show 1<=n/\n<=4096 by omega)]
  have hk:qof (psV p).1 n:=⟨by omega,by omega,by omega⟩;refine ⟨(show 1<=n by omega),trivial,hk,?_⟩;refine qgp (e:=paS) (et:=31) (a:=1114688) (z:=(colF ((qa9 (psV p).1 n).map (cpV · p.2.1)) []).2) (xs:=(colF ((qa9 (psV p).1 n).map (cpV · p.2.1)) []).1) ?_ ?_ rfl rfl rfl
  ·show [_,_]=_;rw[e]
  ·show [_]=_;rw[e]
theorem sec_held:Held Tryz.prog G0 32 ctSec:=Held.run cxSe (fn:=Tryz.f32) rfl rfl ⟨by decide,by decide⟩ λ ⟨p,n,_⟩ _=>q4n p n _
theorem qzn:HeldI Tryz.prog G0 106 ctOth:=HeldI.run cx0 (fn:=Tryz.f106) rfl rfl ⟨by decide,by decide⟩ λ ⟨⟨li,m,o,x⟩,⟨l,⟨⟩⟩,⟨⟩⟩ hp=>by
 have hp:0<l.length:=hp;refine (q69 l li m o x _ _).mpr ⟨by omega,by omega,QI.self rfl rfl rfl (λ p hp=>?_)⟩;have hp:p∈[(BIG,LB.var [SV.sl paS l])]:=hp;rw[List.mem_singleton] at hp;subst hp;rfl
theorem cxOt:CxOK Tryz.prog tt G0 [(106,.inr ctOth)]:=cx0.consI qzn (fn:=Tryz.f106) rfl rfl rfl
abbrev QIx (b:List PaT) (v:SV):List SV->List (Nat × LB)->Prop:=λ rs blk=>rs=[v]/\lk blk BIG=some (LB.var [.sl paS b])
theorem qfm {l:List PaT} {i:Nat} (h:i<l.length):gtP l i=l[i]:=gtE (e:=paS) h
theorem qwz (p:PaT->Bool):∀ (l:List PaT) (i:Nat),decide ((0:Int)<=ixF p l i)=l.any p
 | [],i=>rfl
 | x::r,i=>by
  rw[ixF,List.any_cons];cases h:p x with
  | true=>simp only[Bool.true_or,decide_eq_true_eq];omega
  | false=>simp only[Bool.false_or];exact qwz p r (i+1)
theorem q0g {l b:List PaT} {v:SV} (hb:0<b.length) (hl:l.length<1000000):∀ (k i:Nat),l.length-i=k->i<=l.length->v=.i (ixF (othB b) (l.drop i) i)->GD 108 Tryz.f108 (QIx b v) (hd Tryz.f108 0) ⟨[(0,.sl paS l),(1,.fn 106 [] [.ptr BIG 0]),(7,.i (l.length:Nat)),(8,.i (i:Nat))],[(BIG,.var [.sl paS b])]⟩:=by
 intro k
 induction k with
 | zero=>
  intro i hk hi hv;have hi:i=l.length:=by omega
  subst hi;refine qat cxOt (quk l b l.length _ _) ?_;rw[decide_eq_false (show ¬ ((l.length:Nat):Int)<(l.length:Int) by omega),bc_f];rw[List.drop_length] at hv;exact ⟨by rw[hv];rfl,rfl⟩
 | succ k ih=>
  intro i hk hi hv;have hil:i<l.length:=by omega
  refine qat cxOt (quk l b i _ _) ?_;rw[decide_eq_true (show (i:Int)<(l.length:Int) by omega),bc_t];simp only[Int.toNat_natCast];rw[qgz hil,ixF,<- qfm hil] at hv;refine ⟨by omega,by omega,hb,qag (λ h=>?_) (λ h=>?_)⟩
  ·have h:othB b (gtP l i)=true:=h;rw[h] at hv;exact ⟨by rw[hv],rfl⟩
  ·have h:othB b (gtP l i)=false:=h;rw[h] at hv;have nx:=ih (i+1) (by omega) (by omega) hv;rw[IntWalk.i64_in ((i:Int)+1) (by omega)];exact nx.only ⟨rfl,rfl,rfl,rfl,trivial⟩ ⟨rfl,trivial⟩
theorem q0h:HeldI Tryz.prog G0 108 ctIfO:=HeldI.of cxOt (fn:=Tryz.f108) rfl rfl ⟨by decide,by decide⟩ λ ⟨l,⟨⟨⟩,⟨⟨b,⟨⟩⟩,⟨⟩⟩⟩,⟨⟩⟩ hp=>by
 obtain ⟨hb,hl⟩:q4u l b:=hp;refine qat cxOt (q7m l b _ _) (((q0g (v:=.i (ixF (othB b) l 0)) hb hl _ 0 rfl (Nat.zero_le _) rfl).post λ rs blk hq=>?_).only ⟨rfl,rfl,rfl,rfl,trivial⟩ ⟨rfl,trivial⟩);refine QI.self hq.1.symm (by rw[hq.1];rfl) rfl (λ p hp=>?_);have hp:p∈[(BIG,LB.var [SV.sl paS b])]:=hp;rw[List.mem_singleton] at hp;subst hp;exact hq.2
def ctCfO:CtrI:=⟨KO,λ x=>q4u x.1 x.2.1.2.1.1,λ x=>[.bool (List.any x.1 (othB x.2.1.2.1.1))],λ x=>bkKL 0 KO x⟩
theorem q02:HeldI Tryz.prog G0 83 ctCfO:=HeldI.run (cx0.consI q0h (fn:=Tryz.f108) rfl rfl rfl) (fn:=Tryz.f83) rfl rfl ⟨by decide,by decide⟩ λ ⟨l,⟨⟨⟩,⟨⟨b,⟨⟩⟩,⟨⟩⟩⟩,⟨⟩⟩ hp=>by
 refine (q7y l b _ _).mpr ⟨hp,QI.self ?_ rfl rfl (λ p hp=>?_)⟩
 ·show [SV.bool (List.any l (othB b))]=[SV.bool (decide ((0:Int)<=ixF (othB b) l 0))]
  rw[qwz]
 ·have hp:p∈[(BIG,LB.var [SV.sl paS b])]:=hp;rw[List.mem_singleton] at hp;subst hp;rfl
open Go.IntKind(i64 u32 u8)
def ctSyF:Ctr:=⟨[paS],λ _=>True,λ x=>[.sl syS (symV x.1).1,.i (symV x.1).2],λ _=>[]⟩
theorem qyx:Held Tryz.prog G0 63 ctSyF:=by
 have h:=sym_held.frz (λ x _=>by
  show inL 0 (symV x.1).1.length [SV.win true syS 0 0 (symV x.1).1.length,SV.i (symV x.1).2]/\True
  exact ⟨⟨λ _=>by omega,⟨trivial,trivial⟩⟩,trivial⟩)
 refine h.iff rfl (λ x h=>h) (λ x _=>?_) (λ x _=>rfl)
 show [SV.sl syS (symV x.1).1,SV.i (symV x.1).2]=[SV.sl syS (winL syS 0 (symV x.1).1.length (symV x.1).1),SV.i (symV x.1).2]
 rw[winA (e:=syS)]
theorem cxAy:CxOK Tryz.prog tt G0 [(63,.inl ctSyF)]:=cx0.k qyx (fn:=Tryz.f63)
abbrev CJ1:CV:=[(93,.inl ctChk),(83,.inr ctCfO)]
theorem cxJ1:CxOK Tryz.prog tt G0 CJ1:=(cx0.consI q02 (fn:=Tryz.f83) rfl rfl rfl).k qsd (fn:=Tryz.f93)
set_option maxRecDepth 100000
theorem q70 (l:List PaT) (Q:QT) (R:RT):sA [(63,.inl ctSyF)] Tryz.f75 Q R [.code (qae Tryz.f75)] (entry [.sl paS] (l,())) =
  (R (hd Tryz.f75 0) { env:=[(0,.sl paS l),(2,.nils),(3,.nils),(8,.sl paS l),(9,.i (l.length:Int)),(10,.i 0)],blk:=[] }):=by kernel_rfl
theorem q3z (l:List PaT) (i:Int) (Q:QT) (R:RT):sA [(63,.inl ctSyF)] Tryz.f75 Q R (hd Tryz.f75 0) ⟨[(3,.nils),(8,.sl paS l),(9,.i (l.length:Nat)),(10,.i i)],[]⟩ =
  (bc (decide (i<(l.length:Int))) ((0:Int)<=i/\i<(l.length:Int)/\ctSyF.pre ((gtP l i.toNat),())/\(symV (gtP l i.toNat)).1.length<2 ^ 30/\(24:Nat)<=2 ^ 10/\R (hd Tryz.f75 0) { env:=[(3,.win true syS 21 0 (symV (gtP l i.toNat)).1.length),(5,.ptr 5 0),(6,.sl syS (symV (gtP l i.toNat)).1),(7,.i (symV (gtP l i.toNat)).2),(8,.sl paS l),(9,.i (l.length:Int)),(10,.i (i64.wrap (i+1))),(11,.bool (decide (i<(l.length:Int)))),(12,.elv paS (gtP l i.toNat)),(13,.agg [.bool (gtP l i.toNat).1,.i (gtP l i.toNat).2.1,.i (gtP l i.toNat).2.2.1,.sl opS (gtP l i.toNat).2.2.2]),(14,SV.tup [.sl syS (symV (gtP l i.toNat)).1,.i (symV (gtP l i.toNat)).2]),(15,.agg [.bool (gtP l i.toNat).1,.i (gtP l i.toNat).2.1,.i (gtP l i.toNat).2.2.1,.sl opS (gtP l i.toNat).2.2.2]),(16,SV.tup [.sl syS (symV (gtP l i.toNat)).1,.i (symV (gtP l i.toNat)).2]),(17,.sl syS (symV (gtP l i.toNat)).1),(18,.i (symV (gtP l i.toNat)).2),(19,.nils),(20,.sl syS (symV (gtP l i.toNat)).1),(21,.win true syS 21 0 (symV (gtP l i.toNat)).1.length),(22,.i (i64.wrap (i+1)))],blk:=[(5,.var [.bool (gtP l i.toNat).1,.i (gtP l i.toNat).2.1,.i (gtP l i.toNat).2.2.1,.sl opS (gtP l i.toNat).2.2.2]),(21,.row 83 syS (symV (gtP l i.toNat)).1)] }) False):=by kernel_rfl
theorem quq (l:List PaT) (o:List SyT) (i:Int) (Q:QT) (R:RT):sA [(63,.inl ctSyF)] Tryz.f75 Q R (hd Tryz.f75 0) ⟨[(3,.win true syS 77 0 o.length),(8,.sl paS l),(9,.i (l.length:Nat)),(10,.i i)],[(77,.row 83 syS o)]⟩ =
  (bc (decide (i<(l.length:Int))) ((0:Int)<=i/\i<(l.length:Int)/\ctSyF.pre ((gtP l i.toNat),())/\o.length=o.length/\(0:Nat)=(0:Nat)/\o.length+(symV (gtP l i.toNat)).1.length<2 ^ 30/\(24:Nat)<=2 ^ 10/\R (hd Tryz.f75 0) { env:=[(3,.win true syS 21 0 (o.length+(symV (gtP l i.toNat)).1.length)),(5,.ptr 5 0),(6,.sl syS (symV (gtP l i.toNat)).1),(7,.i (symV (gtP l i.toNat)).2),(8,.sl paS l),(9,.i (l.length:Int)),(10,.i (i64.wrap (i+1))),(11,.bool (decide (i<(l.length:Int)))),(12,.elv paS (gtP l i.toNat)),(13,.agg [.bool (gtP l i.toNat).1,.i (gtP l i.toNat).2.1,.i (gtP l i.toNat).2.2.1,.sl opS (gtP l i.toNat).2.2.2]),(14,SV.tup [.sl syS (symV (gtP l i.toNat)).1,.i (symV (gtP l i.toNat)).2]),(15,.agg [.bool (gtP l i.toNat).1,.i (gtP l i.toNat).2.1,.i (gtP l i.toNat).2.2.1,.sl opS (gtP l i.toNat).2.2.2]),(16,SV.tup [.sl syS (symV (gtP l i.toNat)).1,.i (symV (gtP l i.toNat)).2]),(17,.sl syS (symV (gtP l i.toNat)).1),(18,.i (symV (gtP l i.toNat)).2),(19,.dead),(20,.sl syS (symV (gtP l i.toNat)).1),(21,.win true syS 21 0 (o.length+(symV (gtP l i.toNat)).1.length)),(22,.i (i64.wrap (i+1)))],blk:=[(5,.var [.bool (gtP l i.toNat).1,.i (gtP l i.toNat).2.1,.i (gtP l i.toNat).2.2.1,.sl opS (gtP l i.toNat).2.2.2]),(21,.row 83 syS (o++(symV (gtP l i.toNat)).1))] }) (o.length=o.length/\(o.length:Int)=(o.length:Int)/\(o.length:Int)=(o.length:Int)/\o.length<1099511627776/\0+o.length<=o.length/\0+o.length<=o.length/\0+o.length<=o.length/\0+o.length<=o.length/\Q [.sl syS o] [])):=by kernel_rfl
theorem vc_cj (l:List PaT) (Q:QT) (R:RT):sA CJ1 Tryz.f74 Q (λ it S=>R it (qbt [1,8,14,15,16,33,34,35] [1] S)) [.code (qae Tryz.f74)] (entry [.sl paS] (l,())) =
  (bc (decide ((l.length:Int)=(0:Int))) (Q [.i 1] [(1,.var [.sl paS l])]) (R (hd Tryz.f74 0) { env:=[(1,.ptr 1 0),(14,.sl paS l),(15,.i (l.length:Int)),(16,.i 0)],blk:=[(1,.var [.sl paS l])] })):=by kernel_rfl
theorem q14 (l:List PaT) (i:Int) (Q:QT) (R:RT):sA CJ1 Tryz.f74 Q (λ it S=>R it (qbt [1,8,14,15,16,33,34,35] [1] S)) (hd Tryz.f74 0) ⟨[(1,.ptr 1 0),(14,.sl paS l),(15,.i (l.length:Nat)),(16,.i i)],[(1,.var [.sl paS l])]⟩ =
  (bc (decide (i<(l.length:Int))) ((0:Int)<=i/\i<(l.length:Int)/\ctChk.pre ((gtP l i.toNat),())/\bc (decide ((chkV (gtP l i.toNat)).2≠0)) (Q [.i (chkV (gtP l i.toNat)).2] [(1,.var [.sl paS l]),(4,.var [.bool (gtP l i.toNat).1,.i (gtP l i.toNat).2.1,.i (gtP l i.toNat).2.2.1,.sl opS (gtP l i.toNat).2.2.2])]) (R (hd Tryz.f74 0) { env:=[(1,.ptr 1 0),(14,.sl paS l),(15,.i (l.length:Int)),(16,.i (i64.wrap (i+1)))],blk:=[(1,.var [.sl paS l])] })) (ctCfO.pre (l,((),(l,()),()),())/\bc (l.any (othB l)) (Q [.i 62] [(1,.var [.sl paS l])]) (R (hd Tryz.f74 1) { env:=[(1,.ptr 1 0),(8,.i 65536),(14,.sl paS l),(15,.i (l.length:Int)),(16,.i i),(33,.sl paS l),(34,.i (l.length:Int)),(35,.i 0)],blk:=[(1,.var [.sl paS l])] }))):=by kernel_rfl
def ql5 (l:List PaT) (i:Int):List (Nat × LB):=[(1,.var [.sl paS l]),(10,.var [.bool (gtP l i.toNat).1,.i (gtP l i.toNat).2.1,.i (gtP l i.toNat).2.2.1,.sl opS (gtP l i.toNat).2.2.2])]
theorem q13 (l:List PaT) (n i:Int) (Q:QT) (R:RT):sA CJ1 Tryz.f74 Q (λ it S=>R it (qbt [1,8,14,15,16,33,34,35] [1] S)) (hd Tryz.f74 1) ⟨[(1,.ptr 1 0),(8,.i n),(33,.sl paS l),(34,.i (l.length:Nat)),(35,.i i)],[(1,.var [.sl paS l])]⟩ =
  (bc (decide (i<(l.length:Int))) ((0:Int)<=i/\i<(l.length:Int)/\(0:Int)<=0/\(0:Int)<(l.length:Int)/\bc (decide ((gtP l i.toNat).2.1≠(gtP l (0)).2.1)) (true=true/\Q [.i 61] (ql5 l i)) (bc (bif false then true else decide (n<(gtP l i.toNat).2.2.1)) (Q [.i 61] (ql5 l i)) (R (hd Tryz.f74 1) { env:=[(1,.ptr 1 0),(8,.i (i64.wrap (n-(gtP l i.toNat).2.2.1))),(33,.sl paS l),(34,.i (l.length:Int)),(35,.i (i64.wrap (i+1)))],blk:=[(1,.var [.sl paS l])] }))) (Q [.i 0] [(1,.var [.sl paS l])])):=by kernel_rfl
def ckaF:List PaT->Int
 | []=>0
 | p::r=>match decide ((chkV p).2≠0) with
  | true=>(chkV p).2
  | false=>ckaF r
def lenF (m:Int):List PaT->Int->Int
 | [],_=>0
 | p::r,n=>match decide (p.2.1≠m) with
  | true=>61
  | false=>match decide (n<p.2.2.1) with
   | true=>61
   | false=>lenF m r (n-p.2.2.1)
def cjV (l:List PaT):Int:=match decide (l.length=0) with
 | true=>1
 | false=>match decide (ckaF l≠0) with
  | true=>ckaF l
  | false=>match l.any (othB l) with
   | true=>62
   | false=>lenF (gtP l 0).2.1 l 65536
def ctCj:Ctr:=⟨[.sl paS],λ x=>List.length x.1<1000000,λ x=>[.i (cjV x.1)],λ _=>[]⟩
theorem qqo:∀ {l:List PaT},ckaF l=0->∀ p∈l,(chkV p).2=0
 | [],_,p,hp=>by cases hp
 | q::l,h,p,hp=>by
  rw[ckaF] at h;by_cases hq:(chkV q).2≠0
  ·rw[decide_eq_true hq] at h;exact absurd h hq
  ·rw[decide_eq_false hq] at h;rcases List.mem_cons.1 hp with rfl | hp
   ·exact Classical.not_not.1 hq
   ·exact qqo h p hp
abbrev QJ (v:Int):List SV->List (Nat × LB)->Prop:=λ rs _=>rs=[.i v]
theorem q0y {l:List PaT} {v:Int} (h0:0<l.length) (hl:l.length<1000000) (hok:∀ p∈l,(chkV p).2=0):∀ (k i:Nat) (n:Int),l.length-i=k->i<=l.length->0<=n/\n<=65536->v=lenF (gtP l 0).2.1 (l.drop i) n->GD 74 Tryz.f74 (QJ v) (hd Tryz.f74 1) ⟨[(1,.ptr 1 0),(8,.i n),(33,.sl paS l),(34,.i (l.length:Nat)),(35,.i (i:Nat))],[(1,.var [.sl paS l])]⟩:=by
 intro k
 induction k with
 | zero=>
  intro i n hk hi hn hv;have hi:i=l.length:=by omega
  subst hi;refine qat cxJ1 (q13 l n l.length _ _) ?_;rw[decide_eq_false (show ¬ ((l.length:Nat):Int)<(l.length:Int) by omega),bc_f];rw[List.drop_length] at hv;rw[hv];rfl
 | succ k ih=>
  intro i n hk hi hn hv;have hil:i<l.length:=by omega
  refine qat cxJ1 (q13 l n i _ _) ?_;rw[decide_eq_true (show (i:Int)<(l.length:Int) by omega),bc_t];simp only[Int.toNat_natCast];rw[qgz hil,lenF,<- qfm hil] at hv;have hp:=(qex (hok (gtP l i) (by rw[qfm hil];exact List.getElem_mem hil))).2.2.1;refine ⟨by omega,by omega,by omega,by omega,qag (λ h=>⟨by trivial,?_⟩) (λ h=>?_)⟩
  ·rw[h] at hv;rw[hv]
  ·rw[h] at hv
   show bc (decide (n<(gtP l i).2.2.1)) _ _
   refine qag (λ h2=>?_) (λ h2=>?_)
   ·rw[h2] at hv;rw[hv]
   ·rw[h2] at hv;have h2:=of_decide_eq_false h2;have nx:=ih (i+1) (n-(gtP l i).2.2.1) (by omega) (by omega) (by omega) hv;rw[IntWalk.i64_in ((i:Int)+1) (by omega),IntWalk.i64_in (n-(gtP l i).2.2.1) (by omega)];exact nx.only ⟨rfl,rfl,rfl,rfl,rfl,trivial⟩ ⟨rfl,trivial⟩
theorem q0z {l:List PaT} {v:Int} (h0:0<l.length) (hl:l.length<1000000) (hv0:v=cjV l):∀ (k i:Nat),l.length-i=k->i<=l.length->ckaF l=ckaF (l.drop i)->GD 74 Tryz.f74 (QJ v) (hd Tryz.f74 0) ⟨[(1,.ptr 1 0),(14,.sl paS l),(15,.i (l.length:Nat)),(16,.i (i:Nat))],[(1,.var [.sl paS l])]⟩:=by
 have e0:decide (l.length=0)=false:=decide_eq_false (by omega);intro k
 induction k with
 | zero=>
  intro i hk hi hv;have hi:i=l.length:=by omega
  subst hi;rw[List.drop_length] at hv;have hc:ckaF l=0:=hv;have e1:decide (ckaF l≠0)=false:=decide_eq_false (by omega);unfold cjV at hv0;rw[e0,e1] at hv0;refine qat cxJ1 (q14 l l.length _ _) ?_;rw[decide_eq_false (show ¬ ((l.length:Nat):Int)<(l.length:Int) by omega),bc_f];refine ⟨⟨h0,hl⟩,qag (λ h=>?_) (λ h=>?_)⟩
  ·rw[h] at hv0;rw[hv0]
  ·rw[h] at hv0;exact (q0y h0 hl (qqo hc) _ 0 65536 rfl (Nat.zero_le _) (by omega) hv0).only ⟨rfl,rfl,rfl,rfl,rfl,trivial⟩ ⟨rfl,trivial⟩
 | succ k ih=>
  intro i hk hi hv;have hil:i<l.length:=by omega
  refine qat cxJ1 (q14 l i _ _) ?_;rw[decide_eq_true (show (i:Int)<(l.length:Int) by omega),bc_t];simp only[Int.toNat_natCast];rw[qgz hil,ckaF,<- qfm hil] at hv;refine ⟨by omega,by omega,trivial,qag (λ h=>?_) (λ h=>?_)⟩
  ·rw[h] at hv;have h:=of_decide_eq_true h;unfold cjV at hv0;rw[e0,decide_eq_true (show ckaF l≠0 by rw[hv];exact h),hv] at hv0;rw[hv0]
  ·rw[h] at hv;have nx:=ih (i+1) (by omega) (by omega) hv;rw[IntWalk.i64_in ((i:Int)+1) (by omega)];exact nx.only ⟨rfl,rfl,rfl,rfl,trivial⟩ ⟨rfl,trivial⟩
theorem q6i:Held Tryz.prog G0 74 ctCj:=Held.of cxJ1 (fn:=Tryz.f74) rfl rfl ⟨by decide,by decide⟩ λ ⟨l,_⟩ hp=>by
 have hl:l.length<1000000:=hp;refine qat cxJ1 (vc_cj l _ _) (qag (λ h=>?_) (λ h=>?_))
 ·have h:=of_decide_eq_true h;have e:cjV l=1:=by unfold cjV;rw[decide_eq_true (show l.length=0 by omega)]
  refine QC.flat ?_ rfl rfl
  show [SV.i (cjV l)]=_
  rw[e]
 ·have h:=of_decide_eq_false h;refine ((q0z (v:=cjV l) (by omega) hl rfl _ 0 rfl (Nat.zero_le _) rfl).post λ rs blk hq=>QC.flat (Eq.symm hq) rfl (by rw[hq];rfl)).only ⟨rfl,rfl,rfl,rfl,trivial⟩ ⟨rfl,trivial⟩
def ayaF (l:List PaT):List SyT:=l.flatMap λ p=>(symV p).1
def qvx (l:List PaT):Prop:=0<l.length/\l.length<1000000/\(ayaF l).length<16777216
def ctAya:Ctr:=⟨[.sl paS],λ x=>qvx x.1,λ x=>[.sl syS (ayaF x.1)],λ _=>[]⟩
theorem qeb {l:List PaT} {i:Nat} (h:i<l.length):ayaF (l.take (i+1))=ayaF (l.take i)++(symV (gtP l i)).1:=by
 unfold ayaF;rw[List.take_succ_eq_append_getElem h,List.flatMap_append,qfm h];simp
theorem qqq {l:List PaT} (i:Nat):(ayaF (l.take i)).length<=(ayaF l).length:=by
 have:ayaF l=ayaF (l.take i)++ayaF (l.drop i):=by
  unfold ayaF;rw[<- List.flatMap_append,List.take_append_drop]
 rw[this,List.length_append];omega
abbrev QAy (o:List SyT):List SV->List (Nat × LB)->Prop:=λ rs _=>rs=[.sl syS o]
theorem q06 {l:List PaT} (hl:l.length<1000000) (hb:(ayaF l).length<16777216):∀ (k i:Nat) (o:List SyT),l.length-i=k->i<=l.length->o=ayaF (l.take i)->GD 75 Tryz.f75 (QAy (ayaF l)) (hd Tryz.f75 0) ⟨[(3,.win true syS 77 0 o.length),(8,.sl paS l),(9,.i (l.length:Nat)),(10,.i (i:Nat))],[(77,.row 83 syS o)]⟩:=by
 intro k
 induction k with
 | zero=>
  intro i o hk hi ho;have hi:i=l.length:=by omega
  subst hi;rw[List.take_length] at ho;subst ho;refine qjd cxAy (quq l (ayaF l) l.length _ _) ?_;rw[decide_eq_false (show ¬ ((l.length:Nat):Int)<(l.length:Int) by omega),bc_f];refine ⟨rfl,rfl,rfl,by omega,by omega,by omega,by omega,by omega,rfl⟩
 | succ k ih=>
  intro i o hk hi ho;have hil:i<l.length:=by omega
  refine qjd cxAy (quq l o i _ _) ?_;have nx:=ih (i+1) (o++(symV (gtP l i)).1) (by omega) (by omega) (by rw[ho,qeb hil]);have hn:o.length+(symV (gtP l i)).1.length<=(ayaF l).length:=by
   have:=qqq (l:=l) (i+1);rw[qeb hil,<- ho,List.length_append] at this;exact this
  rw[decide_eq_true (show (i:Int)<(l.length:Int) by omega),bc_t,IntWalk.i64_in ((i:Int)+1) (by omega)];simp only[Int.toNat_natCast];refine ⟨by omega,by omega,trivial,by trivial,by trivial,by omega,by omega,?_⟩;refine nx.onlyR [(77,21)] rfl ⟨?_,rfl,rfl,rfl,trivial⟩ ⟨rfl,trivial⟩;rw[List.length_append];rfl
theorem q07:Held Tryz.prog G0 75 ctAya:=Held.of cxAy (fn:=Tryz.f75) rfl rfl ⟨by decide,by decide⟩ λ ⟨l,_⟩ hp=>by
 obtain ⟨h0,hl,hb⟩:qvx l:=hp;refine qjd cxAy (q70 l _ _) ?_;have go:GD 75 Tryz.f75 (QAy (ayaF l)) (hd Tryz.f75 0) ⟨[(3,.nils),(8,.sl paS l),(9,.i (l.length:Nat)),(10,.i (0:Int))],[]⟩:=by
  refine qjd cxAy (q3z l 0 _ _) ?_;have nx:=q06 hl hb _ 1 (symV (gtP l 0)).1 rfl (by omega) (by rw[qeb h0];rfl);have hn:(symV (gtP l 0)).1.length<=(ayaF l).length:=by
   have:=qqq (l:=l) 1;rw[qeb h0,List.length_append] at this;omega
  rw[decide_eq_true (show (0:Int)<(l.length:Int) by omega),bc_t];refine ⟨by omega,by omega,trivial,?_,by omega,?_⟩
  ·show (symV (gtP l 0)).1.length<2 ^ 30
   omega
  ·exact nx.onlyR [(77,21)] rfl ⟨rfl,rfl,rfl,rfl,trivial⟩ ⟨rfl,trivial⟩
 exact (go.post λ rs blk hq=>QC.flat (Eq.symm hq) rfl (by rw[hq];rfl)).only ⟨rfl,rfl,rfl,rfl,trivial⟩ trivial
abbrev CJn:CV:=[(74,.inl ctCj),(75,.inl ctAya),(55,.inl ctCp)]
theorem cxJn:CxOK Tryz.prog tt G0 CJn:=((cx0.k qxq (fn:=Tryz.f55)).k q07 (fn:=Tryz.f75)).k q6i (fn:=Tryz.f74)
set_option maxRecDepth 100000
theorem q3q (l:List PaT) (Q:QT) (R:RT):sA CJn Tryz.f33 Q R [.code (qae Tryz.f33)] (entry [.sl paS] (l,())) =
  (ctCj.pre (l,())/\bc (decide (cjV l≠0)) (Q [.agg [.bool false,.i 0,.i 0,.nils],.i (cjV l)] [(2,.var [.bool false,.i 0,.i 0,.nils])]) (ctAya.pre (l,())/\(0:Int)<=0/\(0:Int)<(l.length:Int)/\ctCp.pre (ayaF l,(gtP l (0)).2.1,())/\bc (decide ((cpV (ayaF l) (gtP l (0)).2.1).2≠0)) (Q [.agg [.bool false,.i 0,.i 0,.nils],.i (cpV (ayaF l) (gtP l (0)).2.1).2] [(2,.var [.bool false,.i 0,.i 0,.nils]),(5,.var [.bool (cpV (ayaF l) (gtP l (0)).2.1).1.1,.i (cpV (ayaF l) (gtP l (0)).2.1).1.2.1,.i (cpV (ayaF l) (gtP l (0)).2.1).1.2.2.1,.sl opS (cpV (ayaF l) (gtP l (0)).2.1).1.2.2.2])]) ((0:Int)<=0/\(0:Int)<(l.length:Int)/\Q [.agg [.bool (gtP l (0)).1,.i (cpV (ayaF l) (gtP l (0)).2.1).1.2.1,.i (cpV (ayaF l) (gtP l (0)).2.1).1.2.2.1,.sl opS (cpV (ayaF l) (gtP l (0)).2.1).1.2.2.2],.i 0] [(2,.var [.bool (gtP l (0)).1,.i (cpV (ayaF l) (gtP l (0)).2.1).1.2.1,.i (cpV (ayaF l) (gtP l (0)).2.1).1.2.2.1,.sl opS (cpV (ayaF l) (gtP l (0)).2.1).1.2.2.2]),(5,.var [.bool (gtP l (0)).1,.i (cpV (ayaF l) (gtP l (0)).2.1).1.2.1,.i (cpV (ayaF l) (gtP l (0)).2.1).1.2.2.1,.sl opS (cpV (ayaF l) (gtP l (0)).2.1).1.2.2.2])]))):=by kernel_rfl
def jnV (l:List PaT):PaT × Int:=match decide (cjV l≠0) with
 | true=>((false,0,0,[]),cjV l)
 | false=>match decide ((cpV (ayaF l) (gtP l 0).2.1).2≠0) with
  | true=>((false,0,0,[]),(cpV (ayaF l) (gtP l 0).2.1).2)
  | false=>(((gtP l 0).1,(cpV (ayaF l) (gtP l 0).2.1).1.2),0)
def ctJn:Ctr:=⟨[.sl paS],λ x=>List.length x.1<1000000,λ x=>[paV (jnV x.1).1,.i (jnV x.1).2],λ _=>[]⟩
theorem qrw {m:Int}:∀ {l:List PaT} {n:Int},0<=n->(∀ p∈l,(chkV p).2=0)->lenF m l n=0->((ayaF l).length:Int)<=n/\∀ p∈l,p.2.1=m
 | [],n,hn,_,_=>⟨hn,λ p hp=>by cases hp⟩
 | p::l,n,hn,hc,h=>by
  rw[lenF] at h;by_cases h1:p.2.1≠m
  ·rw[decide_eq_true h1] at h;cases h
  ·rw[decide_eq_false h1] at h;by_cases h2:n<p.2.2.1
   ·rw[decide_eq_true h2] at h;cases h
   ·rw[decide_eq_false h2] at h;have hp:=hc p (List.mem_cons_self ..);have hs:(symV p).2=0:=by unfold symV;rw[if_pos hp]
    have hl:=(qc7 hs).2.2;obtain ⟨a1,a2⟩:=qrw (m:=m) (l:=l) (by omega) (λ q hq=>hc q (List.mem_cons_of_mem _ hq)) h;refine ⟨?_,λ q hq=>?_⟩
    ·show (((symV p).1++ayaF l).length:Int)<=n
     rw[List.length_append];omega
    ·rcases List.mem_cons.1 hq with rfl | hq
     ·exact Classical.not_not.1 h1
     ·exact a2 q hq
theorem q9e {l:List PaT} (h:cjV l=0):0<l.length/\(∀ p∈l,(chkV p).2=0)/\l.any (othB l)=false/\(ayaF l).length<=65536/\∀ p∈l,p.2.1=(gtP l 0).2.1:=by
 unfold cjV at h;by_cases h1:l.length=0
 ·rw[decide_eq_true h1] at h;cases h
 ·rw[decide_eq_false h1] at h;by_cases h2:ckaF l≠0
  ·rw[decide_eq_true h2] at h;exact absurd h h2
  ·rw[decide_eq_false h2] at h;have hc:=qqo (Classical.not_not.1 h2)
   cases h3:l.any (othB l) with
   | true=>rw[h3] at h;cases h
   | false=>
    rw[h3] at h;obtain ⟨a1,a2⟩:=qrw (by omega) hc h;exact ⟨by omega,hc,rfl,by omega,a2⟩
theorem q8v (l:List PaT) (hl:l.length<1000000) (R:List Item->PS->Prop):sA CJn Tryz.f33 (QC ctJn (l,())) R [.code (qae Tryz.f33)] (entry [.sl paS] (l,())):=by
 refine (q3q l _ _).mpr ⟨hl,qag (λ h=>?_) (λ h=>?_)⟩
 ·have hv:jnV l=((false,0,0,[]),cjV l):=by unfold jnV;rw[show decide (cjV l≠0)=true from h]
  exact QC.mt (by show MtL _ [paV (jnV l).1,.i (jnV l).2] _;rw[hv];exact qh8 _) rfl
 ·have h0:cjV l=0:=by
   have:=of_decide_eq_false h;simpa using this
  obtain ⟨a1,_,_,a2,_⟩:=q9e h0;have pA:qvx l:=⟨a1,hl,by omega⟩;have pC:(ayaF l).length<16777216:=by omega
  refine ⟨pA,by omega,by omega,pC,qag (λ h2=>?_) (λ h2=>⟨by omega,by omega,?_⟩)⟩
  ·have hv:jnV l=((false,0,0,[]),(cpV (ayaF l) (gtP l 0).2.1).2):=by unfold jnV;rw[show decide (cjV l≠0)=false from h,show decide ((cpV (ayaF l) (gtP l 0).2.1).2≠0)=true from h2]
   exact QC.mt (by show MtL _ [paV (jnV l).1,.i (jnV l).2] _;rw[hv];exact qh8 _) rfl
  ·have hv:jnV l=(((gtP l 0).1,(cpV (ayaF l) (gtP l 0).2.1).1.2),0):=by unfold jnV;rw[show decide (cjV l≠0)=false from h,show decide ((cpV (ayaF l) (gtP l 0).2.1).2≠0)=false from h2]
   exact QC.flat (by show [paV (jnV l).1,.i (jnV l).2]=_;rw[hv];rfl) rfl rfl
theorem qwy:Held Tryz.prog G0 33 ctJn:=Held.run cxJn (fn:=Tryz.f33) rfl rfl ⟨by decide,by decide⟩ λ ⟨l,_⟩ hp=>q8v l hp _
theorem q7o  (Q:QT) (R:RT):sA [] Tryz.f61 Q R [.code (qae Tryz.f61)] (entry [] ()) =
  (0+2<=(((List.replicate (2:Nat) uB.dflt).set (0:Nat) (7:Int)).set (1:Nat) (8:Int)).length/\0+2<=(((List.replicate (2:Nat) uB.dflt).set (0:Nat) (7:Int)).set (1:Nat) (8:Int)).length/\Q [.agg [.bool false,.i 3,.i 5,.win true opS 4 0 (2:Nat)]] [(0,.var [.bool false,.i 3,.i 5,.win true opS 4 0 (2:Nat)]),(4,.row 74 opS (((List.replicate (2:Nat) opS.dflt).set (0:Nat) ((1:Int),(0:Int),(3:Int),(0:Int),[])).set (1:Nat) ((4:Int),(0:Int),(2:Int),(0:Int),winL uB 0 2 (((List.replicate (2:Nat) uB.dflt).set (0:Nat) (7:Int)).set (1:Nat) (8:Int)))))]):=by kernel_rfl
theorem q62 (a b:List PaT) (Q:QT) (R:RT):sA [(20,.inl ctSm)] Tryz.f62 Q R [.code (qae Tryz.f62)] (entry [.sl paS,.sl paS] (a,b,())) =
  (bc (decide ((a.length:Int)≠(b.length:Int))) (Q [.bool false] []) (R (hd Tryz.f62 0) { env:=[(0,.sl paS a),(1,.sl paS b),(4,.bool false),(5,.i 0),(6,.sl paS a),(7,.i (a.length:Int)),(8,.sl paS b),(9,.i (b.length:Int)),(10,.bool (decide ((a.length:Int)≠(b.length:Int))))],blk:=[] })):=by kernel_rfl
theorem qub (a b:List PaT) (i:Nat) (Q:QT) (R:RT):sA [(20,.inl ctSm)] Tryz.f62 Q R (hd Tryz.f62 0) ⟨[(0,.sl paS a),(1,.sl paS b),(5,.i (i:Nat))],[]⟩ =
  (bc (decide ((i:Int)<(a.length:Int))) ((0:Int)<=(i:Int)/\(i:Int)<(a.length:Int)/\(0:Int)<=(i:Int)/\(i:Int)<(b.length:Int)/\ctSm.pre ((gtP a (i:Int).toNat),(gtP b (i:Int).toNat),())/\bc (!smB (gtP a (i:Int).toNat) (gtP b (i:Int).toNat)) (Q [.bool false] []) (R (hd Tryz.f62 0) { env:=[(0,.sl paS a),(1,.sl paS b),(5,.i (IntKind.i64.wrap ((i:Int)+1))),(11,.i (i:Int)),(12,.sl paS a),(13,.i (a.length:Int)),(14,.bool (decide ((i:Int)<(a.length:Int)))),(15,.i (i:Int)),(16,.i (IntKind.i64.wrap ((i:Int)+1))),(17,.sl paS a),(18,.i (i:Int)),(19,.elv paS (gtP a (i:Int).toNat)),(20,.agg [.bool (gtP a (i:Int).toNat).1,.i (gtP a (i:Int).toNat).2.1,.i (gtP a (i:Int).toNat).2.2.1,.sl opS (gtP a (i:Int).toNat).2.2.2]),(21,.sl paS b),(22,.i (i:Int)),(23,.elv paS (gtP b (i:Int).toNat)),(24,.agg [.bool (gtP b (i:Int).toNat).1,.i (gtP b (i:Int).toNat).2.1,.i (gtP b (i:Int).toNat).2.2.1,.sl opS (gtP b (i:Int).toNat).2.2.2]),(25,.bool (smB (gtP a (i:Int).toNat) (gtP b (i:Int).toNat))),(26,.bool !smB (gtP a (i:Int).toNat) (gtP b (i:Int).toNat))],blk:=[] })) (Q [.bool true] [])):=by kernel_rfl
def smlR:List PaT->List PaT->Bool
 | x::a,y::b=>match !smB x y with
  | true=>false
  | false=>smlR a b
 | _,_=>true
def smlB (a b:List PaT):Bool:=match decide ((a.length:Int)≠(b.length:Int)) with
 | true=>false
 | false=>smlR a b
def qlt (a:List PaT):Prop:=a.length<1000000/\∀ p∈a,p.2.2.2.length<1099511627776
def ctSml:Ctr:=⟨[.sl paS,.sl paS],λ x=>qlt x.1,λ x=>[.bool (smlB x.1 x.2.1)],λ _=>[]⟩
theorem cxSl:CxOK Tryz.prog tt G0 [(20,.inl ctSm)]:=cx0.k qpq (fn:=Tryz.f20)
theorem qy5 {a b:List PaT} {v:Bool} (ha:qlt a) (hl:a.length=b.length):∀ (k i:Nat),a.length-i=k->i<=a.length->v=smlR (a.drop i) (b.drop i)->GD 62 Tryz.f62 (λ rs _=>rs=[.bool v]) (hd Tryz.f62 0) ⟨[(0,.sl paS a),(1,.sl paS b),(5,.i (i:Nat))],[]⟩:=by
 intro k
 induction k with
 | zero=>
  intro i hk hi hv;have hi:i=a.length:=by omega
  subst hi;refine qjd cxSl (qub a b a.length _ _) ?_;rw[decide_eq_false (show ¬ ((a.length:Nat):Int)<(a.length:Int) by omega),bc_f];rw[List.drop_length] at hv;rw[hv];rfl
 | succ k ih=>
  intro i hk hi hv;have hil:i<a.length:=by omega
  have hib:i<b.length:=by omega
  have ha1:=ha.1;refine qjd cxSl (qub a b i _ _) ?_;rw[decide_eq_true (show (i:Int)<(a.length:Int) by omega),bc_t,IntWalk.i64_in ((i:Int)+1) (by omega)];simp only[Int.toNat_natCast];rw[qgz hil,qgz hib,smlR,<- qfm hil,<- qfm hib] at hv;have hp:(gtP a i).2.2.2.length<1099511627776:=ha.2 _ (by rw[qfm hil];exact List.getElem_mem hil);refine ⟨by omega,by omega,by omega,by omega,hp,qag (λ h=>?_) (λ h=>?_)⟩
  ·rw[h] at hv;rw[hv]
  ·rw[h] at hv;exact (ih (i+1) (by omega) (by omega) hv).only ⟨rfl,rfl,rfl,trivial⟩ trivial
theorem qy6:Held Tryz.prog G0 62 ctSml:=Held.of cxSl (fn:=Tryz.f62) rfl rfl ⟨by decide,by decide⟩ λ ⟨a,b,_⟩ hp=>by
 have hp:qlt a:=hp;refine qjd cxSl (q62 a b _ _) (qag (λ h=>?_) (λ h=>?_))
 ·refine QC.flat ?_ rfl rfl
  show [SV.bool (smlB a b)]=_
  unfold smlB;rw[h]
 ·have hl:=of_decide_eq_false h;have hl:a.length=b.length:=by omega
  refine ((qy5 (v:=smlB a b) hp hl _ 0 rfl (Nat.zero_le _) ?_).post λ rs blk hq=>QC.flat (Eq.symm hq) rfl (by rw[hq];rfl)).only ⟨rfl,rfl,rfl,trivial⟩ trivial;unfold smlB;rw[h];rfl
def givP:PaT:=(false,3,5,[(1,0,3,0,[]),(4,0,2,0,[7,8])])
def q2x:Ctr:=⟨[],λ _=>True,λ _=>[.agg [.bool false,.i 3,.i 5,.win true opS 0 0 2]],λ _=>[.row 74 opS givP.2.2.2]⟩
def ctGiv:Ctr:=⟨[],λ _=>True,λ _=>[paV givP],λ _=>[]⟩
theorem givW_held:Held Tryz.prog G0 61 q2x:=by
 refine Held.run cx0 (fn:=Tryz.f61) rfl rfl ⟨by decide,by decide⟩ ?_;rintro ⟨⟩ _;refine (q7o _ _).mpr ⟨by decide,by decide,?_⟩;refine ⟨λ i=>if i=0 then some 4 else none,?_,?_,λ i j b h1 h2=>?_,rfl⟩
 ·exact ⟨_,_,rfl,⟨_,rfl,_,_,rfl,rfl,_,_,rfl,rfl,_,_,rfl,rfl,_,_,rfl,.inl ⟨true,4,rfl,rfl,λ h=>h⟩,rfl⟩,rfl⟩
 ·exact ⟨.inl ⟨4,rfl,rfl⟩,trivial⟩
 ·simp only at h1 h2;split at h1
  ·split at h2
   ·omega
   ·cases h2
  ·cases h1
theorem q0m:Held Tryz.prog G0 61 ctGiv:=by
 have h:=givW_held.frz (λ x _=>⟨by simp[q2x,inL,inS,givP],trivial⟩);exact h.iff rfl (λ x h=>h) (λ x _=>rfl) (λ x _=>rfl)
def CSn:CV:=[(61,.inl ctGiv),(32,.inl ctSec),(28,.inl ctSpl),(33,.inl ctJn),(62,.inl ctSml),(20,.inl ctSm)]
theorem cxSn:CxOK Tryz.prog tt G0 CSn:=(((((cx0.k qpq (fn:=Tryz.f20)).k qy6 (fn:=Tryz.f62)).k qwy (fn:=Tryz.f33)).k qy3 (fn:=Tryz.f28)).k sec_held (fn:=Tryz.f32)).k q0m (fn:=Tryz.f61)
set_option maxRecDepth 100000
theorem q3c  (Q:QT) (R:RT):sA CSn Tryz.f24 Q R [.code (qae Tryz.f24)] (entry [] ()) =
  (ctGiv.pre ()/\ctSec.pre (givP,(2:Int),())/\0+1<=((List.replicate (1:Nat) seS.dflt).set (0:Nat) ((ByteArray.mk #[(120:UInt8)]).data.toList,(1:Int),(4:Int),false)).length/\ctSpl.pre (givP,winL seS 0 1 ((List.replicate (1:Nat) seS.dflt).set (0:Nat) ((ByteArray.mk #[(120:UInt8)]).data.toList,(1:Int),(4:Int),false)),())/\0+1<=((List.replicate (1:Nat) seS.dflt).set (0:Nat) ((ByteArray.mk #[(120:UInt8)]).data.toList,(4:Int),(6:Int),false)).length/\ctSpl.pre (givP,winL seS 0 1 ((List.replicate (1:Nat) seS.dflt).set (0:Nat) ((ByteArray.mk #[(120:UInt8)]).data.toList,(4:Int),(6:Int),false)),())/\ctSec.pre (givP,(0:Int),())/\ctJn.pre ([],())/\0+1<=([(7:Int)]:List uB.D).length/\0+1<=([(7:Int)]:List uB.D).length/\0+1<=([(8:Int)]:List uB.D).length/\0+1<=([(8:Int)]:List uB.D).length/\0+1<=([((1:Int),(0:Int),(2:Int),(0:Int),[])]:List opS.D).length/\0+1<=([((1:Int),(0:Int),(2:Int),(0:Int),[])]:List opS.D).length/\0+2<=(((List.replicate (2:Nat) opS.dflt).set (0:Nat) ((1:Int),(2:Int),(1:Int),(0:Int),[])).set (1:Nat) ((4:Int),(0:Int),(1:Int),(0:Int),([(7:Int)]:List uB.D))).length/\0+2<=(((List.replicate (2:Nat) opS.dflt).set (0:Nat) ((1:Int),(2:Int),(1:Int),(0:Int),[])).set (1:Nat) ((4:Int),(0:Int),(1:Int),(0:Int),([(7:Int)]:List uB.D))).length/\0+1<=([((4:Int),(0:Int),(1:Int),(0:Int),([(8:Int)]:List uB.D))]:List opS.D).length/\0+1<=([((4:Int),(0:Int),(1:Int),(0:Int),([(8:Int)]:List uB.D))]:List opS.D).length/\0+3<=((((List.replicate (3:Nat) paS.dflt).set (0:Nat) (false,(3:Int),(2:Int),([((1:Int),(0:Int),(2:Int),(0:Int),[])]:List opS.D))).set (1:Nat) (false,(3:Int),(2:Int),winL opS 0 2 (((List.replicate (2:Nat) opS.dflt).set (0:Nat) ((1:Int),(2:Int),(1:Int),(0:Int),[])).set (1:Nat) ((4:Int),(0:Int),(1:Int),(0:Int),([(7:Int)]:List uB.D))))).set (2:Nat) (false,(3:Int),(1:Int),([((4:Int),(0:Int),(1:Int),(0:Int),winL uB 0 1 ([(8:Int)]:List uB.D))]:List opS.D))).length/\0+3<=((((List.replicate (3:Nat) paS.dflt).set (0:Nat) (false,(3:Int),(2:Int),([((1:Int),(0:Int),(2:Int),(0:Int),[])]:List opS.D))).set (1:Nat) (false,(3:Int),(2:Int),winL opS 0 2 (((List.replicate (2:Nat) opS.dflt).set (0:Nat) ((1:Int),(2:Int),(1:Int),(0:Int),[])).set (1:Nat) ((4:Int),(0:Int),(1:Int),(0:Int),([(7:Int)]:List uB.D))))).set (2:Nat) (false,(3:Int),(1:Int),([((4:Int),(0:Int),(1:Int),(0:Int),winL uB 0 1 ([(8:Int)]:List uB.D))]:List opS.D))).length/\0+3<=((((List.replicate (3:Nat) paS.dflt).set (0:Nat) (false,(3:Int),(2:Int),([((1:Int),(0:Int),(2:Int),(0:Int),[])]:List opS.D))).set (1:Nat) (false,(3:Int),(2:Int),winL opS 0 2 (((List.replicate (2:Nat) opS.dflt).set (0:Nat) ((1:Int),(2:Int),(1:Int),(0:Int),[])).set (1:Nat) ((4:Int),(0:Int),(1:Int),(0:Int),([(7:Int)]:List uB.D))))).set (2:Nat) (false,(3:Int),(1:Int),([((4:Int),(0:Int),(1:Int),(0:Int),winL uB 0 1 ([(8:Int)]:List uB.D))]:List opS.D))).length/\ctJn.pre (winL paS 0 3 ((((List.replicate (3:Nat) paS.dflt).set (0:Nat) (false,(3:Int),(2:Int),([((1:Int),(0:Int),(2:Int),(0:Int),[])]:List opS.D))).set (1:Nat) (false,(3:Int),(2:Int),winL opS 0 2 (((List.replicate (2:Nat) opS.dflt).set (0:Nat) ((1:Int),(2:Int),(1:Int),(0:Int),[])).set (1:Nat) ((4:Int),(0:Int),(1:Int),(0:Int),([(7:Int)]:List uB.D))))).set (2:Nat) (false,(3:Int),(1:Int),([((4:Int),(0:Int),(1:Int),(0:Int),winL uB 0 1 ([(8:Int)]:List uB.D))]:List opS.D))),())/\0+1<=([(7:Int)]:List uB.D).length/\0+1<=([(7:Int)]:List uB.D).length/\0+(secV givP (2:Int)).1.length<=(secV givP (2:Int)).1.length/\ctSml.pre (winL paS 0 (secV givP (2:Int)).1.length (secV givP (2:Int)).1,winL paS 0 3 ((((List.replicate (3:Nat) paS.dflt).set (0:Nat) (false,(3:Int),(2:Int),([((1:Int),(0:Int),(2:Int),(0:Int),[])]:List opS.D))).set (1:Nat) (false,(3:Int),(2:Int),winL opS 0 2 (((List.replicate (2:Nat) opS.dflt).set (0:Nat) ((1:Int),(2:Int),(1:Int),(0:Int),[])).set (1:Nat) ((4:Int),(0:Int),(1:Int),(0:Int),([(7:Int)]:List uB.D))))).set (2:Nat) (false,(3:Int),(1:Int),([((4:Int),(0:Int),(1:Int),(0:Int),winL uB 0 1 ([(8:Int)]:List uB.D))]:List opS.D))),())/\0+2<=(((List.replicate (2:Nat) opS.dflt).set (0:Nat) ((1:Int),(1:Int),(2:Int),(0:Int),[])).set (1:Nat) ((4:Int),(0:Int),(1:Int),(0:Int),([(7:Int)]:List uB.D))).length/\0+2<=(((List.replicate (2:Nat) opS.dflt).set (0:Nat) ((1:Int),(1:Int),(2:Int),(0:Int),[])).set (1:Nat) ((4:Int),(0:Int),(1:Int),(0:Int),([(7:Int)]:List uB.D))).length/\0+2<=(((List.replicate (2:Nat) opS.dflt).set (0:Nat) ((1:Int),(1:Int),(2:Int),(0:Int),[])).set (1:Nat) ((4:Int),(0:Int),(1:Int),(0:Int),([(7:Int)]:List uB.D))).length/\0+2<=(((List.replicate (2:Nat) opS.dflt).set (0:Nat) ((1:Int),(1:Int),(2:Int),(0:Int),[])).set (1:Nat) ((4:Int),(0:Int),(1:Int),(0:Int),([(7:Int)]:List uB.D))).length/\0+(splV givP (winL seS 0 1 ((List.replicate (1:Nat) seS.dflt).set (0:Nat) ((ByteArray.mk #[(120:UInt8)]).data.toList,(1:Int),(4:Int),false)))).1.length<=(splV givP (winL seS 0 1 ((List.replicate (1:Nat) seS.dflt).set (0:Nat) ((ByteArray.mk #[(120:UInt8)]).data.toList,(1:Int),(4:Int),false)))).1.length/\0+1<=([(false,(3:Int),(3:Int),winL opS 0 2 (((List.replicate (2:Nat) opS.dflt).set (0:Nat) ((1:Int),(1:Int),(2:Int),(0:Int),[])).set (1:Nat) ((4:Int),(0:Int),(1:Int),(0:Int),([(7:Int)]:List uB.D))))]:List paS.D).length/\ctSml.pre (winL paS 0 (splV givP (winL seS 0 1 ((List.replicate (1:Nat) seS.dflt).set (0:Nat) ((ByteArray.mk #[(120:UInt8)]).data.toList,(1:Int),(4:Int),false)))).1.length (splV givP (winL seS 0 1 ((List.replicate (1:Nat) seS.dflt).set (0:Nat) ((ByteArray.mk #[(120:UInt8)]).data.toList,(1:Int),(4:Int),false)))).1,([(false,(3:Int),(3:Int),winL opS 0 2 (((List.replicate (2:Nat) opS.dflt).set (0:Nat) ((1:Int),(1:Int),(2:Int),(0:Int),[])).set (1:Nat) ((4:Int),(0:Int),(1:Int),(0:Int),([(7:Int)]:List uB.D))))]:List paS.D),())/\ctSm.pre (((jnV (winL paS 0 3 ((((List.replicate (3:Nat) paS.dflt).set (0:Nat) (false,(3:Int),(2:Int),([((1:Int),(0:Int),(2:Int),(0:Int),[])]:List opS.D))).set (1:Nat) (false,(3:Int),(2:Int),winL opS 0 2 (((List.replicate (2:Nat) opS.dflt).set (0:Nat) ((1:Int),(2:Int),(1:Int),(0:Int),[])).set (1:Nat) ((4:Int),(0:Int),(1:Int),(0:Int),([(7:Int)]:List uB.D))))).set (2:Nat) (false,(3:Int),(1:Int),([((4:Int),(0:Int),(1:Int),(0:Int),winL uB 0 1 ([(8:Int)]:List uB.D))]:List opS.D))))).1),givP,())/\Q [.bool (bif true then smB ((jnV (winL paS 0 3 ((((List.replicate (3:Nat) paS.dflt).set (0:Nat) (false,(3:Int),(2:Int),([((1:Int),(0:Int),(2:Int),(0:Int),[])]:List opS.D))).set (1:Nat) (false,(3:Int),(2:Int),winL opS 0 2 (((List.replicate (2:Nat) opS.dflt).set (0:Nat) ((1:Int),(2:Int),(1:Int),(0:Int),[])).set (1:Nat) ((4:Int),(0:Int),(1:Int),(0:Int),([(7:Int)]:List uB.D))))).set (2:Nat) (false,(3:Int),(1:Int),([((4:Int),(0:Int),(1:Int),(0:Int),winL uB 0 1 ([(8:Int)]:List uB.D))]:List opS.D))))).1) givP else false)] [(1,.var [.bool givP.1,.i givP.2.1,.i givP.2.2.1,.sl opS givP.2.2.2]),(10,.var [.bool (jnV []).1.1,.i (jnV []).1.2.1,.i (jnV []).1.2.2.1,.sl opS (jnV []).1.2.2.2]),(13,.var [.bool (jnV (winL paS 0 3 ((((List.replicate (3:Nat) paS.dflt).set (0:Nat) (false,(3:Int),(2:Int),([((1:Int),(0:Int),(2:Int),(0:Int),[])]:List opS.D))).set (1:Nat) (false,(3:Int),(2:Int),winL opS 0 2 (((List.replicate (2:Nat) opS.dflt).set (0:Nat) ((1:Int),(2:Int),(1:Int),(0:Int),[])).set (1:Nat) ((4:Int),(0:Int),(1:Int),(0:Int),([(7:Int)]:List uB.D))))).set (2:Nat) (false,(3:Int),(1:Int),([((4:Int),(0:Int),(1:Int),(0:Int),winL uB 0 1 ([(8:Int)]:List uB.D))]:List opS.D))))).1.1,.i (jnV (winL paS 0 3 ((((List.replicate (3:Nat) paS.dflt).set (0:Nat) (false,(3:Int),(2:Int),([((1:Int),(0:Int),(2:Int),(0:Int),[])]:List opS.D))).set (1:Nat) (false,(3:Int),(2:Int),winL opS 0 2 (((List.replicate (2:Nat) opS.dflt).set (0:Nat) ((1:Int),(2:Int),(1:Int),(0:Int),[])).set (1:Nat) ((4:Int),(0:Int),(1:Int),(0:Int),([(7:Int)]:List uB.D))))).set (2:Nat) (false,(3:Int),(1:Int),([((4:Int),(0:Int),(1:Int),(0:Int),winL uB 0 1 ([(8:Int)]:List uB.D))]:List opS.D))))).1.2.1,.i (jnV (winL paS 0 3 ((((List.replicate (3:Nat) paS.dflt).set (0:Nat) (false,(3:Int),(2:Int),([((1:Int),(0:Int),(2:Int),(0:Int),[])]:List opS.D))).set (1:Nat) (false,(3:Int),(2:Int),winL opS 0 2 (((List.replicate (2:Nat) opS.dflt).set (0:Nat) ((1:Int),(2:Int),(1:Int),(0:Int),[])).set (1:Nat) ((4:Int),(0:Int),(1:Int),(0:Int),([(7:Int)]:List uB.D))))).set (2:Nat) (false,(3:Int),(1:Int),([((4:Int),(0:Int),(1:Int),(0:Int),winL uB 0 1 ([(8:Int)]:List uB.D))]:List opS.D))))).1.2.2.1,.sl opS (jnV (winL paS 0 3 ((((List.replicate (3:Nat) paS.dflt).set (0:Nat) (false,(3:Int),(2:Int),([((1:Int),(0:Int),(2:Int),(0:Int),[])]:List opS.D))).set (1:Nat) (false,(3:Int),(2:Int),winL opS 0 2 (((List.replicate (2:Nat) opS.dflt).set (0:Nat) ((1:Int),(2:Int),(1:Int),(0:Int),[])).set (1:Nat) ((4:Int),(0:Int),(1:Int),(0:Int),([(7:Int)]:List uB.D))))).set (2:Nat) (false,(3:Int),(1:Int),([((4:Int),(0:Int),(1:Int),(0:Int),winL uB 0 1 ([(8:Int)]:List uB.D))]:List opS.D))))).1.2.2.2]),(15,.var [.bool false,.i 3,.i 3,.sl opS (winL opS 0 2 (((List.replicate (2:Nat) opS.dflt).set (0:Nat) ((1:Int),(1:Int),(2:Int),(0:Int),[])).set (1:Nat) ((4:Int),(0:Int),(1:Int),(0:Int),([(7:Int)]:List uB.D))))]),(82,.row 31 paS ([(false,(3:Int),(3:Int),winL opS 0 2 (((List.replicate (2:Nat) opS.dflt).set (0:Nat) ((1:Int),(1:Int),(2:Int),(0:Int),[])).set (1:Nat) ((4:Int),(0:Int),(1:Int),(0:Int),([(7:Int)]:List uB.D))))]:List paS.D)),(1077824,.row 31 paS (secV givP (2:Int)).1),(1106496,.row 31 paS (splV givP (winL seS 0 1 ((List.replicate (1:Nat) seS.dflt).set (0:Nat) ((ByteArray.mk #[(120:UInt8)]).data.toList,(1:Int),(4:Int),false)))).1),(1135168,.row 31 paS (splV givP (winL seS 0 1 ((List.replicate (1:Nat) seS.dflt).set (0:Nat) ((ByteArray.mk #[(120:UInt8)]).data.toList,(4:Int),(6:Int),false)))).1),(1155648,.row 31 paS (secV givP (0:Int)).1)]):=by kernel_rfl
def ctSn12:Ctr:=⟨[],λ _=>True,λ _=>[.bool true],λ _=>[]⟩
instance (a:List PaT):Decidable (qlt a):=by unfold qlt;infer_instance
theorem qy4 (R:List Item->PS->Prop):sA CSn Tryz.f24 (QC ctSn12 ()) R [.code (qae Tryz.f24)] (entry [] ()):=by
 refine (q3c _ _).mpr ?_
 repeat' first
  | exact trivial
  | decide +kernel
  | refine And.intro ?_ ?_
  | (refine QC.flat ?_ rfl rfl)
  | (show List.length _<1099511627776;decide +kernel)
  | (show List.length _<1000000;decide +kernel)
  | (show qlt _;decide +kernel)
  | (show ∀ s∈_,List.length _<2 ^ 62;decide +kernel)
  | (refine congrArg (λ b=>[SV.bool b]) ?_;decide +kernel)
theorem qu5:Held Tryz.prog G0 24 ctSn12:=Held.run cxSn (fn:=Tryz.f24) rfl rfl ⟨by decide,by decide⟩ λ x _=>qy4 _
def CQ:CV:=[(65,.inl ctPl),(63,.inl ctSym)]
theorem cxQ:CxOK Tryz.prog tt G0 CQ:=(cx0.k sym_held (fn:=Tryz.f63)).k q4y (fn:=Tryz.f65)
theorem qyp (old:List Int) (li:Bool) (m o:Int) (l:List OpT) (Q:QT) (R:RT):sA CQ Tryz.f27 Q R [.code (qae Tryz.f27)] (entry [.sl uB,paS] (old,(li,m,o,l),())) =
  (ctSym.pre ((li,m,o,l),())/\bc (decide ((symV (li,m,o,l)).2≠0)) (Q [.nils,.i (symV (li,m,o,l)).2] [(3,.var [.bool li,.i m,.i o,.sl opS l]),(1040960,.row 83 syS (symV (li,m,o,l)).1)]) (bc li False ((0:Nat)+(symV (li,m,o,l)).1.length<=(symV (li,m,o,l)).1.length/\ctPl.pre (old,m,winL syS 0 (symV (li,m,o,l)).1.length (symV (li,m,o,l)).1,())/\Q [.win true uB 1118784 0 (plV old m (winL syS 0 (symV (li,m,o,l)).1.length (symV (li,m,o,l)).1)).1.length,.i (plV old m (winL syS 0 (symV (li,m,o,l)).1.length (symV (li,m,o,l)).1)).2] [(3,.var [.bool li,.i m,.i o,.sl opS l]),(1040960,.row 83 syS (symV (li,m,o,l)).1),(1118784,.row 5 uB (plV old m (winL syS 0 (symV (li,m,o,l)).1.length (symV (li,m,o,l)).1)).1)]))):=by kernel_rfl
def apV (old:List Int) (p:PaT):List Int × Int:=if (symV p).2=0 then plV old p.2.1 (symV p).1 else ([],(symV p).2)
def ctAp:Ctr:=⟨[.sl uB,paS],λ x=>x.2.1.1=false,λ x=>[.win true uB 0 0 (apV x.1 x.2.1).1.length,.i (apV x.1 x.2.1).2],λ x=>[.row 5 uB (apV x.1 x.2.1).1]⟩
theorem ap_held:Held Tryz.prog G0 27 ctAp:=by
 refine Held.run cxQ (fn:=Tryz.f27) rfl rfl ⟨by decide,by decide⟩ ?_;rintro ⟨old,⟨li,m,o,l⟩,⟨⟩⟩ hp;replace hp:li=false:=hp;subst hp;refine (qyp old false m o l _ _).mpr ⟨trivial,qag (λ h=>?_) (λ h=>?_)⟩
 ·have h:(symV (false,m,o,l)).2≠0:=of_decide_eq_true h;have hv:apV old (false,m,o,l)=([],(symV (false,m,o,l)).2):=if_neg h;refine qde (e:=uB) (et:=5) (z:=(symV (false,m,o,l)).2) ?_ ?_ rfl (by decide)
  ·show [_,_]=_;rw[hv];rfl
  ·show [_]=_;rw[hv]
 ·have h:¬ (symV (false,m,o,l)).2≠0:=of_decide_eq_false h;have h:(symV (false,m,o,l)).2=0:=by simpa using h
  have hv:apV old (false,m,o,l)=plV old m (symV (false,m,o,l)).1:=if_pos h;have hl:=qyw (false,m,o,l);have hw:winL syS 0 (symV (false,m,o,l)).1.length (symV (false,m,o,l)).1=(symV (false,m,o,l)).1:=winA (e:=syS) _;rw[bc_f,hw];refine ⟨Nat.le_of_eq (Nat.zero_add _),hl,?_⟩;refine qgp (e:=uB) (et:=5) (a:=1118784) (z:=(plV old m (symV (false,m,o,l)).1).2) (xs:=(plV old m (symV (false,m,o,l)).1).1) ?_ ?_ rfl rfl rfl
  ·show [_,_]=_;rw[hv]
  ·show [_]=_;rw[hv]
def ctInG:Ctr:=⟨[.sl uB,iI],λ x=>preI x.2.1,λ x=>[.sl uB (inpL x.1 x.2.1.toNat)],λ _=>[]⟩
def ctApF:Ctr:=⟨[.sl uB,paS],λ x=>x.2.1.1=false,λ x=>[.sl uB (apV x.1 x.2.1).1,.i (apV x.1 x.2.1).2],λ _=>[]⟩
set_option maxRecDepth 100000
theorem fo_ok {p:PaT} (h:(chkV p).2=0) (hs:p.2.2.1<=4096):foV p=((p.1,p.2.1,p.2.2.1,chL (symF p.2.2.2)),0)/\(chkV (p.1,p.2.1,p.2.2.1,chL (symF p.2.2.2))).2=0/\symF (chL (symF p.2.2.2))=symF p.2.2.2/\qtv 0 (chL (symF p.2.2.2))=cst (symF p.2.2.2)/\(chL (symF p.2.2.2)).length<=4096:=by
 obtain ⟨hr,hl,ho,hn⟩:=qex h;have hi:=qxt h;have sl:=qfx hr;have so:=quy hi.1 (by omega) hr;obtain ⟨q1,q2,q3,q4,q5,q6⟩:=qrj so hi.1 hi.2 (by omega);have e:((symF p.2.2.2).length:Int)=p.2.2.1:=by omega
 rw[e] at q1 q6;have hv:symV p=(symF p.2.2.2,0):=by unfold symV;rw[if_pos h]
 refine ⟨?_,q6,q2,q6d so hi.1 hi.2 (by omega),q5⟩;unfold foV;rw[hv];simp only[q1];rfl
abbrev nfP (li:Bool) (m:Int) (s:List SyT):PaT:=(li,m,(s.length:Int),chL s)
theorem q8s {s:List SyT} {m:Int} (li:Bool) (hr:∀ x∈s,sOK m x=true) (h0:0<=m) (h1:m<=65536) (hl:s.length<=4096):(chkV (nfP li m s)).2=0/\symF (chL s)=s/\symV (nfP li m s)=(s,0):=by
 obtain ⟨q1,q2,q3,q4,q5,q6⟩:=qrj hr h0 h1 hl;have q6:(chkV (nfP li m s)).2=0:=q6;refine ⟨q6,q2,?_⟩;unfold symV;rw[if_pos q6];exact Prod.ext q2 rfl
def okJ (l:List PaT) (m:Int):Prop:=(0<=m/\m<=65536)/\(∀ p∈l,(chkV p).2=0/\p.1=false/\p.2.1=m)/\(ayaF l).length<=4096
theorem q2z:∀ {l:List PaT},(∀ p∈l,(chkV p).2=0)->ckaF l=0
 | [],_=>rfl
 | p::l,h=>by
  rw[ckaF,decide_eq_false (by rw[h p (List.mem_cons_self ..)];simp)];exact q2z λ q hq=>h q (List.mem_cons_of_mem _ hq)
theorem qio {p:PaT} (h:(chkV p).2=0):(symV p).2=0/\((symV p).1.length:Int)=p.2.2.1:=by
 have hs:(symV p).2=0:=by unfold symV;rw[if_pos h]
 exact ⟨hs,(qc7 hs).2.2⟩
theorem q2n {m:Int}:∀ {l:List PaT} {n:Int},(∀ p∈l,(chkV p).2=0/\p.1=false/\p.2.1=m)->((ayaF l).length:Int)<=n->lenF m l n=0
 | [],_,_,_=>rfl
 | p::l,n,h,hn=>by
  have hp:=h p (List.mem_cons_self ..);have hl:=(qio hp.1).2;have hn:(((symV p).1++ayaF l).length:Int)<=n:=hn;rw[List.length_append] at hn;rw[lenF,decide_eq_false (by rw[hp.2.2];simp),decide_eq_false (by omega)];exact q2n (λ q hq=>h q (List.mem_cons_of_mem _ hq)) (by omega)
theorem qsj {l:List PaT} {m:Int} (h:okJ l m):∀ x∈ayaF l,sOK m x=true:=by
 intro x hx;obtain ⟨p,hp,hx⟩:=List.mem_flatMap.1 hx;have hq:=h.2.1 p hp;have:=(qc7 (qio hq.1).1).1 x hx;rw[hq.2.2] at this;exact this
theorem cj_0 {l:List PaT} {m:Int} (h0:0<l.length) (h:okJ l m):cjV l=0/\(gtP l 0).1=false/\(gtP l 0).2.1=m:=by
 have hg:=h.2.1 (gtP l 0) (by rw[qfm h0];exact List.getElem_mem h0);have h4:=h.2.2;have ho:l.any (othB l)=false:=by
  rw[List.any_eq_false];intro p hp;unfold othB;rw[(h.2.1 p hp).2.1,hg.2.1];decide
 refine ⟨?_,hg.2.1,hg.2.2⟩;unfold cjV;rw[decide_eq_false (by omega),decide_eq_false (by rw[q2z λ p hp=>(h.2.1 p hp).1];simp),ho,hg.2.2];exact q2n h.2.1 (by omega)
theorem q8u {l:List PaT} {m:Int} (h0:0<l.length) (h:okJ l m):jnV l=((false,m,((ayaF l).length:Int),chL (ayaF l)),0):=by
 obtain ⟨e1,e2,e3⟩:=cj_0 h0 h;have e4:=q2y (qsj h) h.1.1 h.1.2 h.2.2;unfold jnV;rw[decide_eq_false (by rw[e1];simp),e3,e4,e2,decide_eq_false (by simp)]
theorem jn_ok {l:List PaT} {m:Int} (h:okJ l m):(chkV (false,m,((ayaF l).length:Int),chL (ayaF l))).2=0/\symV (false,m,((ayaF l).length:Int),chL (ayaF l))=(ayaF l,0):=by
 have:=q8s false (qsj h) h.1.1 h.1.2 h.2.2;exact ⟨this.1,this.2.2⟩
theorem q25 {old:List Int} {p:PaT} (h:(chkV p).2=0) (ho:(old.length:Int)=p.2.1):apV old p=((symV p).1.map (ruB old),0):=by
 have hs:=qio h;unfold apV;rw[if_pos hs.1];unfold plV;rw[if_pos ho];unfold runV;rw[if_pos];refine List.all_eq_true.2 λ x hx=>?_
 have:=(qc7 hs.1).1 x hx;rw[<- ho] at this;unfold sOK at this;unfold ruOK;split at this
 next q=>rw[q];simpa using this
 next q=>simp[q]
theorem sz_ok {t:List (List Int)} {m:Int} (ht:qm3 t) (h0:0<=m) (h1:m<=65536):(chkV (szV t m)).2=0/\(symV (szV t m)).1.length<=30:=by
 have hc:(chkV (szV t m)).2=0:=by rw[q34 ht h0 h1]
 have:=(qio hc).2;have h2:=quv ht h0;refine ⟨hc,?_⟩;have:((symV (szV t m)).1.length:Int)=lenS (szO t m):=this;omega
theorem q0f:Held Tryz.prog G0 26 ctInG:=by
 have h:=inp_held.frz (λ x _=>by
  show inL 0 (inpL x.1 x.2.1.toNat).length [SV.win true uB 0 0 (inpL x.1 x.2.1.toNat).length]/\True
  exact ⟨⟨λ _=>by omega,trivial⟩,trivial⟩)
 refine h.iff rfl (λ x h=>h) (λ x _=>?_) (λ x _=>rfl)
 show [SV.sl uB (inpL x.1 x.2.1.toNat)]=[SV.sl uB (winL uB 0 (inpL x.1 x.2.1.toNat).length (inpL x.1 x.2.1.toNat))]
 rw[winA (e:=uB)]
theorem q1b:Held Tryz.prog G0 27 ctApF:=by
 have h:=ap_held.frz (λ x _=>by
  show inL 0 (apV x.1 x.2.1).1.length [SV.win true uB 0 0 (apV x.1 x.2.1).1.length,SV.i (apV x.1 x.2.1).2]/\True
  exact ⟨⟨λ _=>by omega,⟨trivial,trivial⟩⟩,trivial⟩)
 refine h.iff rfl (λ x h=>h) (λ x _=>?_) (λ x _=>rfl)
 show [SV.sl uB (apV x.1 x.2.1).1,SV.i (apV x.1 x.2.1).2]=[SV.sl uB (winL uB 0 (apV x.1 x.2.1).1.length (apV x.1 x.2.1).1),SV.i (apV x.1 x.2.1).2]
 rw[winA (e:=uB)]
theorem qy7 (p:PaT):smB p p=true:=by
 have:∀ l:List OpT,smL l l=true:=by
  intro l
  induction l with
  | nil=>rfl
  | cons x l ih=>rw[smL,ih,Bool.and_true];unfold soB;simp
 unfold smB;simp[this]
theorem q01 {p:PaT} (h:(chkV p).2=0):(∀ y∈p.2.2.2,k14 y)/\List.length p.2.2.2<1099511627776:=by
 have ck:=qex h;exact ⟨qs2 ck.1,by have:=ck.2.2.2;omega⟩
def ctSecF:Ctr:=⟨[paS,iI],λ _=>True,λ x=>[.sl paS (secV x.1 x.2.1).1,.i (secV x.1 x.2.1).2],λ _=>[]⟩
def CSc:CV:=[(24,.inl ctSn12),(10,.inl ctM6),(26,.inl ctInG),(27,.inl ctApF),(32,.inl ctSecF),(30,.inl ctR2),(33,.inl ctJn),(29,.inl ctFo),(20,.inl ctSm)]
set_option maxRecDepth 100000
theorem vc_sc (x:Int × List (List Int)) (b:List Int) (n:Int) (Q:List SV->Prop) (R:List Item->PS->Prop):sA CSc Tryz.f5 (λ rs _=>Q rs) (λ it S=>R it (qbt [6,7,8,9,10,11,13,15,16] [8,64] S)) [.code (qae Tryz.f5)] (entry [raS,.sl uB,uB] (x,b,n,())) =
  (ctSn12.pre ()/\ctM6.pre ((x.1,x.2),())/\(12:Int)≠0/\ctInG.pre (b,(szV x.2 (x.1 % (13:Int))).2.1,())/\ctApF.pre (inpL b (szV x.2 (x.1 % (13:Int))).2.1.toNat,(szV x.2 (x.1 % (13:Int))),())/\ctSecF.pre ((szV x.2 (x.1 % (13:Int))),i64.wrap ((1:Int)+(i64.wrap n).tmod (12:Int)),())/\bc (decide ((apV (inpL b (szV x.2 (x.1 % (13:Int))).2.1.toNat) (szV x.2 (x.1 % (13:Int)))).2≠0)) (true=true/\true=true/\Q [.bool false]) (bc (bif false then true else decide ((secV (szV x.2 (x.1 % (13:Int))) (i64.wrap ((1:Int)+(i64.wrap n).tmod (12:Int)))).2≠0)) (true=true/\Q [.bool false]) (i64.wrap ((1:Int)+(i64.wrap n).tmod (12:Int))≠0/\bc (bif false then true else decide ((↑(secV (szV x.2 (x.1 % (13:Int))) (i64.wrap ((1:Int)+(i64.wrap n).tmod (12:Int)))).1.length:Int)≠i64.wrap ((i64.wrap (i64.wrap ((szV x.2 (x.1 % (13:Int))).2.2.1+i64.wrap ((1:Int)+(i64.wrap n).tmod (12:Int)))-1)).tdiv (i64.wrap ((1:Int)+(i64.wrap n).tmod (12:Int)))))) (Q [.bool false]) (R (hd Tryz.f5 0) { env:=[(6,.bool false),(7,.bool true),(8,.ptr 8 0),(9,.i (i64.wrap ((1:Int)+(i64.wrap n).tmod (12:Int)))),(10,.sl uB (inpL b (szV x.2 (x.1 % (13:Int))).2.1.toNat)),(11,.sl uB (apV (inpL b (szV x.2 (x.1 % (13:Int))).2.1.toNat) (szV x.2 (x.1 % (13:Int)))).1),(13,.sl paS (secV (szV x.2 (x.1 % (13:Int))) (i64.wrap ((1:Int)+(i64.wrap n).tmod (12:Int)))).1),(15,.win true uB 64 0 (0:Nat)),(16,.i 0)],blk:=[(8,.var [.bool (szV x.2 (x.1 % (13:Int))).1,.i (szV x.2 (x.1 % (13:Int))).2.1,.i (szV x.2 (x.1 % (13:Int))).2.2.1,.sl opS (szV x.2 (x.1 % (13:Int))).2.2.2]),(64,.row 5 uB (List.replicate (0:Nat) uB.dflt))] })))):=by kernel_rfl
theorem q1s (p:PaT) (l:List PaT) (old all o:List Int) (n:Int) (i:Nat) (Q:List SV->Prop) (R:List Item->PS->Prop):sA CSc Tryz.f5 (λ rs _=>Q rs) (λ it S=>R it (qbt [6,7,8,9,10,11,13,15,16] [8,77,108] S)) (hd Tryz.f5 0) ⟨[(6,.bool false),(7,.bool true),(8,.ptr 8 0),(9,.i n),(10,.sl uB old),(11,.sl uB all),(13,.sl paS l),(15,.win true uB 77 0 o.length),(16,.i (i:Nat))],[(8,.var [.bool p.1,.i p.2.1,.i p.2.2.1,.sl opS p.2.2.2]),(77,.row 5 uB o)]⟩ =
  (bc (decide ((i:Int)<(l.length:Int))) ((0:Int)<=(i:Int)/\(i:Int)<(l.length:Int)/\ctApF.pre (old,(gtP l (i:Int).toNat),())/\bc (decide ((apV old (gtP l (i:Int).toNat)).2≠0)) (true=true/\true=true/\true=true/\Q [.bool false]) (bc (decide ((↑(apV old (gtP l (i:Int).toNat)).1.length:Int)≠n)) (bc (bif false then true else bif true then decide ((i:Int)<i64.wrap ((l.length:Int)-1)) else false) (true=true/\true=true/\Q [.bool false]) (bc (bif false then true else decide (n<(↑(apV old (gtP l (i:Int).toNat)).1.length:Int))) (true=true/\Q [.bool false]) (bc (bif false then true else decide ((↑(apV old (gtP l (i:Int).toNat)).1.length:Int)=(0:Int))) (Q [.bool false]) (o.length=o.length/\(0:Nat)=(0:Nat)/\o.length+(apV old (gtP l (i:Int).toNat)).1.length<2 ^ 30/\(1:Nat)<=2 ^ 10/\R (hd Tryz.f5 0) { env:=[(6,.bool false),(7,.bool true),(8,.ptr 8 0),(9,.i n),(10,.sl uB old),(11,.sl uB all),(13,.sl paS l),(15,.win true uB 108 0 (o.length+(apV old (gtP l (i:Int).toNat)).1.length)),(16,.i (i64.wrap ((i:Int)+1)))],blk:=[(8,.var [.bool p.1,.i p.2.1,.i p.2.2.1,.sl opS p.2.2.2]),(108,.row 5 uB (o++(apV old (gtP l (i:Int).toNat)).1))] })))) (false=false/\bc (bif false then true else decide (n<(↑(apV old (gtP l (i:Int).toNat)).1.length:Int))) (true=true/\Q [.bool false]) (bc (bif false then true else decide ((↑(apV old (gtP l (i:Int).toNat)).1.length:Int)=(0:Int))) (Q [.bool false]) (o.length=o.length/\(0:Nat)=(0:Nat)/\o.length+(apV old (gtP l (i:Int).toNat)).1.length<2 ^ 30/\(1:Nat)<=2 ^ 10/\R (hd Tryz.f5 0) { env:=[(6,.bool false),(7,.bool true),(8,.ptr 8 0),(9,.i n),(10,.sl uB old),(11,.sl uB all),(13,.sl paS l),(15,.win true uB 108 0 (o.length+(apV old (gtP l (i:Int).toNat)).1.length)),(16,.i (i64.wrap ((i:Int)+1)))],blk:=[(8,.var [.bool p.1,.i p.2.1,.i p.2.2.1,.sl opS p.2.2.2]),(108,.row 5 uB (o++(apV old (gtP l (i:Int).toNat)).1))] }))))) (0+o.length<=o.length/\ctR2.pre (winL uB 0 o.length o,all,())/\bc (!decide ((have this:=winL uB 0 o.length o;this)=all)) (Q [.bool false]) (bc (decide ((l.length:Int)=(0:Int))) (Q [.bool true]) (ctJn.pre (l,())/\ctFo.pre (p,())/\bc (decide ((jnV l).2=(0:Int))) (bc (decide ((foV p).2=(0:Int))) (ctSm.pre (((jnV l).1),((foV p).1),())/\bc (bif true then smB ((jnV l).1) ((foV p).1) else false) (Q [.bool true]) (false=false/\Q [.bool false])) (false=false/\false=false/\Q [.bool false])) (false=false/\false=false/\false=false/\Q [.bool false]))))):=by kernel_rfl
def pcP (m:Int) (q:List SyT):PaT:=(false,m,(q.length:Int),chL q)
theorem qxr:∀ (l:List (PaT × Int)) (o:List PaT),(∀ x∈l,x.2=0)->colF l o=(o++l.map Prod.fst,0)
 | [],o,_=>by rw[colF,List.map_nil,List.append_nil]
 | x::l,o,h=>by
  rw[colF,decide_eq_false (by rw[h x (List.mem_cons_self ..)];simp)]
  show colF l (o++[x.1])=_
  rw[qxr l _ λ y hy=>h y (List.mem_cons_of_mem _ hy),List.map_cons,List.append_assoc];rfl
theorem q9d {s:List SyT} {m:Int} (hs:∀ x∈s,sOK m x=true) (h0:0<=m) (h1:m<=65536) {L:List (List SyT)} (hL:∀ q∈L,(∀ x∈q,x∈s)/\q.length<=4096):colF (L.map (cpV · m)) []=(L.map (pcP m),0):=by
 have e:∀ q∈L,cpV q m=(pcP m q,0):=λ q hq=>q2y (λ x hx=>hs x ((hL q hq).1 x hx)) h0 h1 (hL q hq).2
 rw[qxr]
 ·rw[List.nil_append,List.map_map]
  congr 1
  exact List.map_congr_left λ q hq=>by rw[Function.comp,e q hq]
 ·intro x hx;obtain ⟨q,hq,rfl⟩:=List.mem_map.1 hx
  show (cpV q m).2=0
  rw[e q hq]
theorem q8l {q:List SyT} {m:Int} (hs:∀ x∈q,sOK m x=true) (h0:0<=m) (h1:m<=65536) (hl:q.length<=4096):(chkV (pcP m q)).2=0/\symV (pcP m q)=(q,0):=by
 have:=q8s false hs h0 h1 hl;exact ⟨this.1,this.2.2⟩
theorem q6a {s:List SyT} {a b:Int}:∀ x∈cutS s a b,x∈s:=λ x hx=>List.mem_of_mem_take (List.mem_of_mem_drop hx)
theorem q6b {s:List SyT} {a b:Int} (h0:0<=a) (h:a<=b) (h2:b<=s.length):((cutS s a b).length:Int)=b-a:=by
 show ((((s.take b.toNat).drop a.toNat).length:Nat):Int)=_
 rw[List.length_drop,List.length_take];omega
theorem qpa {s:List SyT} {n:Nat}:∀ (f i:Nat),∀ q∈qa4 s n f i,∀ x∈q,x∈s
 | 0,_,q,h=>by cases h
 | f+1,i,q,h=>by
  rw[qa4] at h;split at h
  ·rcases List.mem_cons.1 h with rfl | h
   ·exact q6a
   ·exact qpa f (i+n) q h
  ·cases h
theorem qse {s:List SyT} {n:Nat}:∀ (f i:Nat),∀ q∈qa4 s n f i,q.length<=s.length
 | 0,_,q,h=>by cases h
 | f+1,i,q,h=>by
  rw[qa4] at h;split at h
  ·rcases List.mem_cons.1 h with rfl | h
   ·show ((s.take _).drop _).length<=_
    rw[List.length_drop,List.length_take];omega
   ·exact qse f (i+n) q h
  ·cases h
theorem qmi {s:List SyT} {n:Nat} (hn:1<=n):∀ (f i:Nat),s.length<=i+f->(qa4 s n f i).flatten=s.drop i
 | 0,i,h=>by rw[qa4,List.flatten_nil,List.drop_eq_nil_of_le (by omega)]
 | f+1,i,h=>by
  rw[qa4];split
  next hi=>
   rw[List.flatten_cons,qmi hn f (i+n) (by omega)]
   show (s.take (Int.toNat ((i+min n (s.length-i):Nat):Int))).drop (Int.toNat ((i:Nat):Int))++_=_
   rw[Int.toNat_natCast,Int.toNat_natCast];rcases Nat.lt_or_ge (s.length-i) n with h1 | h1
   ·rw[show i+min n (s.length-i)=s.length by omega,List.take_length,List.drop_eq_nil_of_le (show s.length<=i+n by omega),List.append_nil]
   ·rw[show i+min n (s.length-i)=i+n by omega,<- List.drop_drop];have:=List.take_append_drop n (s.drop i);rw[List.take_drop] at this;exact this
  next hi=>rw[List.flatten_nil,List.drop_eq_nil_of_le (by omega)]
theorem qns {s:List SyT} {n:Nat} (hn:1<=n):∀ (f i j:Nat) (h:j<(qa4 s n f i).length),((qa4 s n f i)[j]).length=min n (s.length-(i+j*n))/\i+j*n<s.length
 | 0,_,_,h=>by cases h
 | f+1,i,j,h=>by
  rcases Nat.lt_or_ge i s.length with hi | hi
  ·have e:qa4 s n (f+1) i=cutS s (i:Nat) ((i+min n (s.length-i):Nat):Int)::qa4 s n f (i+n):=by rw[qa4,if_pos hi]
   cases j with
   | zero=>
    simp only[e,List.getElem_cons_zero];have:=q6b (s:=s) (a:=(i:Nat)) (b:=((i+min n (s.length-i):Nat):Int)) (by omega) (by omega) (by omega);omega
   | succ j=>
    simp only[e,List.getElem_cons_succ];have h':j<(qa4 s n f (i+n)).length:=by rw[e,List.length_cons] at h;omega
    have:=qns hn f (i+n) j h';rw[Nat.succ_mul,show i+(j*n+n)=i+n+j*n by omega];exact this
  ·have e:qa4 s n (f+1) i=[]:=by rw[qa4,if_neg (by omega)]
   rw[e] at h;cases h
theorem qpc {s:List SyT} {n:Nat} (hn:1<=n):∀ (f i:Nat),s.length<=i+f->s.length<=i+(qa4 s n f i).length*n/\((qa4 s n f i).length=0\/i+((qa4 s n f i).length-1)*n<s.length)
 | 0,i,h=>by
  have:(qa4 s n 0 i).length=0:=rfl;rw[this];omega
 | f+1,i,h=>by
  rcases Nat.lt_or_ge i s.length with hi | hi
  ·have e:qa4 s n (f+1) i=cutS s (i:Nat) ((i+min n (s.length-i):Nat):Int)::qa4 s n f (i+n):=by rw[qa4,if_pos hi]
   obtain ⟨a,b⟩:=qpc (s:=s) hn f (i+n) (by omega);rw[e,List.length_cons,Nat.succ_mul,Nat.add_sub_cancel];generalize (qa4 s n f (i+n)).length=k at *;refine ⟨by omega,.inr ?_⟩;rcases b with b | b
   ·rw[b];omega
   ·cases k with
    | zero=>omega
    | succ k=>rw[Nat.add_sub_cancel] at b;rw[Nat.succ_mul];omega
  ·have e:qa4 s n (f+1) i=[]:=by rw[qa4,if_neg (by omega)]
   rw[e];exact ⟨by show _<=i+0*n;omega,.inl rfl⟩
theorem qx0 {m:Int} (h0:0<=m) (h1:m<=65536):∀ {L:List (List SyT)},(∀ q∈L,(∀ x∈q,sOK m x=true)/\q.length<=4096)->ayaF (L.map (pcP m))=L.flatten
 | [],_=>rfl
 | q::L,h=>by
  have hq:=h q (List.mem_cons_self ..)
  show (symV (pcP m q)).1++ayaF (L.map (pcP m))=_
  rw[(q8l hq.1 h0 h1 hq.2).2,qx0 h0 h1 λ q hq=>h q (List.mem_cons_of_mem _ hq),List.flatten_cons]
theorem q4m {p:PaT} {n:Int} (h:(chkV p).2=0) (hl:p.1=false) (hm:0<=p.2.1/\p.2.1<=65536) (h4:(symV p).1.length<=4096) (h1:1<=n) (h2:n<=4096) :
  secV p n=((qa9 (symV p).1 n).map (pcP p.2.1),0)/\okJ ((qa9 (symV p).1 n).map (pcP p.2.1)) p.2.1/\ayaF ((qa9 (symV p).1 n).map (pcP p.2.1))=(symV p).1:=by
 have hs:=qio h;have hr:=(qc7 hs.1).1;have hL:∀ q∈qa9 (symV p).1 n,(∀ x∈q,x∈(symV p).1)/\q.length<=4096:=λ q hq=>⟨qpa _ _ q hq,Nat.le_trans (qse _ _ q hq) h4⟩
 have hR:∀ q∈qa9 (symV p).1 n,(∀ x∈q,sOK p.2.1 x=true)/\q.length<=4096:=λ q hq=>⟨λ x hx=>hr x ((hL q hq).1 x hx),(hL q hq).2⟩
 have ea:ayaF ((qa9 (symV p).1 n).map (pcP p.2.1))=(symV p).1:=by
  rw[qx0 hm.1 hm.2 hR];unfold qa9;rw[qmi (by omega) _ _ (by omega),List.drop_zero]
 refine ⟨?_,⟨hm,λ q hq=>?_,by rw[ea];exact h4⟩,ea⟩
 ·unfold secV;rw[q4t hs.1 hl,decide_eq_false (by simp),decide_eq_true ⟨h1,h2⟩];exact q9d hr hm.1 hm.2 hL
 ·obtain ⟨q0,hq0,rfl⟩:=List.mem_map.1 hq;exact ⟨(q8l (hR q0 hq0).1 hm.1 hm.2 (hR q0 hq0).2).1,rfl,rfl⟩
theorem qva:Held Tryz.prog G0 32 ctSecF:=by
 have h:=sec_held.frz (λ x _=>by
  show inL 0 (secV x.1 x.2.1).1.length [SV.win true paS 0 0 (secV x.1 x.2.1).1.length,SV.i (secV x.1 x.2.1).2]/\True
  exact ⟨⟨λ _=>by omega,⟨trivial,trivial⟩⟩,trivial⟩)
 refine h.iff rfl (λ x h=>h) (λ x _=>?_) (λ x _=>rfl)
 show [SV.sl paS (secV x.1 x.2.1).1,SV.i (secV x.1 x.2.1).2]=[SV.sl paS (winL paS 0 (secV x.1 x.2.1).1.length (secV x.1 x.2.1).1),SV.i (secV x.1 x.2.1).2]
 rw[winA (e:=paS)]
theorem cxSc:CxOK Tryz.prog tt G0 CSc:=((((((((cx0.k qpq (fn:=Tryz.f20)).k q55 (fn:=Tryz.f29)).k qwy (fn:=Tryz.f33)).k q4r (fn:=Tryz.f30)).k qva (fn:=Tryz.f32)).k q1b (fn:=Tryz.f27)).k q0f (fn:=Tryz.f26)).k qth (fn:=Tryz.f10)).k qu5 (fn:=Tryz.f24)
abbrev GDsc (it:List Item) (S:PS):Prop:=GD 5 Tryz.f5 (λ rs _=>rs=[.bool true]) it S
theorem q4o {p:PaT} {m:Int} {n:Nat} {old:List Int} {s:List SyT} {L:List PaT} (hp:(chkV p).2=0) (hl:p.1=false) (hm:p.2.1=m/\0<=m/\m<=65536) (h4:s.length<=4096) (hs:s=(symV p).1) (hn:1<=n/\n<=12) (ho:(old.length:Int)=m) (hL:L=(qa4 s n s.length 0).map (pcP m)) (hok:okJ L m) (ha:ayaF L=s) :
  ∀ (j i:Nat) (o:List Int),L.length-i=j->i<=L.length->o=(ayaF (L.take i)).map (ruB old) ->
  GDsc (hd Tryz.f5 0) ⟨[(6,.bool false),(7,.bool true),(8,.ptr 8 0),(9,.i (n:Nat)),(10,.sl uB old),(11,.sl uB (s.map (ruB old))),(13,.sl paS L),(15,.win true uB 77 0 o.length),(16,.i (i:Nat))],[(8,.var [.bool p.1,.i p.2.1,.i p.2.2.1,.sl opS p.2.2.2]),(77,.row 5 uB o)]⟩:=by
 have hsl:=qio hp;have hk:L.length<=s.length:=by rw[hL,List.length_map];exact qhx _ _
 intro j
 induction j with
 | zero=>
  intro i o hj hi he;have hi:i=L.length:=by omega
  subst hi;rw[List.take_length,ha] at he;subst he;have hlen:(s.map (ruB old)).length<1099511627776:=by rw[List.length_map];omega
  refine qat cxSc (q1s p L old (s.map (ruB old)) (s.map (ruB old)) (n:Nat) L.length _ _) ?_;rw[decide_eq_false (show ¬ ((L.length:Nat):Int)<(L.length:Int) by omega),bc_f,winA];simp only[eq_self,decide_true,Bool.not_true,bc_f];refine ⟨by omega,hlen,qag (λ h=>?_) (λ h=>?_)⟩
  ·have h0:(L.length:Int)=0:=of_decide_eq_true h;trivial
  ·have h0:¬ (L.length:Int)=0:=of_decide_eq_false h;have e1:=q8u (l:=L) (by omega) hok;have e2:=(fo_ok hp (by have:=hsl.2;rw[<- hs] at this;omega)).1;have e3:(symF p.2.2.2)=s:=by rw[hs];exact (qpp hsl.1).2.symm
   have e4:p.2.2.1=(s.length:Int):=by rw[hs];exact hsl.2.symm
   rw[e3,hl,hm.1,e4] at e2;rw[ha] at e1;have kb:=jn_ok hok;rw[ha] at kb;have q5:(chL s).length<1099511627776:=(q01 kb.1).2;refine ⟨by show L.length<1000000;omega,trivial,?_⟩;simp only[e1,e2,decide_true,bc_t,qy7,cond_true];exact ⟨q5,trivial⟩
 | succ j ih=>
  intro i o hj hi he;have hil:i<L.length:=by omega
  have hic:i<(qa4 s n s.length 0).length:=by rw[hL,List.length_map] at hil;exact hil
  have eg:gtP L i=pcP m ((qa4 s n s.length 0)[i]):=by
   subst hL;rw[qfm hil,List.getElem_map]
  have hat:=qns hn.1 s.length 0 i hic;have hmem:gtP L i∈L:=by rw[qfm hil];exact List.getElem_mem hil
  have hq:=hok.2.1 _ hmem;have ea:=q25 (old:=old) hq.1 (by rw[ho,hq.2.2]);have hsy:((symV (gtP L i)).1.length:Int)=((qa4 s n s.length 0)[i].length:Int):=by
   rw[(qio hq.1).2,eg];rfl
  have hml:((symV (gtP L i)).1.map (ruB old)).length=(symV (gtP L i)).1.length:=List.length_map ..;have hA:=qqq (l:=L) (i+1);rw[qeb hil,List.length_append] at hA;rw[ha] at hA;have hol:o.length=(ayaF (L.take i)).length:=by rw[he,List.length_map]
  have nx:=ih (i+1) (o++(symV (gtP L i)).1.map (ruB old)) (by omega) (by omega) (by rw[he,qeb hil,List.map_append]);have fin:GDsc (hd Tryz.f5 0) ⟨[(6,.bool false),(7,.bool true),(8,.ptr 8 0),(9,.i (n:Nat)),(10,.sl uB old),(11,.sl uB (s.map (ruB old))),(13,.sl paS L),(15,.win true uB 108 0 (o.length+((symV (gtP L i)).1.map (ruB old)).length)),(16,.i ((i:Int)+1))],[(8,.var [.bool p.1,.i p.2.1,.i p.2.2.1,.sl opS p.2.2.2]),(108,.row 5 uB (o++(symV (gtP L i)).1.map (ruB old)))]⟩:=by
   refine nx.onlyR [(77,108)] rfl ⟨rfl,rfl,rfl,rfl,rfl,rfl,rfl,?_,rfl,trivial⟩ ⟨rfl,rfl,trivial⟩;rw[List.length_append];rfl
  have h30:o.length+((symV (gtP L i)).1.map (ruB old)).length<2 ^ 30:=by omega
  rw[Nat.zero_add] at hat;refine qat cxSc (q1s p L old (s.map (ruB old)) o (n:Nat) i _ _) ?_;rw[decide_eq_true (show (i:Int)<(L.length:Int) by omega),bc_t,IntWalk.i64_in ((i:Int)+1) (by omega),IntWalk.i64_in ((L.length:Int)-1) (by omega)];simp only[Int.toNat_natCast,ea,ne_eq,not_true_eq_false,decide_false,bc_f,cond_true,cond_false];refine ⟨by omega,by omega,hq.2.1,qag (λ h=>qag (λ h2=>?_) (λ h2=>qag (λ h3=>?_) (λ h3=>qag (λ h5=>?_) (λ h5=>?_)))) (λ h=>⟨trivial,qag (λ h3=>?_) (λ h3=>qag (λ h5=>?_) (λ h5=>?_))⟩)⟩
  ·exfalso;have h:=of_decide_eq_true h;have h2:=of_decide_eq_true h2;have h1:i+1<(qa4 s n s.length 0).length:=by rw[hL,List.length_map] at h2;omega
   have:=(qns hn.1 s.length 0 (i+1) h1).2;rw[Nat.zero_add,Nat.succ_mul] at this;omega
  ·exfalso;have h3:=of_decide_eq_true h3;omega
  ·exfalso;have h5:=of_decide_eq_true h5;omega
  ·exact ⟨trivial,trivial,h30,by omega,fin⟩
  ·exfalso;have h3:=of_decide_eq_true h3;omega
  ·exfalso;have h5:=of_decide_eq_true h5;omega
  ·exact ⟨trivial,trivial,h30,by omega,fin⟩
abbrev RmT:Type:=Int × List (List Int)
def preSc (x:RmT) (n:Int):Prop:=qvw x.1 x.2/\(0<=n/\n<256)
def ctSc:Ctr:=⟨[raS,.sl uB,uB],λ x=>preSc x.1 x.2.2.1,λ _=>[.bool true],λ _=>[]⟩
theorem q8e (x:RmT) (b:List Int) (n:Int) (hx:qvw x.1 x.2) (hn:0<=n/\n<256):GDsc [.code (qae Tryz.f5)] (entry [raS,.sl uB,uB] (x,b,n,())):=by
 obtain ⟨hz,ht,hlen⟩:=hx;have hm:0<=x.1 % 13/\x.1 % 13<=12:=by omega
 obtain ⟨hp,h30⟩:=sz_ok (t:=x.2) (m:=x.1 % 13) ht hm.1 (by omega);have hpm:(szV x.2 (x.1 % 13)).2.1=x.1 % 13:=rfl;have hp1:(szV x.2 (x.1 % 13)).1=false:=rfl;refine qat cxSc (vc_sc x b n _ _) ?_;have ew:IntKind.i64.wrap ((1:Int)+(IntKind.i64.wrap n).tmod (12:Int))=((1+n.toNat % 12:Nat):Int):=by
  rw[IntWalk.i64_in n (by omega),Int.tmod_eq_emod_of_nonneg (by omega),IntWalk.i64_in _ (by omega)];omega
 rw[ew,hpm];obtain ⟨N,hN⟩:∃ N,N=1+n.toNat % 12:=⟨_,rfl⟩;have hN1:1<=N/\N<=12:=by omega
 rw[<- hN];generalize szV x.2 (x.1 % 13)=p at *;have hsl:=qio hp;obtain ⟨v1,v2,v3⟩:=q4m (p:=p) (n:=(N:Nat)) hp hp1 (by omega) (by omega) (by omega) (by omega);have hin:(inpL b (x.1 % 13).toNat).length=(x.1 % 13).toNat:=qr0 _ _;have ea:=q25 (old:=inpL b (x.1 % 13).toNat) hp (by omega);rw[v1,ea];rw[hpm] at v2 v3 |-;have ek:(qa9 (symV p).1 (N:Nat))=qa4 (symV p).1 N (symV p).1.length 0:=by unfold qa9;rw[Int.toNat_natCast]
 rw[ek] at v2 v3 |-;have hc:=qpc (s:=(symV p).1) hN1.1 (symV p).1.length 0 (by omega);have hdiv:IntKind.i64.wrap ((IntKind.i64.wrap (IntKind.i64.wrap (p.2.2.1+((N:Nat):Int))-(1:Int))).tdiv ((N:Nat):Int))=(((qa4 (symV p).1 N (symV p).1.length 0).length:Nat):Int):=by
  rw[IntWalk.i64_in (p.2.2.1+(N:Int)) (by omega),IntWalk.i64_in (p.2.2.1+(N:Int)-1) (by omega)];have e1:p.2.2.1+(N:Int)-1=(((symV p).1.length+N-1:Nat):Int):=by omega
  have e2:((symV p).1.length+N-1) / N=(qa4 (symV p).1 N (symV p).1.length 0).length:=by
   refine Nat.div_eq_of_lt_le ?_ ?_
   ·rcases hc.2 with h | h
    ·rw[h,Nat.zero_mul];exact Nat.zero_le _
    ·cases hk:(qa4 (symV p).1 N (symV p).1.length 0).length with
     | zero=>rw[Nat.zero_mul];exact Nat.zero_le _
     | succ k=>rw[hk,Nat.add_sub_cancel] at h;rw[Nat.succ_mul];omega
   ·rw[Nat.succ_mul];omega
  rw[e1,Int.tdiv_eq_ediv_of_nonneg (by omega),<- Int.natCast_ediv,e2];have hk:=qhx (s:=(symV p).1) (n:=N) (symV p).1.length 0;exact IntWalk.i64_in _ (by omega)
 rw[hdiv];simp only[ne_eq,not_true_eq_false,decide_false,cond_false,bc_f,List.length_map];have pI:preI (x.1 % 13):=⟨by omega,by omega⟩;refine ⟨trivial,⟨hz,ht,hlen⟩,by omega,pI,hp1,trivial,by omega,?_⟩;have g:=q4o (old:=inpL b (x.1 % 13).toNat) (n:=N) hp hp1 ⟨hpm,by omega,by omega⟩ (by omega) rfl hN1 (by omega) rfl v2 v3 _ 0 [] rfl (Nat.zero_le _) rfl;exact g.onlyR [(77,64)] rfl ⟨rfl,rfl,rfl,rfl,rfl,rfl,rfl,rfl,rfl,trivial⟩ ⟨by rw[hpm];rfl,rfl,trivial⟩
theorem q4p:Held Tryz.prog G0 5 ctSc:=Held.of cxSc (fn:=Tryz.f5) rfl rfl ⟨by decide,by decide⟩ λ ⟨x,b,n,_⟩ hp=>(q8e x b n hp.1 hp.2).post λ rs blk hq=>QC.flat (by rw[hq];rfl) rfl (by rw[hq];rfl)
abbrev u8L (b:List Int):Prop:=∀ j,0<=gtB b j/\gtB b j<256
theorem q32 {n:Int} (h:wfD uB n):0<=n/\n<256:=by
 have h:(Lit.int IntKind.u8 n).wf=true:=h;simp[Lit.wf,IntKind.min,IntKind.max,IntKind.signed,IntKind.bits] at h;omega
theorem q71 {l:List Int} (h:∀ x∈l,wfD uB x):u8L l:=λ j=>by
 by_cases hj:j<l.length
 ·rw[qox hj];exact q32 (h _ (List.getElem_mem hj))
 ·have:gtB l j=0:=by
   show gt uB _ _=_
   unfold gt;rw[List.getElem?_eq_none (by omega)];rfl
  rw[this];decide
theorem l4_of {l:List (List Int)} (h:∀ x∈l,wfD a4S x):qm3 l:=λ j=>by
 by_cases hj:j<l.length
 ·have e:gt a4S l j=l[j]:=gtE (e:=a4S) hj;rw[e];exact q71 (h _ (List.getElem_mem hj)).2
 ·have:gt a4S l j=List.replicate 4 (0:Int):=by
   unfold gt;rw[List.getElem?_eq_none (by omega)];rfl
  rw[this];exact q71 λ x hx=>by
   rw[List.eq_of_mem_replicate hx];rfl
theorem m6_of {x:Int × List (List Int)} (h:wfD raS x):qvw x.1 x.2:=⟨q32 h.1,l4_of h.2.2,h.2.1⟩
theorem qt3 {g:Nat} {x:ABlk} (h:rawG.get g=some x):(g=0/\x=.cells qhw 222 2)\/(g=1/\x=.cells qhq 230 2):=by
 unfold rawG T.get at h;split at h
 next e=>cases h;exact .inl ⟨e,rfl⟩
 next h0=>
  split at h
  next h1=>
   unfold T.get at h;split at h
   next h2=>cases h;exact .inr ⟨by omega,rfl⟩
   ·split at h <;> simp[T.get] at h
  ·simp[T.get] at h
theorem hG:Glob G0.raw:=⟨λ g x h=>by rcases qt3 h with ⟨rfl,_⟩ | ⟨rfl,_⟩ <;> decide,λ g x h=>by rcases qt3 h with ⟨_,rfl⟩ | ⟨_,rfl⟩ <;> decide⟩
abbrev H0:AHeap:=⟨qlj,G0.raw⟩
def Z0:Nat->Option ABlk:=λ g=>rawG.get g
theorem gz0:GZ Z0 G0:=by
 refine ⟨λ g x e=>?_,λ g x e=>e⟩;simp only[G0,lk] at e;split at e
 next h=>subst h;cases e;refine ⟨by decide,λ ν=>⟨0,0,qhw,222,2,rfl,rfl,by decide,?_⟩⟩;exact qvc (.arr 5 coS) costsL ⟨rfl,λ x _=>⟨trivial,trivial⟩⟩
 ·split at e
  next h=>subst h;cases e;refine ⟨by decide,λ ν=>⟨1,0,qhq,230,2,rfl,rfl,by decide,?_⟩⟩;exact qvc (.arr 9 kindSh) kindsL ⟨rfl,λ x _=>⟨trivial,trivial,trivial,trivial,trivial⟩⟩
  ·cases e
theorem fro0:Px.Fro G0 H0:=⟨λ i x h=>by rcases qt3 h with ⟨rfl,rfl⟩ | ⟨rfl,rfl⟩ <;> rfl,λ i x h=>by rcases qt3 h with ⟨rfl,rfl⟩ | ⟨rfl,rfl⟩ <;> trivial,λ i x h=>by rcases qt3 h with ⟨rfl,rfl⟩ | ⟨rfl,rfl⟩ <;> decide,gz0⟩
end Go.Proofs.YtdeacfammdjajaaGreatDoor
