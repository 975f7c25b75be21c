/-
  A part of the proof: what pieces of the program give; conditions: those of each theorem.
-/
import Derived.Test.YtdeacfammdjajaaGreatDoorQ3
import Derived.Test.YtdeacfammdjajaaGreatDoorHD
import Derived.Test.YtdeacfammdjajaaGreatDoorQ2
import Derived.Test.YtdeacfammdjajaaGreatDoorQ1
import Derived.KernelRfl
set_option linter.unusedVariables false
set_option linter.unusedSimpArgs false
namespace Go.Proofs.YtdeacfammdjajaaGreatDoor
open Go.Px Go.Ax
set_option maxRecDepth 100000
theorem qrt:Held Tryz.prog G0 66 ⟨[paS],λ _=>True,λ x=>[.sl syS (psV x.1).1,.i (psV x.1).2],λ _=>[]⟩:=by
 have h:=ps_held.frz (λ x _=>by
  show inL 0 (psV x.1).1.length [SV.win true syS 0 0 (psV x.1).1.length,SV.i (psV x.1).2]/\True
  exact ⟨⟨λ _=>by omega,⟨trivial,trivial⟩⟩,trivial⟩)
 refine h.iff rfl (λ x h=>h) (λ x _=>?_) (λ x _=>rfl)
 show [SV.sl syS (psV x.1).1,SV.i (psV x.1).2]=[SV.sl syS (winL syS 0 (psV x.1).1.length (psV x.1).1),SV.i (psV x.1).2]
 rw[winA (e:=syS)]
def ctPsf:Ctr:=⟨[paS],λ _=>True,λ x=>[.sl syS (psV x.1).1,.i (psV x.1).2],λ _=>[]⟩
def CSp:CV:=[(66,.inl ctPsf),(67,.inl (Im.ctVal True)),(70,.inr ctIns),(69,.inr ctPaS),(68,.inr ctCoS)]
theorem cxSp:CxOK Tryz.prog tt G0 CSp:=((((cx0.consI q1a (fn:=Tryz.f68) rfl rfl rfl).consI qzv (fn:=Tryz.f69) rfl rfl rfl).consI q0r (fn:=Tryz.f70) rfl rfl rfl).k Im.val_held (fn:=Tryz.f67)).k qrt (fn:=Tryz.f66)
def CSe:CV:=[(66,.inl ctPsf),(73,.inr ctCk),(69,.inr ctPaK),(68,.inr ctCoK)]
theorem cxSe:CxOK Tryz.prog tt G0 CSe:=(((cx0.consI q1b (fn:=Tryz.f68) rfl rfl rfl).consI qzw (fn:=Tryz.f69) rfl rfl rfl).consI q6y (fn:=Tryz.f73) rfl rfl rfl).k qrt (fn:=Tryz.f66)
abbrev KJ:List AK:=[.dat paS,.ptr [.dat (.sl paS)]]
abbrev fJ:AK:=.fn 106 [] [.ptr [.dat (.sl paS)]]
abbrev gtP (l:List PaT) (i:Nat):PaT:=gt paS l i
def othB (l:List PaT) (p:PaT):Bool:=p.1 != (gtP l 0).1
def ctOth:CtrI:=⟨KJ,λ x=>0<x.2.1.1.length,λ x=>[.bool (othB x.2.1.1 x.1)],λ x=>bkKL 0 KJ x⟩
abbrev slP:Sh:=.sl paS
def ixF (p:PaT->Bool):List PaT->Nat->Int
 | [],_ => -1
 | x::r,i=>match p x with
  | true=>(i:Int)
  | false=>ixF p r (i+1)
abbrev KO:List AK:=[.dat slP,fJ]
def q5b (l b:List PaT):Prop:=0<b.length/\l.length<1000000
def ctIfO:CtrI:=⟨KO,λ x=>q5b x.1 x.2.1.2.1.1,λ x=>[.i (ixF (othB x.2.1.2.1.1) x.1 0)],λ x=>bkKL 0 KO x⟩
set_option maxRecDepth 100000
theorem q7l (p:PaT) (l:List SecT) (Q:QT) (R:RT):sA CSp Tryz.f28 Q R [.code (qae Tryz.f28)] (entry [paS,.sl seS] (p,l,())) =
  (ctPsf.pre (p,())/\bc (decide ((psV p).2≠0)) (Q [.nils,.i (psV p).2] [(2,.var [.bool p.1,.i p.2.1,.i p.2.2.1,.sl opS p.2.2.2])]) ((Im.ctVal True).pre (l,p.2.2.1,())/\bc (!Im.validB l p.2.2.1) (Q [.nils,.i 120] [(2,.var [.bool p.1,.i p.2.1,.i p.2.2.1,.sl opS p.2.2.2])]) (ctIns.pre ((psV p).1,l,())/\ctPaS.pre (((),(l,()),((psV p).1,()),()),p.2.1,())/\ctCoS.pre (((),(((),(l,()),((psV p).1,()),()),()),(p.2.1,()),()),())/\Q [.win true paS 1110592 0 (colF (List.map (λ x=>cpV x p.2.1) (secF (psV p).1 l)) []).1.length,.i (colF (List.map (λ x=>cpV x p.2.1) (secF (psV p).1 l)) []).2] [(2,.var [.bool p.1,.i p.2.1,.i p.2.2.1,.sl opS p.2.2.2]),(1110592,.row 31 paS (colF (List.map (λ x=>cpV x p.2.1) (secF (psV p).1 l)) []).1)]))):=by kernel_rfl
theorem q7n (p:PaT) (n:Int) (Q:QT) (R:RT):sA CSe Tryz.f32 Q R [.code (qae Tryz.f32)] (entry [paS,iI] (p,n,())) =
  (ctPsf.pre (p,())/\bc (decide ((psV p).2≠0)) (Q [.nils,.i (psV p).2] [(2,.var [.bool p.1,.i p.2.1,.i p.2.2.1,.sl opS p.2.2.2])]) (bc (decide (n<1)) (true=true/\Q [.nils,.i 1] [(2,.var [.bool p.1,.i p.2.1,.i p.2.2.1,.sl opS p.2.2.2])]) (bc (bif false then true else decide ((4096:Int)<n)) (Q [.nils,.i 1] [(2,.var [.bool p.1,.i p.2.1,.i p.2.2.1,.sl opS p.2.2.2])]) (ctCk.pre ((psV p).1,n,())/\ctPaK.pre (((),((psV p).1,()),(n,()),()),p.2.1,())/\ctCoK.pre (((),(((),((psV p).1,()),(n,()),()),()),(p.2.1,()),()),())/\Q [.win true paS 1114688 0 (colF (List.map (λ x=>cpV x p.2.1) (qbz (psV p).1 n)) []).1.length,.i (colF (List.map (λ x=>cpV x p.2.1) (qbz (psV p).1 n)) []).2] [(2,.var [.bool p.1,.i p.2.1,.i p.2.2.1,.sl opS p.2.2.2]),(1114688,.row 31 paS (colF (List.map (λ x=>cpV x p.2.1) (qbz (psV p).1 n)) []).1)])))):=by kernel_rfl
theorem q7t (l:List PaT) (li:Bool) (m o:Int) (x:List OpT) (Q:QT) (R:RT):sA [] Tryz.f106 Q R [.code (qae Tryz.f106)] (qbe KJ ((li,m,o,x),(l,()),())) =
  ((0:Int)<=0/\(0:Int)<(l.length:Int)/\Q [.bool !li == (gtP l (0)).1] [(2,.var [.bool li,.i m,.i o,.sl opS x]),(1099511627776,.var [.sl paS l])]):=by kernel_rfl
theorem q75 (l b:List PaT) (Q:QT) (R:RT):sA [(106,.inr ctOth)] Tryz.f108 Q (λ it S=>R it (qby [0,1,7,8] [BIG] S)) [.code (qae Tryz.f108)] (qbe KO (l,((),((b,()),())),())) =
  (R (hd Tryz.f108 0) { env:=[(0,.sl paS l),(1,.fn (106:Nat) [] [.ptr 1099511627776 0]),(7,.i (l.length:Int)),(8,.i 0)],blk:=[(1099511627776,.var [.sl paS b])] }):=by kernel_rfl
theorem quw (l b:List PaT) (i:Nat) (Q:QT) (R:RT):sA [(106,.inr ctOth)] Tryz.f108 Q (λ it S=>R it (qby [0,1,7,8] [BIG] S)) (hd Tryz.f108 0) ⟨[(0,.sl paS l),(1,.fn 106 [] [.ptr BIG 0]),(7,.i (l.length:Nat)),(8,.i (i:Nat))],[(BIG,.var [.sl paS b])]⟩ =
  (bc (decide ((i:Int)<(l.length:Int))) ((0:Int)<=(i:Int)/\(i:Int)<(l.length:Int)/\ctOth.pre ((gtP l (i:Int).toNat),(b,()),())/\bc (othB b (gtP l (i:Int).toNat)) (Q [.i (i:Int)] [(1099511627776,.var [.sl paS b])]) (R (hd Tryz.f108 0) { env:=[(0,.sl paS l),(1,.fn (106:Nat) [] [.ptr 1099511627776 0]),(7,.i (l.length:Int)),(8,.i (IntKind.i64.wrap ((i:Int)+1)))],blk:=[(1099511627776,.var [.sl paS b])] })) (Q [.i (-1:Int)] [(1099511627776,.var [.sl paS b])])):=by kernel_rfl
theorem q8h (l b:List PaT) (Q:QT) (R:RT):sA [(108,.inr ctIfO)] Tryz.f83 Q R [.code (qae Tryz.f83)] (qbe KO (l,((),((b,()),())),())) =
  (ctIfO.pre (l,((),(b,()),()),())/\Q [.bool (decide ((0:Int)<=ixF (othB b) l (0:Nat)))] [(1099511627776,.var [.sl paS b])]):=by kernel_rfl
attribute [local irreducible] Go.Px.sy Go.Px.syE
abbrev gI3 (w:List Int) (i:Nat):Int:=gt (Sh.int .i32) w i
def preW (w:List Int):Prop:=∀ j,-2147483648<=gI3 w j/\gI3 w j<2147483648
section
variable (z:Int) (l4:List (List Int)) (w:List Int) (h6:qv7 z l4) (hw:preW w)
include h6 hw
end
theorem qv9 {s:List SyT} {m:Int} (hr:∀ x∈s,sOK m x=true) (h0:0<=m) (h1:m<=65536) (hl:s.length<=4096):poV s m=((false,m,(s.length:Int),chL s),0)/\symF (chL s)=s/\(∀ x∈chL s,isRB x m=true)/\qil (chL s)=cst s/\(chL s).length<=4096/\ (chkV (false,m,(s.length:Int),chL s)).2=0:=by
 obtain ⟨c1,c2,c3,c4⟩:=ch_ok (m:=m) (by omega) s.length s (Nat.le_refl _) (by omega) hr;have hb:=qmm s (by omega);unfold boL at hb;have hlen:(chL s).length<=4096:=by
  show (chF s.length s).length<=4096
  have:oct s=(bst s).2.2.2:=rfl;omega
 have hs:=qjl c2;rw[c1] at hs;refine ⟨?_,c1,c2,c3,hlen,?_⟩
 ·unfold poV;rw[if_neg (by omega)]
 ·have:=qx4 (li:=false) (o:=(s.length:Int)) h0 h1 (by omega) hlen c2 hs.symm;rw[this]
theorem q9t {s:List SyT} {m:Int} (hr:∀ x∈s,sOK m x=true) (h0:0<=m) (h1:m<=65536) (hl:s.length<=4096):cpV s m=((false,m,(s.length:Int),chL s),0):=by
 unfold cpV;rw[if_neg (q5s ⟨by simp[szB];omega,by simp[szB];omega,by rw[List.all_eq_true];exact hr⟩)];exact (qv9 hr h0 h1 hl).1
theorem q6u {s:List SyT} {m:Int} (hr:∀ x∈s,sOK m x=true) (h0:0<=m) (h1:m<=65536) (hl:s.length<=4096):qey 0 (chL s)=cst s:=by
 obtain ⟨_,_,c2,c3,c4,_⟩:=qv9 hr h0 h1 hl;rw[qjv c2 (Int.le_refl 0) (by omega),Int.zero_add,c3]
def opK (k:Int) (l:List SyT):OpT:=(k,if k=1\/k=2 then (gtY l 0).2.1 else 0,(l.length:Int),if k=3 then (gtY l 0).2.2 else 0,if k=2\/k=4 then l.map λ s=>s.2.2 else [])
set_option maxRecDepth 100000
section
variable (a b:Int) (l:List SyT) (hl:l.length<16777216)
include hl
end
def preLi (l:List SyT):Prop:=l.length<=65536/\∃ m:Int,m<16777216/\∀ s∈l,sOK m s=true
section
variable (l:List SyT) (hp:preLi l)
include hp
end
section
variable (li:Bool) (m o:Int) (l:List OpT) (hc:(chkV (li,m,o,l)).2=0)
include hc
end
theorem q6p {x:OpT} {m:Int} (h:isRB x m=true) (h0:0<=m) (hm:m<16777216) {k:Nat} (hk:(k:Int)<x.2.2.1):sOK m (elO x.1.toNat x k)=true:=by
 have pp:=qo4 h ⟨h0,hm⟩;rcases (qdh h).1 with e | e | e | e
 ·rw[e];have pp:=pp (.inl e)
  show sOK m (true,IntKind.i64.wrap (x.2.1+(k:Int)),0)=true
  rw[IntWalk.i64_in _ (by omega)];simp[sOK];omega
 ·rw[e];have pp:=pp (.inr e)
  show sOK m (true,IntKind.i64.wrap (x.2.1+(k:Int)),gtB x.2.2.2.2 k)=true
  rw[IntWalk.i64_in _ (by omega)];simp[sOK];omega
 ·rw[e];rfl
 ·rw[e];rfl
theorem q4p {m:Int} (h0:0<=m) (hm:m<16777216) {l:List OpT} (hr:∀ x∈l,isRB x m=true):∀ s∈symF l,sOK m s=true:=λ s hs=>by
 obtain ⟨x,hx,k,hk,e⟩:=qvd hr s hs;rw[e];exact q6p (hr x hx) h0 hm hk
theorem q63 {p:PaT} (h:(chkV p).2=0):0<=p.2.1/\p.2.1<=65536:=by
 unfold chkV at h;split at h
 next q=>exact q2n q.1
 ·cases h
theorem qpz {p:PaT} (h:(symV p).2=0):(chkV p).2=0/\(symV p).1=symF p.2.2.2:=by
 unfold symV at h |-;split at h
 next q=>rw[if_pos q];exact ⟨q,rfl⟩
 next q=>exact absurd h q
theorem qc7 {p:PaT} (h:(symV p).2=0):(∀ s∈(symV p).1,sOK p.2.1 s=true)/\(0<=p.2.1/\p.2.1<=65536)/\((symV p).1.length:Int)=p.2.2.1:=by
 obtain ⟨h1,h2⟩:=qpz h;obtain ⟨hr,hs,ho,hl⟩:=qe0 h1;have hi:=q63 h1;rw[h2];exact ⟨q4p hi.1 (by omega) hr,hi,by rw[qjl hr,hs]⟩
theorem q84 {e n:Int} {x:Im.Sec} (h:Im.plcB e n x=true):e<=x.2.1/\x.2.1<x.2.2.1/\x.2.2.1<=n:=by
 have h:=of_decide_eq_true h;exact ⟨h.1,h.2.1,h.2.2.1⟩
theorem qu6 {n:Int}:∀ (l d:List Im.Sec) (e:Int),0<=e->Im.valF n d e l=true->∀ x∈l,0<=x.2.1/\x.2.1<x.2.2.1/\x.2.2.1<=n
 | [],_,_,_,_,_,h=>by cases h
 | s::l,d,e,he,h,x,hx=>by
  rw[Im.valF,Bool.and_eq_true,Bool.and_eq_true] at h;have hp:=q84 h.1.2;rcases List.mem_cons.1 hx with rfl | hx
  ·exact ⟨by omega,hp.2⟩
  ·exact qu6 l _ _ (by omega) h.2 x hx
theorem qy1 {l:List Im.Sec} {n:Int} (h:Im.validB l n=true):l.length<=8/\∀ x∈l,0<=x.2.1/\x.2.1<x.2.2.1/\x.2.2.1<=n:=by
 unfold Im.validB at h;rw[Bool.and_eq_true] at h;exact ⟨of_decide_eq_true h.1,qu6 l [] 0 (Int.le_refl _) h.2⟩
theorem qv6 {p:PaT} (h:(psV p).2=0):(((psV p).1.length:Nat):Int)=p.2.2.1/\(psV p).1.length<=65536/\psV p=((symV p).1,0)/\(symV p).2=0/\p.1=false:=by
 by_cases h1:(symV p).2=0
 ·cases hl:p.1 with
  | true=>rw[q8z h1 hl] at h;cases h
  | false=>
   have e:=q80 h1 hl;obtain ⟨r1,r2,r3⟩:=qc7 h1;rw[e];have k1:(((symV p).1.length:Nat):Int)=p.2.2.1:=r3;refine ⟨k1,?_,rfl,h1,rfl⟩;have k3:=(qe0 (qpz h1).1).2.2.1
   show (symV p).1.length<=65536
   omega
 ·rw[q81 h1] at h;exact absurd h h1
def splV (p:PaT) (l:List SecT):List PaT × Int:=match decide ((psV p).2≠0) with
 | true=>([],(psV p).2)
 | false=>match Im.validB l p.2.2.1 with
  | false=>([],120)
  | true=>colF ((secF (psV p).1 l).map (cpV · p.2.1)) []
def ctSpl:Ctr:=⟨[paS,.sl seS],λ x=>∀ s∈(show List SecT from x.2.1),s.1.length<2 ^ 62,λ x=>[.win true paS 0 0 (splV x.1 x.2.1).1.length,.i (splV x.1 x.2.1).2],λ x=>[.row 31 paS (splV x.1 x.2.1).1]⟩
theorem q40 (p:PaT) (l:List SecT) (hl:∀ s∈l,s.1.length<2 ^ 62) (R:List Item->PS->Prop):sA CSp Tryz.f28 (QC ctSpl (p,l,())) R [.code (qae Tryz.f28)] (entry [paS,.sl seS] (p,l,())):=by
 refine (q7l p l _ _).mpr ⟨trivial,qag (λ h=>?_) (λ h=>⟨⟨trivial,hl⟩,qag (λ h2=>?_) (λ h2=>?_)⟩)⟩
 ·have e:splV p l=([],(psV p).2):=by unfold splV;rw[show decide ((psV p).2≠0)=true from h]
  refine qde (e:=paS) (et:=31) (z:=(psV p).2) ?_ ?_ rfl (by decide)
  ·show [_,_]=_;rw[e];rfl
  ·show [_]=_;rw[e]
 ·have h2:Im.validB l p.2.2.1=false:=by simpa using h2
  have e:splV p l=([],120):=by unfold splV;rw[show decide ((psV p).2≠0)=false from h,h2]
  refine qde (e:=paS) (et:=31) (z:=120) ?_ ?_ rfl (by decide)
  ·show [_,_]=_;rw[e];rfl
  ·show [_]=_;rw[e]
 ·have h2:Im.validB l p.2.2.1=true:=by simpa using h2
  have h0:(psV p).2=0:=by have:=of_decide_eq_false h;simpa using this
  obtain ⟨k1,k2,_⟩:=qv6 h0;obtain ⟨k3,k4⟩:=qy1 h2;have hs:qiu (psV p).1 l:=⟨by omega,by have:l.length<=8:=k3;omega,λ x hx=>by rw[k1];exact k4 x hx⟩;have e:splV p l=colF ((secF (psV p).1 l).map (cpV · p.2.1)) []:=by unfold splV;rw[show decide ((psV p).2≠0)=false from h,h2]
  refine ⟨trivial,trivial,hs,?_⟩;refine qgs (e:=paS) (et:=31) (a:=1110592) (z:=(colF ((secF (psV p).1 l).map (cpV · p.2.1)) []).2) (xs:=(colF ((secF (psV p).1 l).map (cpV · p.2.1)) []).1) ?_ ?_ rfl rfl rfl
  ·show [_,_]=_;rw[e]
  ·show [_]=_;rw[e]
theorem qze:Held Tryz.prog G0 28 ctSpl:=Held.run cxSp (fn:=Tryz.f28) rfl rfl ⟨by decide,by decide⟩ λ ⟨p,l,_⟩ hp=>q40 p l hp _
def secV (p:PaT) (n:Int):List PaT × Int:=match decide ((psV p).2≠0) with
 | true=>([],(psV p).2)
 | false=>match decide (1<=n/\n<=4096) with
  | false=>([],1)
  | true=>colF ((qbz (psV p).1 n).map (cpV · p.2.1)) []
def ctSec:Ctr:=⟨[paS,iI],λ _=>True,λ x=>[.win true paS 0 0 (secV x.1 x.2.1).1.length,.i (secV x.1 x.2.1).2],λ x=>[.row 31 paS (secV x.1 x.2.1).1]⟩
theorem q46 (p:PaT) (n:Int) (R:List Item->PS->Prop):sA CSe Tryz.f32 (QC ctSec (p,n,())) R [.code (qae Tryz.f32)] (entry [paS,iI] (p,n,())):=by
 have bad:decide ((psV p).2≠0)=false->¬ (1<=n/\n<=4096)->secV p n=([],1):=λ h h2=>by unfold secV;rw[h,decide_eq_false h2]
 refine (q7n p n _ _).mpr ⟨trivial,qag (λ h=>?_) (λ h=>qag (λ h2=>⟨rfl,?_⟩) (λ h2=>qag (λ h3=>?_) (λ h3=>?_)))⟩
 ·have e:secV p n=([],(psV p).2):=by unfold secV;rw[show decide ((psV p).2≠0)=true from h]
  refine qde (e:=paS) (et:=31) (z:=(psV p).2) ?_ ?_ rfl (by decide)
  ·show [_,_]=_;rw[e];rfl
  ·show [_]=_;rw[e]
 ·have h2:n<1:=of_decide_eq_true h2;have e:=bad h (by omega);refine qde (e:=paS) (et:=31) (z:=1) ?_ ?_ rfl (by decide)
  ·show [_,_]=_;rw[e];rfl
  ·show [_]=_;rw[e]
 ·have h3:4096<n:=of_decide_eq_true h3;have e:=bad h (by omega);refine qde (e:=paS) (et:=31) (z:=1) ?_ ?_ rfl (by decide)
  ·show [_,_]=_;rw[e];rfl
  ·show [_]=_;rw[e]
 ·have h2:¬ n<1:=of_decide_eq_false h2;have h3:¬ 4096<n:=of_decide_eq_false h3;have h0:(psV p).2=0:=by have:=of_decide_eq_false h;simpa using this
  obtain ⟨k1,k2,_⟩:=qv6 h0;have e:secV p n=colF ((qbz (psV p).1 n).map (cpV · p.2.1)) []:=by unfold secV;rw[show decide ((psV p).2≠0)=false from h,decide_eq_true (show 1<=n/\n<=4096 by omega)]
  have hk:qoo (psV p).1 n:=⟨by omega,by omega,by omega⟩;refine ⟨(show 1<=n by omega),trivial,hk,?_⟩;refine qgs (e:=paS) (et:=31) (a:=1114688) (z:=(colF ((qbz (psV p).1 n).map (cpV · p.2.1)) []).2) (xs:=(colF ((qbz (psV p).1 n).map (cpV · p.2.1)) []).1) ?_ ?_ rfl rfl rfl
  ·show [_,_]=_;rw[e]
  ·show [_]=_;rw[e]
theorem qzk:Held Tryz.prog G0 32 ctSec:=Held.run cxSe (fn:=Tryz.f32) rfl rfl ⟨by decide,by decide⟩ λ ⟨p,n,_⟩ _=>q46 p n _
theorem qz0:HeldI Tryz.prog G0 106 ctOth:=HeldI.run cx0 (fn:=Tryz.f106) rfl rfl ⟨by decide,by decide⟩ λ ⟨⟨li,m,o,x⟩,⟨l,⟨⟩⟩,⟨⟩⟩ hp=>by
 have hp:0<l.length:=hp;refine (q7t l li m o x _ _).mpr ⟨by omega,by omega,QI.self rfl rfl rfl (λ p hp=>?_)⟩;have hp:p∈[(BIG,LB.var [SV.sl paS l])]:=hp;rw[List.mem_singleton] at hp;subst hp;rfl
theorem cxOt:CxOK Tryz.prog tt G0 [(106,.inr ctOth)]:=cx0.consI qz0 (fn:=Tryz.f106) rfl rfl rfl
abbrev QIx (b:List PaT) (v:SV):List SV->List (Nat × LB)->Prop:=λ rs blk=>rs=[v]/\lk blk BIG=some (LB.var [.sl paS b])
theorem qea {l:List PaT} {i:Nat} (h:i<l.length):gtP l i=l[i]:=gtE (e:=paS) h
theorem qxc (p:PaT->Bool):∀ (l:List PaT) (i:Nat),decide ((0:Int)<=ixF p l i)=l.any p
 | [],i=>rfl
 | x::r,i=>by
  rw[ixF,List.any_cons];cases h:p x with
  | true=>simp only[Bool.true_or,decide_eq_true_eq];omega
  | false=>simp only[Bool.false_or];exact qxc p r (i+1)
theorem q0v {l b:List PaT} {v:SV} (hb:0<b.length) (hl:l.length<1000000):∀ (k i:Nat),l.length-i=k->i<=l.length->v=.i (ixF (othB b) (l.drop i) i)->GD 108 Tryz.f108 (QIx b v) (hd Tryz.f108 0) ⟨[(0,.sl paS l),(1,.fn 106 [] [.ptr BIG 0]),(7,.i (l.length:Nat)),(8,.i (i:Nat))],[(BIG,.var [.sl paS b])]⟩:=by
 intro k
 induction k with
 | zero=>
  intro i hk hi hv;have hi:i=l.length:=by omega
  subst hi;refine qax cxOt (quw l b l.length _ _) ?_;rw[decide_eq_false (show ¬ ((l.length:Nat):Int)<(l.length:Int) by omega),bc_f];rw[List.drop_length] at hv;exact ⟨by rw[hv];rfl,rfl⟩
 | succ k ih=>
  intro i hk hi hv;have hil:i<l.length:=by omega
  refine qax cxOt (quw l b i _ _) ?_;rw[decide_eq_true (show (i:Int)<(l.length:Int) by omega),bc_t];simp only[Int.toNat_natCast];rw[qg2 hil,ixF,<- qea hil] at hv;refine ⟨by omega,by omega,hb,qag (λ h=>?_) (λ h=>?_)⟩
  ·have h:othB b (gtP l i)=true:=h;rw[h] at hv;exact ⟨by rw[hv],rfl⟩
  ·have h:othB b (gtP l i)=false:=h;rw[h] at hv;have nx:=ih (i+1) (by omega) (by omega) hv;rw[IntWalk.i64_in ((i:Int)+1) (by omega)];exact nx.only ⟨rfl,rfl,rfl,rfl,trivial⟩ ⟨rfl,trivial⟩
theorem q0w:HeldI Tryz.prog G0 108 ctIfO:=HeldI.of cxOt (fn:=Tryz.f108) rfl rfl ⟨by decide,by decide⟩ λ ⟨l,⟨⟨⟩,⟨⟨b,⟨⟩⟩,⟨⟩⟩⟩,⟨⟩⟩ hp=>by
 obtain ⟨hb,hl⟩:q5b l b:=hp;refine qax cxOt (q75 l b _ _) (((q0v (v:=.i (ixF (othB b) l 0)) hb hl _ 0 rfl (Nat.zero_le _) rfl).post λ rs blk hq=>?_).only ⟨rfl,rfl,rfl,rfl,trivial⟩ ⟨rfl,trivial⟩);refine QI.self hq.1.symm (by rw[hq.1];rfl) rfl (λ p hp=>?_);have hp:p∈[(BIG,LB.var [SV.sl paS b])]:=hp;rw[List.mem_singleton] at hp;subst hp;exact hq.2
def ctCfO:CtrI:=⟨KO,λ x=>q5b x.1 x.2.1.2.1.1,λ x=>[.bool (List.any x.1 (othB x.2.1.2.1.1))],λ x=>bkKL 0 KO x⟩
theorem q1h:HeldI Tryz.prog G0 83 ctCfO:=HeldI.run (cx0.consI q0w (fn:=Tryz.f108) rfl rfl rfl) (fn:=Tryz.f83) rfl rfl ⟨by decide,by decide⟩ λ ⟨l,⟨⟨⟩,⟨⟨b,⟨⟩⟩,⟨⟩⟩⟩,⟨⟩⟩ hp=>by
 refine (q8h l b _ _).mpr ⟨hp,QI.self ?_ rfl rfl (λ p hp=>?_)⟩
 ·show [SV.bool (List.any l (othB b))]=[SV.bool (decide ((0:Int)<=ixF (othB b) l 0))]
  rw[qxc]
 ·have hp:p∈[(BIG,LB.var [SV.sl paS b])]:=hp;rw[List.mem_singleton] at hp;subst hp;rfl
open Go.IntKind(i64 u32 u8)
def ctSyF:Ctr:=⟨[paS],λ _=>True,λ x=>[.sl syS (symV x.1).1,.i (symV x.1).2],λ _=>[]⟩
theorem qy8:Held Tryz.prog G0 63 ctSyF:=by
 have h:=sym_held.frz (λ x _=>by
  show inL 0 (symV x.1).1.length [SV.win true syS 0 0 (symV x.1).1.length,SV.i (symV x.1).2]/\True
  exact ⟨⟨λ _=>by omega,⟨trivial,trivial⟩⟩,trivial⟩)
 refine h.iff rfl (λ x h=>h) (λ x _=>?_) (λ x _=>rfl)
 show [SV.sl syS (symV x.1).1,SV.i (symV x.1).2]=[SV.sl syS (winL syS 0 (symV x.1).1.length (symV x.1).1),SV.i (symV x.1).2]
 rw[winA (e:=syS)]
theorem cxAy:CxOK Tryz.prog tt G0 [(63,.inl ctSyF)]:=cx0.k qy8 (fn:=Tryz.f63)
abbrev CJ1:CV:=[(93,.inl ctChk),(83,.inr ctCfO)]
theorem cxJ1:CxOK Tryz.prog tt G0 CJ1:=(cx0.consI q1h (fn:=Tryz.f83) rfl rfl rfl).k qsn (fn:=Tryz.f93)
set_option maxRecDepth 100000
theorem q8j (l:List PaT) (Q:QT) (R:RT):sA [(63,.inl ctSyF)] Tryz.f75 Q R [.code (qae Tryz.f75)] (entry [.sl paS] (l,())) =
  (R (hd Tryz.f75 0) { env:=[(0,.sl paS l),(2,.nils),(3,.nils),(8,.sl paS l),(9,.i (l.length:Int)),(10,.i 0)],blk:=[] }):=by kernel_rfl
theorem q4h (l:List PaT) (i:Int) (Q:QT) (R:RT):sA [(63,.inl ctSyF)] Tryz.f75 Q R (hd Tryz.f75 0) ⟨[(3,.nils),(8,.sl paS l),(9,.i (l.length:Nat)),(10,.i i)],[]⟩ =
  (bc (decide (i<(l.length:Int))) ((0:Int)<=i/\i<(l.length:Int)/\ctSyF.pre ((gtP l i.toNat),())/\(symV (gtP l i.toNat)).1.length<2 ^ 30/\(24:Nat)<=2 ^ 10/\R (hd Tryz.f75 0) { env:=[(3,.win true syS 21 0 (symV (gtP l i.toNat)).1.length),(5,.ptr 5 0),(6,.sl syS (symV (gtP l i.toNat)).1),(7,.i (symV (gtP l i.toNat)).2),(8,.sl paS l),(9,.i (l.length:Int)),(10,.i (i64.wrap (i+1))),(11,.bool (decide (i<(l.length:Int)))),(12,.elv paS (gtP l i.toNat)),(13,.agg [.bool (gtP l i.toNat).1,.i (gtP l i.toNat).2.1,.i (gtP l i.toNat).2.2.1,.sl opS (gtP l i.toNat).2.2.2]),(14,SV.tup [.sl syS (symV (gtP l i.toNat)).1,.i (symV (gtP l i.toNat)).2]),(15,.agg [.bool (gtP l i.toNat).1,.i (gtP l i.toNat).2.1,.i (gtP l i.toNat).2.2.1,.sl opS (gtP l i.toNat).2.2.2]),(16,SV.tup [.sl syS (symV (gtP l i.toNat)).1,.i (symV (gtP l i.toNat)).2]),(17,.sl syS (symV (gtP l i.toNat)).1),(18,.i (symV (gtP l i.toNat)).2),(19,.nils),(20,.sl syS (symV (gtP l i.toNat)).1),(21,.win true syS 21 0 (symV (gtP l i.toNat)).1.length),(22,.i (i64.wrap (i+1)))],blk:=[(5,.var [.bool (gtP l i.toNat).1,.i (gtP l i.toNat).2.1,.i (gtP l i.toNat).2.2.1,.sl opS (gtP l i.toNat).2.2.2]),(21,.row 83 syS (symV (gtP l i.toNat)).1)] }) False):=by kernel_rfl
theorem qu4 (l:List PaT) (o:List SyT) (i:Int) (Q:QT) (R:RT):sA [(63,.inl ctSyF)] Tryz.f75 Q R (hd Tryz.f75 0) ⟨[(3,.win true syS 77 0 o.length),(8,.sl paS l),(9,.i (l.length:Nat)),(10,.i i)],[(77,.row 83 syS o)]⟩ =
  (bc (decide (i<(l.length:Int))) ((0:Int)<=i/\i<(l.length:Int)/\ctSyF.pre ((gtP l i.toNat),())/\o.length=o.length/\(0:Nat)=(0:Nat)/\o.length+(symV (gtP l i.toNat)).1.length<2 ^ 30/\(24:Nat)<=2 ^ 10/\R (hd Tryz.f75 0) { env:=[(3,.win true syS 21 0 (o.length+(symV (gtP l i.toNat)).1.length)),(5,.ptr 5 0),(6,.sl syS (symV (gtP l i.toNat)).1),(7,.i (symV (gtP l i.toNat)).2),(8,.sl paS l),(9,.i (l.length:Int)),(10,.i (i64.wrap (i+1))),(11,.bool (decide (i<(l.length:Int)))),(12,.elv paS (gtP l i.toNat)),(13,.agg [.bool (gtP l i.toNat).1,.i (gtP l i.toNat).2.1,.i (gtP l i.toNat).2.2.1,.sl opS (gtP l i.toNat).2.2.2]),(14,SV.tup [.sl syS (symV (gtP l i.toNat)).1,.i (symV (gtP l i.toNat)).2]),(15,.agg [.bool (gtP l i.toNat).1,.i (gtP l i.toNat).2.1,.i (gtP l i.toNat).2.2.1,.sl opS (gtP l i.toNat).2.2.2]),(16,SV.tup [.sl syS (symV (gtP l i.toNat)).1,.i (symV (gtP l i.toNat)).2]),(17,.sl syS (symV (gtP l i.toNat)).1),(18,.i (symV (gtP l i.toNat)).2),(19,.dead),(20,.sl syS (symV (gtP l i.toNat)).1),(21,.win true syS 21 0 (o.length+(symV (gtP l i.toNat)).1.length)),(22,.i (i64.wrap (i+1)))],blk:=[(5,.var [.bool (gtP l i.toNat).1,.i (gtP l i.toNat).2.1,.i (gtP l i.toNat).2.2.1,.sl opS (gtP l i.toNat).2.2.2]),(21,.row 83 syS (o++(symV (gtP l i.toNat)).1))] }) (o.length=o.length/\(o.length:Int)=(o.length:Int)/\(o.length:Int)=(o.length:Int)/\o.length<1099511627776/\0+o.length<=o.length/\0+o.length<=o.length/\0+o.length<=o.length/\0+o.length<=o.length/\Q [.sl syS o] [])):=by kernel_rfl
theorem vc_cj (l:List PaT) (Q:QT) (R:RT):sA CJ1 Tryz.f74 Q (λ it S=>R it (qby [1,8,14,15,16,33,34,35] [1] S)) [.code (qae Tryz.f74)] (entry [.sl paS] (l,())) =
  (bc (decide ((l.length:Int)=(0:Int))) (Q [.i 1] [(1,.var [.sl paS l])]) (R (hd Tryz.f74 0) { env:=[(1,.ptr 1 0),(14,.sl paS l),(15,.i (l.length:Int)),(16,.i 0)],blk:=[(1,.var [.sl paS l])] })):=by kernel_rfl
theorem q2j (l:List PaT) (i:Int) (Q:QT) (R:RT):sA CJ1 Tryz.f74 Q (λ it S=>R it (qby [1,8,14,15,16,33,34,35] [1] S)) (hd Tryz.f74 0) ⟨[(1,.ptr 1 0),(14,.sl paS l),(15,.i (l.length:Nat)),(16,.i i)],[(1,.var [.sl paS l])]⟩ =
  (bc (decide (i<(l.length:Int))) ((0:Int)<=i/\i<(l.length:Int)/\ctChk.pre ((gtP l i.toNat),())/\bc (decide ((chkV (gtP l i.toNat)).2≠0)) (Q [.i (chkV (gtP l i.toNat)).2] [(1,.var [.sl paS l]),(4,.var [.bool (gtP l i.toNat).1,.i (gtP l i.toNat).2.1,.i (gtP l i.toNat).2.2.1,.sl opS (gtP l i.toNat).2.2.2])]) (R (hd Tryz.f74 0) { env:=[(1,.ptr 1 0),(14,.sl paS l),(15,.i (l.length:Int)),(16,.i (i64.wrap (i+1)))],blk:=[(1,.var [.sl paS l])] })) (ctCfO.pre (l,((),(l,()),()),())/\bc (l.any (othB l)) (Q [.i 62] [(1,.var [.sl paS l])]) (R (hd Tryz.f74 1) { env:=[(1,.ptr 1 0),(8,.i 65536),(14,.sl paS l),(15,.i (l.length:Int)),(16,.i i),(33,.sl paS l),(34,.i (l.length:Int)),(35,.i 0)],blk:=[(1,.var [.sl paS l])] }))):=by kernel_rfl
def ql8 (l:List PaT) (i:Int):List (Nat × LB):=[(1,.var [.sl paS l]),(10,.var [.bool (gtP l i.toNat).1,.i (gtP l i.toNat).2.1,.i (gtP l i.toNat).2.2.1,.sl opS (gtP l i.toNat).2.2.2])]
theorem q2i (l:List PaT) (n i:Int) (Q:QT) (R:RT):sA CJ1 Tryz.f74 Q (λ it S=>R it (qby [1,8,14,15,16,33,34,35] [1] S)) (hd Tryz.f74 1) ⟨[(1,.ptr 1 0),(8,.i n),(33,.sl paS l),(34,.i (l.length:Nat)),(35,.i i)],[(1,.var [.sl paS l])]⟩ =
  (bc (decide (i<(l.length:Int))) ((0:Int)<=i/\i<(l.length:Int)/\(0:Int)<=0/\(0:Int)<(l.length:Int)/\bc (decide ((gtP l i.toNat).2.1≠(gtP l (0)).2.1)) (true=true/\Q [.i 61] (ql8 l i)) (bc (bif false then true else decide (n<(gtP l i.toNat).2.2.1)) (Q [.i 61] (ql8 l i)) (R (hd Tryz.f74 1) { env:=[(1,.ptr 1 0),(8,.i (i64.wrap (n-(gtP l i.toNat).2.2.1))),(33,.sl paS l),(34,.i (l.length:Int)),(35,.i (i64.wrap (i+1)))],blk:=[(1,.var [.sl paS l])] }))) (Q [.i 0] [(1,.var [.sl paS l])])):=by kernel_rfl
def ckaF:List PaT->Int
 | []=>0
 | p::r=>match decide ((chkV p).2≠0) with
  | true=>(chkV p).2
  | false=>ckaF r
def lenF (m:Int):List PaT->Int->Int
 | [],_=>0
 | p::r,n=>match decide (p.2.1≠m) with
  | true=>61
  | false=>match decide (n<p.2.2.1) with
   | true=>61
   | false=>lenF m r (n-p.2.2.1)
def cjV (l:List PaT):Int:=match decide (l.length=0) with
 | true=>1
 | false=>match decide (ckaF l≠0) with
  | true=>ckaF l
  | false=>match l.any (othB l) with
   | true=>62
   | false=>lenF (gtP l 0).2.1 l 65536
def ctCj:Ctr:=⟨[.sl paS],λ x=>List.length x.1<1000000,λ x=>[.i (cjV x.1)],λ _=>[]⟩
theorem qqy:∀ {l:List PaT},ckaF l=0->∀ p∈l,(chkV p).2=0
 | [],_,p,hp=>by cases hp
 | q::l,h,p,hp=>by
  rw[ckaF] at h;by_cases hq:(chkV q).2≠0
  ·rw[decide_eq_true hq] at h;exact absurd h hq
  ·rw[decide_eq_false hq] at h;rcases List.mem_cons.1 hp with rfl | hp
   ·exact Classical.not_not.1 hq
   ·exact qqy h p hp
abbrev QJ (v:Int):List SV->List (Nat × LB)->Prop:=λ rs _=>rs=[.i v]
theorem q1e {l:List PaT} {v:Int} (h0:0<l.length) (hl:l.length<1000000) (hok:∀ p∈l,(chkV p).2=0):∀ (k i:Nat) (n:Int),l.length-i=k->i<=l.length->0<=n/\n<=65536->v=lenF (gtP l 0).2.1 (l.drop i) n->GD 74 Tryz.f74 (QJ v) (hd Tryz.f74 1) ⟨[(1,.ptr 1 0),(8,.i n),(33,.sl paS l),(34,.i (l.length:Nat)),(35,.i (i:Nat))],[(1,.var [.sl paS l])]⟩:=by
 intro k
 induction k with
 | zero=>
  intro i n hk hi hn hv;have hi:i=l.length:=by omega
  subst hi;refine qax cxJ1 (q2i l n l.length _ _) ?_;rw[decide_eq_false (show ¬ ((l.length:Nat):Int)<(l.length:Int) by omega),bc_f];rw[List.drop_length] at hv;rw[hv];rfl
 | succ k ih=>
  intro i n hk hi hn hv;have hil:i<l.length:=by omega
  refine qax cxJ1 (q2i l n i _ _) ?_;rw[decide_eq_true (show (i:Int)<(l.length:Int) by omega),bc_t];simp only[Int.toNat_natCast];rw[qg2 hil,lenF,<- qea hil] at hv;have hp:=(qe0 (hok (gtP l i) (by rw[qea hil];exact List.getElem_mem hil))).2.2.1;refine ⟨by omega,by omega,by omega,by omega,qag (λ h=>⟨by trivial,?_⟩) (λ h=>?_)⟩
  ·rw[h] at hv;rw[hv]
  ·rw[h] at hv
   show bc (decide (n<(gtP l i).2.2.1)) _ _
   refine qag (λ h2=>?_) (λ h2=>?_)
   ·rw[h2] at hv;rw[hv]
   ·rw[h2] at hv;have h2:=of_decide_eq_false h2;have nx:=ih (i+1) (n-(gtP l i).2.2.1) (by omega) (by omega) (by omega) hv;rw[IntWalk.i64_in ((i:Int)+1) (by omega),IntWalk.i64_in (n-(gtP l i).2.2.1) (by omega)];exact nx.only ⟨rfl,rfl,rfl,rfl,rfl,trivial⟩ ⟨rfl,trivial⟩
theorem q1f {l:List PaT} {v:Int} (h0:0<l.length) (hl:l.length<1000000) (hv0:v=cjV l):∀ (k i:Nat),l.length-i=k->i<=l.length->ckaF l=ckaF (l.drop i)->GD 74 Tryz.f74 (QJ v) (hd Tryz.f74 0) ⟨[(1,.ptr 1 0),(14,.sl paS l),(15,.i (l.length:Nat)),(16,.i (i:Nat))],[(1,.var [.sl paS l])]⟩:=by
 have e0:decide (l.length=0)=false:=decide_eq_false (by omega);intro k
 induction k with
 | zero=>
  intro i hk hi hv;have hi:i=l.length:=by omega
  subst hi;rw[List.drop_length] at hv;have hc:ckaF l=0:=hv;have e1:decide (ckaF l≠0)=false:=decide_eq_false (by omega);unfold cjV at hv0;rw[e0,e1] at hv0;refine qax cxJ1 (q2j l l.length _ _) ?_;rw[decide_eq_false (show ¬ ((l.length:Nat):Int)<(l.length:Int) by omega),bc_f];refine ⟨⟨h0,hl⟩,qag (λ h=>?_) (λ h=>?_)⟩
  ·rw[h] at hv0;rw[hv0]
  ·rw[h] at hv0;exact (q1e h0 hl (qqy hc) _ 0 65536 rfl (Nat.zero_le _) (by omega) hv0).only ⟨rfl,rfl,rfl,rfl,rfl,trivial⟩ ⟨rfl,trivial⟩
 | succ k ih=>
  intro i hk hi hv;have hil:i<l.length:=by omega
  refine qax cxJ1 (q2j l i _ _) ?_;rw[decide_eq_true (show (i:Int)<(l.length:Int) by omega),bc_t];simp only[Int.toNat_natCast];rw[qg2 hil,ckaF,<- qea hil] at hv;refine ⟨by omega,by omega,trivial,qag (λ h=>?_) (λ h=>?_)⟩
  ·rw[h] at hv;have h:=of_decide_eq_true h;unfold cjV at hv0;rw[e0,decide_eq_true (show ckaF l≠0 by rw[hv];exact h),hv] at hv0;rw[hv0]
  ·rw[h] at hv;have nx:=ih (i+1) (by omega) (by omega) hv;rw[IntWalk.i64_in ((i:Int)+1) (by omega)];exact nx.only ⟨rfl,rfl,rfl,rfl,trivial⟩ ⟨rfl,trivial⟩
theorem q6z:Held Tryz.prog G0 74 ctCj:=Held.of cxJ1 (fn:=Tryz.f74) rfl rfl ⟨by decide,by decide⟩ λ ⟨l,_⟩ hp=>by
 have hl:l.length<1000000:=hp;refine qax cxJ1 (vc_cj l _ _) (qag (λ h=>?_) (λ h=>?_))
 ·have h:=of_decide_eq_true h;have e:cjV l=1:=by unfold cjV;rw[decide_eq_true (show l.length=0 by omega)]
  refine QC.flat ?_ rfl rfl
  show [SV.i (cjV l)]=_
  rw[e]
 ·have h:=of_decide_eq_false h;refine ((q1f (v:=cjV l) (by omega) hl rfl _ 0 rfl (Nat.zero_le _) rfl).post λ rs blk hq=>QC.flat (Eq.symm hq) rfl (by rw[hq];rfl)).only ⟨rfl,rfl,rfl,rfl,trivial⟩ ⟨rfl,trivial⟩
def ayaF (l:List PaT):List SyT:=l.flatMap λ p=>(symV p).1
def qv8 (l:List PaT):Prop:=0<l.length/\l.length<1000000/\(ayaF l).length<16777216
def ctAya:Ctr:=⟨[.sl paS],λ x=>qv8 x.1,λ x=>[.sl syS (ayaF x.1)],λ _=>[]⟩
theorem qee {l:List PaT} {i:Nat} (h:i<l.length):ayaF (l.take (i+1))=ayaF (l.take i)++(symV (gtP l i)).1:=by
 unfold ayaF;rw[List.take_succ_eq_append_getElem h,List.flatMap_append,qea h];simp
theorem qq0 {l:List PaT} (i:Nat):(ayaF (l.take i)).length<=(ayaF l).length:=by
 have:ayaF l=ayaF (l.take i)++ayaF (l.drop i):=by
  unfold ayaF;rw[<- List.flatMap_append,List.take_append_drop]
 rw[this,List.length_append];omega
abbrev QAy (o:List SyT):List SV->List (Nat × LB)->Prop:=λ rs _=>rs=[.sl syS o]
theorem q1l {l:List PaT} (hl:l.length<1000000) (hb:(ayaF l).length<16777216):∀ (k i:Nat) (o:List SyT),l.length-i=k->i<=l.length->o=ayaF (l.take i)->GD 75 Tryz.f75 (QAy (ayaF l)) (hd Tryz.f75 0) ⟨[(3,.win true syS 77 0 o.length),(8,.sl paS l),(9,.i (l.length:Nat)),(10,.i (i:Nat))],[(77,.row 83 syS o)]⟩:=by
 intro k
 induction k with
 | zero=>
  intro i o hk hi ho;have hi:i=l.length:=by omega
  subst hi;rw[List.take_length] at ho;subst ho;refine qe4 cxAy (qu4 l (ayaF l) l.length _ _) ?_;rw[decide_eq_false (show ¬ ((l.length:Nat):Int)<(l.length:Int) by omega),bc_f];refine ⟨rfl,rfl,rfl,by omega,by omega,by omega,by omega,by omega,rfl⟩
 | succ k ih=>
  intro i o hk hi ho;have hil:i<l.length:=by omega
  refine qe4 cxAy (qu4 l o i _ _) ?_;have nx:=ih (i+1) (o++(symV (gtP l i)).1) (by omega) (by omega) (by rw[ho,qee hil]);have hn:o.length+(symV (gtP l i)).1.length<=(ayaF l).length:=by
   have:=qq0 (l:=l) (i+1);rw[qee hil,<- ho,List.length_append] at this;exact this
  rw[decide_eq_true (show (i:Int)<(l.length:Int) by omega),bc_t,IntWalk.i64_in ((i:Int)+1) (by omega)];simp only[Int.toNat_natCast];refine ⟨by omega,by omega,trivial,by trivial,by trivial,by omega,by omega,?_⟩;refine nx.onlyR [(77,21)] rfl ⟨?_,rfl,rfl,rfl,trivial⟩ ⟨rfl,trivial⟩;rw[List.length_append];rfl
theorem q1m:Held Tryz.prog G0 75 ctAya:=Held.of cxAy (fn:=Tryz.f75) rfl rfl ⟨by decide,by decide⟩ λ ⟨l,_⟩ hp=>by
 obtain ⟨h0,hl,hb⟩:qv8 l:=hp;refine qe4 cxAy (q8j l _ _) ?_;have go:GD 75 Tryz.f75 (QAy (ayaF l)) (hd Tryz.f75 0) ⟨[(3,.nils),(8,.sl paS l),(9,.i (l.length:Nat)),(10,.i (0:Int))],[]⟩:=by
  refine qe4 cxAy (q4h l 0 _ _) ?_;have nx:=q1l hl hb _ 1 (symV (gtP l 0)).1 rfl (by omega) (by rw[qee h0];rfl);have hn:(symV (gtP l 0)).1.length<=(ayaF l).length:=by
   have:=qq0 (l:=l) 1;rw[qee h0,List.length_append] at this;omega
  rw[decide_eq_true (show (0:Int)<(l.length:Int) by omega),bc_t];refine ⟨by omega,by omega,trivial,?_,by omega,?_⟩
  ·show (symV (gtP l 0)).1.length<2 ^ 30
   omega
  ·exact nx.onlyR [(77,21)] rfl ⟨rfl,rfl,rfl,rfl,trivial⟩ ⟨rfl,trivial⟩
 exact (go.post λ rs blk hq=>QC.flat (Eq.symm hq) rfl (by rw[hq];rfl)).only ⟨rfl,rfl,rfl,rfl,trivial⟩ trivial
abbrev CJn:CV:=[(74,.inl ctCj),(75,.inl ctAya),(55,.inl ctCp)]
theorem cxJn:CxOK Tryz.prog tt G0 CJn:=((cx0.k qx1 (fn:=Tryz.f55)).k q1m (fn:=Tryz.f75)).k q6z (fn:=Tryz.f74)
set_option maxRecDepth 100000
theorem q37 (l:List PaT) (Q:QT) (R:RT):sA CJn Tryz.f33 Q R [.code (qae Tryz.f33)] (entry [.sl paS] (l,())) =
  (ctCj.pre (l,())/\bc (decide (cjV l≠0)) (Q [.agg [.bool false,.i 0,.i 0,.nils],.i (cjV l)] [(2,.var [.bool false,.i 0,.i 0,.nils])]) (ctAya.pre (l,())/\(0:Int)<=0/\(0:Int)<(l.length:Int)/\ctCp.pre (ayaF l,(gtP l (0)).2.1,())/\bc (decide ((cpV (ayaF l) (gtP l (0)).2.1).2≠0)) (Q [.agg [.bool false,.i 0,.i 0,.nils],.i (cpV (ayaF l) (gtP l (0)).2.1).2] [(2,.var [.bool false,.i 0,.i 0,.nils]),(5,.var [.bool (cpV (ayaF l) (gtP l (0)).2.1).1.1,.i (cpV (ayaF l) (gtP l (0)).2.1).1.2.1,.i (cpV (ayaF l) (gtP l (0)).2.1).1.2.2.1,.sl opS (cpV (ayaF l) (gtP l (0)).2.1).1.2.2.2])]) ((0:Int)<=0/\(0:Int)<(l.length:Int)/\Q [.agg [.bool (gtP l (0)).1,.i (cpV (ayaF l) (gtP l (0)).2.1).1.2.1,.i (cpV (ayaF l) (gtP l (0)).2.1).1.2.2.1,.sl opS (cpV (ayaF l) (gtP l (0)).2.1).1.2.2.2],.i 0] [(2,.var [.bool (gtP l (0)).1,.i (cpV (ayaF l) (gtP l (0)).2.1).1.2.1,.i (cpV (ayaF l) (gtP l (0)).2.1).1.2.2.1,.sl opS (cpV (ayaF l) (gtP l (0)).2.1).1.2.2.2]),(5,.var [.bool (gtP l (0)).1,.i (cpV (ayaF l) (gtP l (0)).2.1).1.2.1,.i (cpV (ayaF l) (gtP l (0)).2.1).1.2.2.1,.sl opS (cpV (ayaF l) (gtP l (0)).2.1).1.2.2.2])]))):=by kernel_rfl
def jnV (l:List PaT):PaT × Int:=match decide (cjV l≠0) with
 | true=>((false,0,0,[]),cjV l)
 | false=>match decide ((cpV (ayaF l) (gtP l 0).2.1).2≠0) with
  | true=>((false,0,0,[]),(cpV (ayaF l) (gtP l 0).2.1).2)
  | false=>(((gtP l 0).1,(cpV (ayaF l) (gtP l 0).2.1).1.2),0)
def ctJn:Ctr:=⟨[.sl paS],λ x=>List.length x.1<1000000,λ x=>[paV (jnV x.1).1,.i (jnV x.1).2],λ _=>[]⟩
theorem qr7 {m:Int}:∀ {l:List PaT} {n:Int},0<=n->(∀ p∈l,(chkV p).2=0)->lenF m l n=0->((ayaF l).length:Int)<=n/\∀ p∈l,p.2.1=m
 | [],n,hn,_,_=>⟨hn,λ p hp=>by cases hp⟩
 | p::l,n,hn,hc,h=>by
  rw[lenF] at h;by_cases h1:p.2.1≠m
  ·rw[decide_eq_true h1] at h;cases h
  ·rw[decide_eq_false h1] at h;by_cases h2:n<p.2.2.1
   ·rw[decide_eq_true h2] at h;cases h
   ·rw[decide_eq_false h2] at h;have hp:=hc p (List.mem_cons_self ..);have hs:(symV p).2=0:=by unfold symV;rw[if_pos hp]
    have hl:=(qc7 hs).2.2;obtain ⟨a1,a2⟩:=qr7 (m:=m) (l:=l) (by omega) (λ q hq=>hc q (List.mem_cons_of_mem _ hq)) h;refine ⟨?_,λ q hq=>?_⟩
    ·show (((symV p).1++ayaF l).length:Int)<=n
     rw[List.length_append];omega
    ·rcases List.mem_cons.1 hq with rfl | hq
     ·exact Classical.not_not.1 h1
     ·exact a2 q hq
theorem q9u {l:List PaT} (h:cjV l=0):0<l.length/\(∀ p∈l,(chkV p).2=0)/\l.any (othB l)=false/\(ayaF l).length<=65536/\∀ p∈l,p.2.1=(gtP l 0).2.1:=by
 unfold cjV at h;by_cases h1:l.length=0
 ·rw[decide_eq_true h1] at h;cases h
 ·rw[decide_eq_false h1] at h;by_cases h2:ckaF l≠0
  ·rw[decide_eq_true h2] at h;exact absurd h h2
  ·rw[decide_eq_false h2] at h;have hc:=qqy (Classical.not_not.1 h2)
   cases h3:l.any (othB l) with
   | true=>rw[h3] at h;cases h
   | false=>
    rw[h3] at h;obtain ⟨a1,a2⟩:=qr7 (by omega) hc h;exact ⟨by omega,hc,rfl,by omega,a2⟩
theorem q9d (l:List PaT) (hl:l.length<1000000) (R:List Item->PS->Prop):sA CJn Tryz.f33 (QC ctJn (l,())) R [.code (qae Tryz.f33)] (entry [.sl paS] (l,())):=by
 refine (q37 l _ _).mpr ⟨hl,qag (λ h=>?_) (λ h=>?_)⟩
 ·have hv:jnV l=((false,0,0,[]),cjV l):=by unfold jnV;rw[show decide (cjV l≠0)=true from h]
  exact QC.mt (by show MtL _ [paV (jnV l).1,.i (jnV l).2] _;rw[hv];exact qmv _) rfl
 ·have h0:cjV l=0:=by
   have:=of_decide_eq_false h;simpa using this
  obtain ⟨a1,_,_,a2,_⟩:=q9u h0;have pA:qv8 l:=⟨a1,hl,by omega⟩;have pC:(ayaF l).length<16777216:=by omega
  refine ⟨pA,by omega,by omega,pC,qag (λ h2=>?_) (λ h2=>⟨by omega,by omega,?_⟩)⟩
  ·have hv:jnV l=((false,0,0,[]),(cpV (ayaF l) (gtP l 0).2.1).2):=by unfold jnV;rw[show decide (cjV l≠0)=false from h,show decide ((cpV (ayaF l) (gtP l 0).2.1).2≠0)=true from h2]
   exact QC.mt (by show MtL _ [paV (jnV l).1,.i (jnV l).2] _;rw[hv];exact qmv _) rfl
  ·have hv:jnV l=(((gtP l 0).1,(cpV (ayaF l) (gtP l 0).2.1).1.2),0):=by unfold jnV;rw[show decide (cjV l≠0)=false from h,show decide ((cpV (ayaF l) (gtP l 0).2.1).2≠0)=false from h2]
   exact QC.flat (by show [paV (jnV l).1,.i (jnV l).2]=_;rw[hv];rfl) rfl rfl
theorem qxa:Held Tryz.prog G0 33 ctJn:=Held.run cxJn (fn:=Tryz.f33) rfl rfl ⟨by decide,by decide⟩ λ ⟨l,_⟩ hp=>q9d l hp _
theorem q77  (Q:QT) (R:RT):sA [] Tryz.f61 Q R [.code (qae Tryz.f61)] (entry [] ()) =
  (0+2<=(((List.replicate (2:Nat) uB.dflt).set (0:Nat) (7:Int)).set (1:Nat) (8:Int)).length/\0+2<=(((List.replicate (2:Nat) uB.dflt).set (0:Nat) (7:Int)).set (1:Nat) (8:Int)).length/\Q [.agg [.bool false,.i 3,.i 5,.win true opS 4 0 (2:Nat)]] [(0,.var [.bool false,.i 3,.i 5,.win true opS 4 0 (2:Nat)]),(4,.row 74 opS (((List.replicate (2:Nat) opS.dflt).set (0:Nat) ((1:Int),(0:Int),(3:Int),(0:Int),[])).set (1:Nat) ((4:Int),(0:Int),(2:Int),(0:Int),winL uB 0 2 (((List.replicate (2:Nat) uB.dflt).set (0:Nat) (7:Int)).set (1:Nat) (8:Int)))))]):=by kernel_rfl
theorem q7m (a b:List PaT) (Q:QT) (R:RT):sA [(20,.inl ctSm)] Tryz.f62 Q R [.code (qae Tryz.f62)] (entry [.sl paS,.sl paS] (a,b,())) =
  (bc (decide ((a.length:Int)≠(b.length:Int))) (Q [.bool false] []) (R (hd Tryz.f62 0) { env:=[(0,.sl paS a),(1,.sl paS b),(4,.bool false),(5,.i 0),(6,.sl paS a),(7,.i (a.length:Int)),(8,.sl paS b),(9,.i (b.length:Int)),(10,.bool (decide ((a.length:Int)≠(b.length:Int))))],blk:=[] })):=by kernel_rfl
theorem qum (a b:List PaT) (i:Nat) (Q:QT) (R:RT):sA [(20,.inl ctSm)] Tryz.f62 Q R (hd Tryz.f62 0) ⟨[(0,.sl paS a),(1,.sl paS b),(5,.i (i:Nat))],[]⟩ =
  (bc (decide ((i:Int)<(a.length:Int))) ((0:Int)<=(i:Int)/\(i:Int)<(a.length:Int)/\(0:Int)<=(i:Int)/\(i:Int)<(b.length:Int)/\ctSm.pre ((gtP a (i:Int).toNat),(gtP b (i:Int).toNat),())/\bc (!smB (gtP a (i:Int).toNat) (gtP b (i:Int).toNat)) (Q [.bool false] []) (R (hd Tryz.f62 0) { env:=[(0,.sl paS a),(1,.sl paS b),(5,.i (IntKind.i64.wrap ((i:Int)+1))),(11,.i (i:Int)),(12,.sl paS a),(13,.i (a.length:Int)),(14,.bool (decide ((i:Int)<(a.length:Int)))),(15,.i (i:Int)),(16,.i (IntKind.i64.wrap ((i:Int)+1))),(17,.sl paS a),(18,.i (i:Int)),(19,.elv paS (gtP a (i:Int).toNat)),(20,.agg [.bool (gtP a (i:Int).toNat).1,.i (gtP a (i:Int).toNat).2.1,.i (gtP a (i:Int).toNat).2.2.1,.sl opS (gtP a (i:Int).toNat).2.2.2]),(21,.sl paS b),(22,.i (i:Int)),(23,.elv paS (gtP b (i:Int).toNat)),(24,.agg [.bool (gtP b (i:Int).toNat).1,.i (gtP b (i:Int).toNat).2.1,.i (gtP b (i:Int).toNat).2.2.1,.sl opS (gtP b (i:Int).toNat).2.2.2]),(25,.bool (smB (gtP a (i:Int).toNat) (gtP b (i:Int).toNat))),(26,.bool !smB (gtP a (i:Int).toNat) (gtP b (i:Int).toNat))],blk:=[] })) (Q [.bool true] [])):=by kernel_rfl
def smlR:List PaT->List PaT->Bool
 | x::a,y::b=>match !smB x y with
  | true=>false
  | false=>smlR a b
 | _,_=>true
def smlB (a b:List PaT):Bool:=match decide ((a.length:Int)≠(b.length:Int)) with
 | true=>false
 | false=>smlR a b
def qlw (a:List PaT):Prop:=a.length<1000000/\∀ p∈a,p.2.2.2.length<1099511627776
def ctSml:Ctr:=⟨[.sl paS,.sl paS],λ x=>qlw x.1,λ x=>[.bool (smlB x.1 x.2.1)],λ _=>[]⟩
theorem cxSl:CxOK Tryz.prog tt G0 [(20,.inl ctSm)]:=cx0.k qp0 (fn:=Tryz.f20)
theorem qzg {a b:List PaT} {v:Bool} (ha:qlw a) (hl:a.length=b.length):∀ (k i:Nat),a.length-i=k->i<=a.length->v=smlR (a.drop i) (b.drop i)->GD 62 Tryz.f62 (λ rs _=>rs=[.bool v]) (hd Tryz.f62 0) ⟨[(0,.sl paS a),(1,.sl paS b),(5,.i (i:Nat))],[]⟩:=by
 intro k
 induction k with
 | zero=>
  intro i hk hi hv;have hi:i=a.length:=by omega
  subst hi;refine qe4 cxSl (qum a b a.length _ _) ?_;rw[decide_eq_false (show ¬ ((a.length:Nat):Int)<(a.length:Int) by omega),bc_f];rw[List.drop_length] at hv;rw[hv];rfl
 | succ k ih=>
  intro i hk hi hv;have hil:i<a.length:=by omega
  have hib:i<b.length:=by omega
  have ha1:=ha.1;refine qe4 cxSl (qum a b i _ _) ?_;rw[decide_eq_true (show (i:Int)<(a.length:Int) by omega),bc_t,IntWalk.i64_in ((i:Int)+1) (by omega)];simp only[Int.toNat_natCast];rw[qg2 hil,qg2 hib,smlR,<- qea hil,<- qea hib] at hv;have hp:(gtP a i).2.2.2.length<1099511627776:=ha.2 _ (by rw[qea hil];exact List.getElem_mem hil);refine ⟨by omega,by omega,by omega,by omega,hp,qag (λ h=>?_) (λ h=>?_)⟩
  ·rw[h] at hv;rw[hv]
  ·rw[h] at hv;exact (ih (i+1) (by omega) (by omega) hv).only ⟨rfl,rfl,rfl,trivial⟩ trivial
theorem qzh:Held Tryz.prog G0 62 ctSml:=Held.of cxSl (fn:=Tryz.f62) rfl rfl ⟨by decide,by decide⟩ λ ⟨a,b,_⟩ hp=>by
 have hp:qlw a:=hp;refine qe4 cxSl (q7m a b _ _) (qag (λ h=>?_) (λ h=>?_))
 ·refine QC.flat ?_ rfl rfl
  show [SV.bool (smlB a b)]=_
  unfold smlB;rw[h]
 ·have hl:=of_decide_eq_false h;have hl:a.length=b.length:=by omega
  refine ((qzg (v:=smlB a b) hp hl _ 0 rfl (Nat.zero_le _) ?_).post λ rs blk hq=>QC.flat (Eq.symm hq) rfl (by rw[hq];rfl)).only ⟨rfl,rfl,rfl,trivial⟩ trivial;unfold smlB;rw[h];rfl
def givP:PaT:=(false,3,5,[(1,0,3,0,[]),(4,0,2,0,[7,8])])
def q3d:Ctr:=⟨[],λ _=>True,λ _=>[.agg [.bool false,.i 3,.i 5,.win true opS 0 0 2]],λ _=>[.row 74 opS givP.2.2.2]⟩
def ctGiv:Ctr:=⟨[],λ _=>True,λ _=>[paV givP],λ _=>[]⟩
theorem givW_held:Held Tryz.prog G0 61 q3d:=by
 refine Held.run cx0 (fn:=Tryz.f61) rfl rfl ⟨by decide,by decide⟩ ?_;rintro ⟨⟩ _;refine (q77 _ _).mpr ⟨by decide,by decide,?_⟩;refine ⟨λ i=>if i=0 then some 4 else none,?_,?_,λ i j b h1 h2=>?_,rfl⟩
 ·exact ⟨_,_,rfl,⟨_,rfl,_,_,rfl,rfl,_,_,rfl,rfl,_,_,rfl,rfl,_,_,rfl,.inl ⟨true,4,rfl,rfl,λ h=>h⟩,rfl⟩,rfl⟩
 ·exact ⟨.inl ⟨4,rfl,rfl⟩,trivial⟩
 ·simp only at h1 h2;split at h1
  ·split at h2
   ·omega
   ·cases h2
  ·cases h1
theorem q02:Held Tryz.prog G0 61 ctGiv:=by
 have h:=givW_held.frz (λ x _=>⟨by simp[q3d,inL,inS,givP],trivial⟩);exact h.iff rfl (λ x h=>h) (λ x _=>rfl) (λ x _=>rfl)
def CSn:CV:=[(61,.inl ctGiv),(32,.inl ctSec),(28,.inl ctSpl),(33,.inl ctJn),(62,.inl ctSml),(20,.inl ctSm)]
theorem cxSn:CxOK Tryz.prog tt G0 CSn:=(((((cx0.k qp0 (fn:=Tryz.f20)).k qzh (fn:=Tryz.f62)).k qxa (fn:=Tryz.f33)).k qze (fn:=Tryz.f28)).k qzk (fn:=Tryz.f32)).k q02 (fn:=Tryz.f61)
set_option maxRecDepth 100000
theorem q3s  (Q:QT) (R:RT):sA CSn Tryz.f24 Q R [.code (qae Tryz.f24)] (entry [] ()) =
  (ctGiv.pre ()/\ctSec.pre (givP,(2:Int),())/\0+1<=((List.replicate (1:Nat) seS.dflt).set (0:Nat) ((ByteArray.mk #[(120:UInt8)]).data.toList,(1:Int),(4:Int),false)).length/\ctSpl.pre (givP,winL seS 0 1 ((List.replicate (1:Nat) seS.dflt).set (0:Nat) ((ByteArray.mk #[(120:UInt8)]).data.toList,(1:Int),(4:Int),false)),())/\0+1<=((List.replicate (1:Nat) seS.dflt).set (0:Nat) ((ByteArray.mk #[(120:UInt8)]).data.toList,(4:Int),(6:Int),false)).length/\ctSpl.pre (givP,winL seS 0 1 ((List.replicate (1:Nat) seS.dflt).set (0:Nat) ((ByteArray.mk #[(120:UInt8)]).data.toList,(4:Int),(6:Int),false)),())/\ctSec.pre (givP,(0:Int),())/\ctJn.pre ([],())/\0+1<=([(7:Int)]:List uB.D).length/\0+1<=([(7:Int)]:List uB.D).length/\0+1<=([(8:Int)]:List uB.D).length/\0+1<=([(8:Int)]:List uB.D).length/\0+1<=([((1:Int),(0:Int),(2:Int),(0:Int),[])]:List opS.D).length/\0+1<=([((1:Int),(0:Int),(2:Int),(0:Int),[])]:List opS.D).length/\0+2<=(((List.replicate (2:Nat) opS.dflt).set (0:Nat) ((1:Int),(2:Int),(1:Int),(0:Int),[])).set (1:Nat) ((4:Int),(0:Int),(1:Int),(0:Int),([(7:Int)]:List uB.D))).length/\0+2<=(((List.replicate (2:Nat) opS.dflt).set (0:Nat) ((1:Int),(2:Int),(1:Int),(0:Int),[])).set (1:Nat) ((4:Int),(0:Int),(1:Int),(0:Int),([(7:Int)]:List uB.D))).length/\0+1<=([((4:Int),(0:Int),(1:Int),(0:Int),([(8:Int)]:List uB.D))]:List opS.D).length/\0+1<=([((4:Int),(0:Int),(1:Int),(0:Int),([(8:Int)]:List uB.D))]:List opS.D).length/\0+3<=((((List.replicate (3:Nat) paS.dflt).set (0:Nat) (false,(3:Int),(2:Int),([((1:Int),(0:Int),(2:Int),(0:Int),[])]:List opS.D))).set (1:Nat) (false,(3:Int),(2:Int),winL opS 0 2 (((List.replicate (2:Nat) opS.dflt).set (0:Nat) ((1:Int),(2:Int),(1:Int),(0:Int),[])).set (1:Nat) ((4:Int),(0:Int),(1:Int),(0:Int),([(7:Int)]:List uB.D))))).set (2:Nat) (false,(3:Int),(1:Int),([((4:Int),(0:Int),(1:Int),(0:Int),winL uB 0 1 ([(8:Int)]:List uB.D))]:List opS.D))).length/\0+3<=((((List.replicate (3:Nat) paS.dflt).set (0:Nat) (false,(3:Int),(2:Int),([((1:Int),(0:Int),(2:Int),(0:Int),[])]:List opS.D))).set (1:Nat) (false,(3:Int),(2:Int),winL opS 0 2 (((List.replicate (2:Nat) opS.dflt).set (0:Nat) ((1:Int),(2:Int),(1:Int),(0:Int),[])).set (1:Nat) ((4:Int),(0:Int),(1:Int),(0:Int),([(7:Int)]:List uB.D))))).set (2:Nat) (false,(3:Int),(1:Int),([((4:Int),(0:Int),(1:Int),(0:Int),winL uB 0 1 ([(8:Int)]:List uB.D))]:List opS.D))).length/\0+3<=((((List.replicate (3:Nat) paS.dflt).set (0:Nat) (false,(3:Int),(2:Int),([((1:Int),(0:Int),(2:Int),(0:Int),[])]:List opS.D))).set (1:Nat) (false,(3:Int),(2:Int),winL opS 0 2 (((List.replicate (2:Nat) opS.dflt).set (0:Nat) ((1:Int),(2:Int),(1:Int),(0:Int),[])).set (1:Nat) ((4:Int),(0:Int),(1:Int),(0:Int),([(7:Int)]:List uB.D))))).set (2:Nat) (false,(3:Int),(1:Int),([((4:Int),(0:Int),(1:Int),(0:Int),winL uB 0 1 ([(8:Int)]:List uB.D))]:List opS.D))).length/\ctJn.pre (winL paS 0 3 ((((List.replicate (3:Nat) paS.dflt).set (0:Nat) (false,(3:Int),(2:Int),([((1:Int),(0:Int),(2:Int),(0:Int),[])]:List opS.D))).set (1:Nat) (false,(3:Int),(2:Int),winL opS 0 2 (((List.replicate (2:Nat) opS.dflt).set (0:Nat) ((1:Int),(2:Int),(1:Int),(0:Int),[])).set (1:Nat) ((4:Int),(0:Int),(1:Int),(0:Int),([(7:Int)]:List uB.D))))).set (2:Nat) (false,(3:Int),(1:Int),([((4:Int),(0:Int),(1:Int),(0:Int),winL uB 0 1 ([(8:Int)]:List uB.D))]:List opS.D))),())/\0+1<=([(7:Int)]:List uB.D).length/\0+1<=([(7:Int)]:List uB.D).length/\0+(secV givP (2:Int)).1.length<=(secV givP (2:Int)).1.length/\ctSml.pre (winL paS 0 (secV givP (2:Int)).1.length (secV givP (2:Int)).1,winL paS 0 3 ((((List.replicate (3:Nat) paS.dflt).set (0:Nat) (false,(3:Int),(2:Int),([((1:Int),(0:Int),(2:Int),(0:Int),[])]:List opS.D))).set (1:Nat) (false,(3:Int),(2:Int),winL opS 0 2 (((List.replicate (2:Nat) opS.dflt).set (0:Nat) ((1:Int),(2:Int),(1:Int),(0:Int),[])).set (1:Nat) ((4:Int),(0:Int),(1:Int),(0:Int),([(7:Int)]:List uB.D))))).set (2:Nat) (false,(3:Int),(1:Int),([((4:Int),(0:Int),(1:Int),(0:Int),winL uB 0 1 ([(8:Int)]:List uB.D))]:List opS.D))),())/\0+2<=(((List.replicate (2:Nat) opS.dflt).set (0:Nat) ((1:Int),(1:Int),(2:Int),(0:Int),[])).set (1:Nat) ((4:Int),(0:Int),(1:Int),(0:Int),([(7:Int)]:List uB.D))).length/\0+2<=(((List.replicate (2:Nat) opS.dflt).set (0:Nat) ((1:Int),(1:Int),(2:Int),(0:Int),[])).set (1:Nat) ((4:Int),(0:Int),(1:Int),(0:Int),([(7:Int)]:List uB.D))).length/\0+2<=(((List.replicate (2:Nat) opS.dflt).set (0:Nat) ((1:Int),(1:Int),(2:Int),(0:Int),[])).set (1:Nat) ((4:Int),(0:Int),(1:Int),(0:Int),([(7:Int)]:List uB.D))).length/\0+2<=(((List.replicate (2:Nat) opS.dflt).set (0:Nat) ((1:Int),(1:Int),(2:Int),(0:Int),[])).set (1:Nat) ((4:Int),(0:Int),(1:Int),(0:Int),([(7:Int)]:List uB.D))).length/\0+(splV givP (winL seS 0 1 ((List.replicate (1:Nat) seS.dflt).set (0:Nat) ((ByteArray.mk #[(120:UInt8)]).data.toList,(1:Int),(4:Int),false)))).1.length<=(splV givP (winL seS 0 1 ((List.replicate (1:Nat) seS.dflt).set (0:Nat) ((ByteArray.mk #[(120:UInt8)]).data.toList,(1:Int),(4:Int),false)))).1.length/\0+1<=([(false,(3:Int),(3:Int),winL opS 0 2 (((List.replicate (2:Nat) opS.dflt).set (0:Nat) ((1:Int),(1:Int),(2:Int),(0:Int),[])).set (1:Nat) ((4:Int),(0:Int),(1:Int),(0:Int),([(7:Int)]:List uB.D))))]:List paS.D).length/\ctSml.pre (winL paS 0 (splV givP (winL seS 0 1 ((List.replicate (1:Nat) seS.dflt).set (0:Nat) ((ByteArray.mk #[(120:UInt8)]).data.toList,(1:Int),(4:Int),false)))).1.length (splV givP (winL seS 0 1 ((List.replicate (1:Nat) seS.dflt).set (0:Nat) ((ByteArray.mk #[(120:UInt8)]).data.toList,(1:Int),(4:Int),false)))).1,([(false,(3:Int),(3:Int),winL opS 0 2 (((List.replicate (2:Nat) opS.dflt).set (0:Nat) ((1:Int),(1:Int),(2:Int),(0:Int),[])).set (1:Nat) ((4:Int),(0:Int),(1:Int),(0:Int),([(7:Int)]:List uB.D))))]:List paS.D),())/\ctSm.pre (((jnV (winL paS 0 3 ((((List.replicate (3:Nat) paS.dflt).set (0:Nat) (false,(3:Int),(2:Int),([((1:Int),(0:Int),(2:Int),(0:Int),[])]:List opS.D))).set (1:Nat) (false,(3:Int),(2:Int),winL opS 0 2 (((List.replicate (2:Nat) opS.dflt).set (0:Nat) ((1:Int),(2:Int),(1:Int),(0:Int),[])).set (1:Nat) ((4:Int),(0:Int),(1:Int),(0:Int),([(7:Int)]:List uB.D))))).set (2:Nat) (false,(3:Int),(1:Int),([((4:Int),(0:Int),(1:Int),(0:Int),winL uB 0 1 ([(8:Int)]:List uB.D))]:List opS.D))))).1),givP,())/\Q [.bool (bif true then smB ((jnV (winL paS 0 3 ((((List.replicate (3:Nat) paS.dflt).set (0:Nat) (false,(3:Int),(2:Int),([((1:Int),(0:Int),(2:Int),(0:Int),[])]:List opS.D))).set (1:Nat) (false,(3:Int),(2:Int),winL opS 0 2 (((List.replicate (2:Nat) opS.dflt).set (0:Nat) ((1:Int),(2:Int),(1:Int),(0:Int),[])).set (1:Nat) ((4:Int),(0:Int),(1:Int),(0:Int),([(7:Int)]:List uB.D))))).set (2:Nat) (false,(3:Int),(1:Int),([((4:Int),(0:Int),(1:Int),(0:Int),winL uB 0 1 ([(8:Int)]:List uB.D))]:List opS.D))))).1) givP else false)] [(1,.var [.bool givP.1,.i givP.2.1,.i givP.2.2.1,.sl opS givP.2.2.2]),(10,.var [.bool (jnV []).1.1,.i (jnV []).1.2.1,.i (jnV []).1.2.2.1,.sl opS (jnV []).1.2.2.2]),(13,.var [.bool (jnV (winL paS 0 3 ((((List.replicate (3:Nat) paS.dflt).set (0:Nat) (false,(3:Int),(2:Int),([((1:Int),(0:Int),(2:Int),(0:Int),[])]:List opS.D))).set (1:Nat) (false,(3:Int),(2:Int),winL opS 0 2 (((List.replicate (2:Nat) opS.dflt).set (0:Nat) ((1:Int),(2:Int),(1:Int),(0:Int),[])).set (1:Nat) ((4:Int),(0:Int),(1:Int),(0:Int),([(7:Int)]:List uB.D))))).set (2:Nat) (false,(3:Int),(1:Int),([((4:Int),(0:Int),(1:Int),(0:Int),winL uB 0 1 ([(8:Int)]:List uB.D))]:List opS.D))))).1.1,.i (jnV (winL paS 0 3 ((((List.replicate (3:Nat) paS.dflt).set (0:Nat) (false,(3:Int),(2:Int),([((1:Int),(0:Int),(2:Int),(0:Int),[])]:List opS.D))).set (1:Nat) (false,(3:Int),(2:Int),winL opS 0 2 (((List.replicate (2:Nat) opS.dflt).set (0:Nat) ((1:Int),(2:Int),(1:Int),(0:Int),[])).set (1:Nat) ((4:Int),(0:Int),(1:Int),(0:Int),([(7:Int)]:List uB.D))))).set (2:Nat) (false,(3:Int),(1:Int),([((4:Int),(0:Int),(1:Int),(0:Int),winL uB 0 1 ([(8:Int)]:List uB.D))]:List opS.D))))).1.2.1,.i (jnV (winL paS 0 3 ((((List.replicate (3:Nat) paS.dflt).set (0:Nat) (false,(3:Int),(2:Int),([((1:Int),(0:Int),(2:Int),(0:Int),[])]:List opS.D))).set (1:Nat) (false,(3:Int),(2:Int),winL opS 0 2 (((List.replicate (2:Nat) opS.dflt).set (0:Nat) ((1:Int),(2:Int),(1:Int),(0:Int),[])).set (1:Nat) ((4:Int),(0:Int),(1:Int),(0:Int),([(7:Int)]:List uB.D))))).set (2:Nat) (false,(3:Int),(1:Int),([((4:Int),(0:Int),(1:Int),(0:Int),winL uB 0 1 ([(8:Int)]:List uB.D))]:List opS.D))))).1.2.2.1,.sl opS (jnV (winL paS 0 3 ((((List.replicate (3:Nat) paS.dflt).set (0:Nat) (false,(3:Int),(2:Int),([((1:Int),(0:Int),(2:Int),(0:Int),[])]:List opS.D))).set (1:Nat) (false,(3:Int),(2:Int),winL opS 0 2 (((List.replicate (2:Nat) opS.dflt).set (0:Nat) ((1:Int),(2:Int),(1:Int),(0:Int),[])).set (1:Nat) ((4:Int),(0:Int),(1:Int),(0:Int),([(7:Int)]:List uB.D))))).set (2:Nat) (false,(3:Int),(1:Int),([((4:Int),(0:Int),(1:Int),(0:Int),winL uB 0 1 ([(8:Int)]:List uB.D))]:List opS.D))))).1.2.2.2]),(15,.var [.bool false,.i 3,.i 3,.sl opS (winL opS 0 2 (((List.replicate (2:Nat) opS.dflt).set (0:Nat) ((1:Int),(1:Int),(2:Int),(0:Int),[])).set (1:Nat) ((4:Int),(0:Int),(1:Int),(0:Int),([(7:Int)]:List uB.D))))]),(82,.row 31 paS ([(false,(3:Int),(3:Int),winL opS 0 2 (((List.replicate (2:Nat) opS.dflt).set (0:Nat) ((1:Int),(1:Int),(2:Int),(0:Int),[])).set (1:Nat) ((4:Int),(0:Int),(1:Int),(0:Int),([(7:Int)]:List uB.D))))]:List paS.D)),(1077824,.row 31 paS (secV givP (2:Int)).1),(1106496,.row 31 paS (splV givP (winL seS 0 1 ((List.replicate (1:Nat) seS.dflt).set (0:Nat) ((ByteArray.mk #[(120:UInt8)]).data.toList,(1:Int),(4:Int),false)))).1),(1135168,.row 31 paS (splV givP (winL seS 0 1 ((List.replicate (1:Nat) seS.dflt).set (0:Nat) ((ByteArray.mk #[(120:UInt8)]).data.toList,(4:Int),(6:Int),false)))).1),(1155648,.row 31 paS (secV givP (0:Int)).1)]):=by kernel_rfl
def ctSn12:Ctr:=⟨[],λ _=>True,λ _=>[.bool true],λ _=>[]⟩
instance (a:List PaT):Decidable (qlw a):=by unfold qlw;infer_instance
theorem qzf (R:List Item->PS->Prop):sA CSn Tryz.f24 (QC ctSn12 ()) R [.code (qae Tryz.f24)] (entry [] ()):=by
 refine (q3s _ _).mpr ?_
 repeat' first
  | exact trivial
  | decide +kernel
  | refine And.intro ?_ ?_
  | (refine QC.flat ?_ rfl rfl)
  | (show List.length _<1099511627776;decide +kernel)
  | (show List.length _<1000000;decide +kernel)
  | (show qlw _;decide +kernel)
  | (show ∀ s∈_,List.length _<2 ^ 62;decide +kernel)
  | (refine congrArg (λ b=>[SV.bool b]) ?_;decide +kernel)
theorem qvj:Held Tryz.prog G0 24 ctSn12:=Held.run cxSn (fn:=Tryz.f24) rfl rfl ⟨by decide,by decide⟩ λ x _=>qzf _
abbrev qat (l:List (Int × List (List Int))) (i:Nat):Int × List (List Int):=gt raS l i
def CMy:CV:=[(10,.inl ctM6),(40,.inl ctSz),(38,.inl ctRw)]
set_option maxRecDepth 100000
theorem q32 (x:List (Int × List (List Int))) (n:Int) (Q:QT) (R:RT):sA CMy Tryz.f34 Q R [.code (qae Tryz.f34)] (entry [.sl raS,iI] (x,n,())) =
  (R (hd Tryz.f34 0) { env:=[(0,.sl (uB.pair a4S.sl) x),(1,.i n),(4,.nils),(5,.win true paS 7 0 (0:Nat)),(6,.i 0),(7,.win true paS 7 0 (0:Nat))],blk:=[(7,.row 31 paS (List.replicate (0:Nat) paS.dflt))] }):=by kernel_rfl
theorem qrc (x:List (Int × List (List Int))) (n:Int) (o:List PaT) (i:Nat) (Q:QT) (R:RT):sA CMy Tryz.f34 Q R (hd Tryz.f34 0) ⟨[(0,.sl raS x),(1,.i n),(5,.win true paS 77 0 o.length),(6,.i (i:Nat))],[(77,.row 31 paS o)]⟩ =
  (bc (decide ((i:Int)<(x.length:Int))) (bc (decide ((i:Int)<n)) (bc (decide ((i:Int)=(0:Int))) ((0:Int)<=(i:Int)/\(i:Int)<(x.length:Int)/\ctM6.pre (((qat x (i:Int).toNat).1,(qat x (i:Int).toNat).2),())/\0+1<=([(szV (qat x (i:Int).toNat).2 ((qat x (i:Int).toNat).1 % (13:Int)))]:List paS.D).length/\o.length=o.length/\(0:Nat)=(0:Nat)/\o.length+(([(szV (qat x (i:Int).toNat).2 ((qat x (i:Int).toNat).1 % (13:Int)))]:List paS.D)).length<2 ^ 30/\(48:Nat)<=2 ^ 10/\R (hd Tryz.f34 0) { env:=[(0,.sl (uB.pair a4S.sl) x),(1,.i n),(5,.win true paS 28 0 (o.length+(([(szV (qat x (i:Int).toNat).2 ((qat x (i:Int).toNat).1 % (13:Int)))]:List paS.D)).length)),(6,.i (IntKind.i64.wrap ((i:Int)+1))),(8,.i (i:Int)),(9,.sl (uB.pair a4S.sl) x),(10,.i (x.length:Int)),(11,.bool (decide ((i:Int)<(x.length:Int)))),(12,.bool true),(13,.i (i:Int)),(14,.i n),(15,.bool (decide ((i:Int)<n))),(16,.bool (decide ((i:Int)<n))),(17,.i (i:Int)),(18,.i (IntKind.i64.wrap ((i:Int)+1))),(19,.i (i:Int)),(20,.bool (decide ((i:Int)=(0:Int)))),(21,.dead),(22,.sl (uB.pair a4S.sl) x),(23,.i (i:Int)),(24,.elv (uB.pair a4S.sl) (qat x (i:Int).toNat)),(25,.agg [.u (qat x (i:Int).toNat).1,.sl a4S (qat x (i:Int).toNat).2]),(26,.agg [.bool (szV (qat x (i:Int).toNat).2 ((qat x (i:Int).toNat).1 % (13:Int))).1,.i (szV (qat x (i:Int).toNat).2 ((qat x (i:Int).toNat).1 % (13:Int))).2.1,.i (szV (qat x (i:Int).toNat).2 ((qat x (i:Int).toNat).1 % (13:Int))).2.2.1,.sl opS (szV (qat x (i:Int).toNat).2 ((qat x (i:Int).toNat).1 % (13:Int))).2.2.2]),(27,.win true paS 27 0 (1:Nat)),(28,.win true paS 28 0 (o.length+(([(szV (qat x (i:Int).toNat).2 ((qat x (i:Int).toNat).1 % (13:Int)))]:List paS.D)).length))],blk:=[(27,.row 31 paS ([(szV (qat x (i:Int).toNat).2 ((qat x (i:Int).toNat).1 % (13:Int)))]:List paS.D)),(28,.row 31 paS (o++([(szV (qat x (i:Int).toNat).2 ((qat x (i:Int).toNat).1 % (13:Int)))]:List paS.D)))] }) ((0:Int)<=(i:Int)/\(i:Int)<(x.length:Int)/\(0:Int)<=0/\(0:Int)<(o.length:Int)/\0+0<o.length/\ctSz.pre (((qat x (i:Int).toNat).1,(qat x (i:Int).toNat).2),(gtP o (0+0)).2.1,())/\0+1<=([(szV (qat x (i:Int).toNat).2 (gtP o (0+0)).2.1)]:List paS.D).length/\o.length=o.length/\(0:Nat)=(0:Nat)/\o.length+(([(szV (qat x (i:Int).toNat).2 (gtP o (0+0)).2.1)]:List paS.D)).length<2 ^ 30/\(48:Nat)<=2 ^ 10/\R (hd Tryz.f34 0) { env:=[(0,.sl (uB.pair a4S.sl) x),(1,.i n),(5,.win true paS 40 0 (o.length+(([(szV (qat x (i:Int).toNat).2 (gtP o (0+0)).2.1)]:List paS.D)).length)),(6,.i (IntKind.i64.wrap ((i:Int)+1))),(8,.i (i:Int)),(9,.sl (uB.pair a4S.sl) x),(10,.i (x.length:Int)),(11,.bool (decide ((i:Int)<(x.length:Int)))),(12,.bool true),(13,.i (i:Int)),(14,.i n),(15,.bool (decide ((i:Int)<n))),(16,.bool (decide ((i:Int)<n))),(17,.i (i:Int)),(18,.i (IntKind.i64.wrap ((i:Int)+1))),(19,.i (i:Int)),(20,.bool (decide ((i:Int)=(0:Int)))),(29,.dead),(30,.sl (uB.pair a4S.sl) x),(31,.i (i:Int)),(32,.elv (uB.pair a4S.sl) (qat x (i:Int).toNat)),(33,.agg [.u (qat x (i:Int).toNat).1,.sl a4S (qat x (i:Int).toNat).2]),(34,.dead),(35,.dead),(36,.dead),(37,.i (gtP o (0+0)).2.1),(38,.agg [.bool (szV (qat x (i:Int).toNat).2 (gtP o (0+0)).2.1).1,.i (szV (qat x (i:Int).toNat).2 (gtP o (0+0)).2.1).2.1,.i (szV (qat x (i:Int).toNat).2 (gtP o (0+0)).2.1).2.2.1,.sl opS (szV (qat x (i:Int).toNat).2 (gtP o (0+0)).2.1).2.2.2]),(39,.win true paS 39 0 (1:Nat)),(40,.win true paS 40 0 (o.length+(([(szV (qat x (i:Int).toNat).2 (gtP o (0+0)).2.1)]:List paS.D)).length))],blk:=[(39,.row 31 paS ([(szV (qat x (i:Int).toNat).2 (gtP o (0+0)).2.1)]:List paS.D)),(40,.row 31 paS (o++([(szV (qat x (i:Int).toNat).2 (gtP o (0+0)).2.1)]:List paS.D)))] })) (bc (decide ((o.length:Int)=(0:Int))) (ctRw.pre ((3:Int),())/\Q [.win true paS 45 0 (1:Nat)] [(45,.row 31 paS ([(rwV (3:Int))]:List paS.D)),(77,.row 31 paS o)]) (Q [.win true paS 77 0 o.length] [(77,.row 31 paS o)]))) (false=false/\bc (decide ((o.length:Int)=(0:Int))) (ctRw.pre ((3:Int),())/\Q [.win true paS 45 0 (1:Nat)] [(45,.row 31 paS ([(rwV (3:Int))]:List paS.D)),(77,.row 31 paS o)]) (Q [.win true paS 77 0 o.length] [(77,.row 31 paS o)]))):=by kernel_rfl
abbrev RaT:Type:=Int × List (List Int)
def mnL (x:List RaT):Nat->List PaT
 | 0=>[]
 | i+1=>mnL x i++[match decide ((i:Int)=0) with
  | true=>szV (qat x i).2 ((qat x i).1 % 13)
  | false=>szV (qat x i).2 (gtP (mnL x i) 0).2.1]
def mnK (x:List RaT) (n:Int):Nat:=min x.length n.toNat
def mnV (x:List RaT) (n:Int):List PaT:=match decide (((mnL x (mnK x n)).length:Int)=0) with
 | true=>[rwV 3]
 | false=>mnL x (mnK x n)
def qtf (x:List RaT) (n:Int):Prop:=(∀ j,qv7 (qat x j).1 (qat x j).2)/\n<=1000
def ctMn:Ctr:=⟨[.sl raS,iI],λ x=>qtf x.1 x.2.1,λ x=>[.win true paS 0 0 (mnV x.1 x.2.1).length],λ x=>[.row 31 paS (mnV x.1 x.2.1)]⟩
theorem cxMy:CxOK Tryz.prog tt G0 CMy:=((cx0.k q47 (fn:=Tryz.f38)).k qu9 (fn:=Tryz.f40)).k qtr (fn:=Tryz.f10)
theorem qni (x:List RaT):∀ i,(mnL x i).length=i
 | 0=>rfl
 | i+1=>by rw[mnL,List.length_append,qni x i];rfl
theorem q55 {x:List RaT}:∀ {i},0<i->(gtP (mnL x i) 0).2.1=(qat x 0).1 % 13
 | 1,_=>rfl
 | i+2,_=>by
  have:=q55 (x:=x) (i:=i+1) (by omega);have hl:=qni x (i+1);rw[mnL,qea (by rw[List.length_append];omega),List.getElem_append_left (by omega),<- qea (by omega)];exact this
abbrev GDmn (x:List RaT) (n:Int) (it:List Item) (S:PS):Prop:=GD 34 Tryz.f34 (QC ctMn (x,n,())) it S
theorem q54 {x:List RaT} {n:Int} (hx:qtf x n):∀ (k i:Nat),mnK x n-i=k->i<=mnK x n->GDmn x n (hd Tryz.f34 0) ⟨[(0,.sl raS x),(1,.i n),(5,.win true paS 77 0 (mnL x i).length),(6,.i (i:Nat))],[(77,.row 31 paS (mnL x i))]⟩:=by
 obtain ⟨hx,hn⟩:=hx;intro k
 induction k with
 | zero=>
  intro i hk hi;have hi:i=mnK x n:=by omega
  have fin:bc (decide (((mnL x i).length:Int)=0)) (ctRw.pre ((3:Int),())/\∀ blk,lk blk 45=some (.row 31 paS [rwV 3])->QC ctMn (x,n,()) [.win true paS 45 0 1] blk) (∀ blk,lk blk 77=some (.row 31 paS (mnL x i))->QC ctMn (x,n,()) [.win true paS 77 0 (mnL x i).length] blk):=by
   refine qag (λ h=>⟨trivial,λ blk hb=>?_⟩) (λ h blk hb=>?_)
   ·have hv:mnV x n=[rwV 3]:=by unfold mnV;rw[<- hi,h]
    exact qon (e:=paS) (et:=31) (a:=45) (xs:=mnV x n) rfl rfl rfl (by rw[hv];rfl) (by rw[hv];exact hb)
   ·have hv:mnV x n=mnL x i:=by unfold mnV;rw[<- hi,h]
    exact qon (e:=paS) (et:=31) (a:=77) (xs:=mnV x n) rfl rfl rfl (by rw[hv]) (by rw[hv];exact hb)
  refine qe4 cxMy (qrc x n (mnL x i) i _ _) ?_;have hK:¬ ((i:Int)<x.length/\(i:Int)<n):=by
   unfold mnK at hi;omega
  refine qag (λ h=>qag (λ h2=>absurd ⟨of_decide_eq_true h,of_decide_eq_true h2⟩ hK) (λ h2=>?_)) (λ h=>⟨rfl,?_⟩)
  all_goals
   revert fin;refine λ fin=>?_
   cases hz:decide (((mnL x i).length:Int)=0) with
   | true=>rw[hz] at fin;exact ⟨fin.1,fin.2 _ rfl⟩
   | false=>rw[hz] at fin;exact fin _ rfl
 | succ k ih=>
  intro i hk hi;have hK:(i:Int)<x.length/\(i:Int)<n:=by
   unfold mnK at hk;omega
  have hl:=qni x i;refine qe4 cxMy (qrc x n (mnL x i) i _ _) ?_;have nx:=ih (i+1) (by omega) (by omega);rw[decide_eq_true hK.1,bc_t,decide_eq_true hK.2,bc_t,IntWalk.i64_in ((i:Int)+1) (by omega)];simp only[Int.toNat_natCast];refine qag (λ h=>?_) (λ h=>?_)
  ·rw[mnL,h] at nx;refine ⟨by omega,by omega,hx i,by simp,by trivial,by trivial,?_,by omega,?_⟩
   ·show (mnL x i).length+1<2 ^ 30
    omega
   ·refine nx.onlyR [(77,28)] rfl ⟨rfl,rfl,?_,rfl,trivial⟩ ⟨rfl,trivial⟩;rw[List.length_append];rfl
  ·have h0:¬ (i:Int)=0:=of_decide_eq_false h;have hm:=q55 (x:=x) (i:=i) (by omega);have hs:q82 (qat x i).2 (gtP (mnL x i) (0+0)).2.1:=⟨(hx i).2.1,by show preN (gtP (mnL x i) 0).2.1;rw[hm];exact ⟨by omega,by omega⟩,(hx i).2.2⟩;rw[mnL,h] at nx;refine ⟨by omega,by omega,by omega,by omega,by omega,hs,by simp,by trivial,by trivial,?_,by omega,?_⟩
   ·show (mnL x i).length+1<2 ^ 30
    omega
   ·refine nx.onlyR [(77,40)] rfl ⟨rfl,rfl,?_,rfl,trivial⟩ ⟨rfl,trivial⟩;rw[List.length_append];rfl
theorem mn_held:Held Tryz.prog G0 34 ctMn:=Held.of cxMy (fn:=Tryz.f34) rfl rfl ⟨by decide,by decide⟩ λ ⟨x,n,_⟩ hp=>by
 refine qe4 cxMy (q32 x n _ _) ?_;exact (q54 hp _ 0 rfl (Nat.zero_le _)).onlyR [(77,7)] rfl ⟨rfl,rfl,rfl,rfl,trivial⟩ ⟨rfl,trivial⟩
def CQ:CV:=[(65,.inl ctPl),(63,.inl ctSym)]
theorem cxQ:CxOK Tryz.prog tt G0 CQ:=(cx0.k sym_held (fn:=Tryz.f63)).k q5g (fn:=Tryz.f65)
theorem qy0 (old:List Int) (li:Bool) (m o:Int) (l:List OpT) (Q:QT) (R:RT):sA CQ Tryz.f27 Q R [.code (qae Tryz.f27)] (entry [.sl uB,paS] (old,(li,m,o,l),())) =
  (ctSym.pre ((li,m,o,l),())/\bc (decide ((symV (li,m,o,l)).2≠0)) (Q [.nils,.i (symV (li,m,o,l)).2] [(3,.var [.bool li,.i m,.i o,.sl opS l]),(1040960,.row 83 syS (symV (li,m,o,l)).1)]) (bc li False ((0:Nat)+(symV (li,m,o,l)).1.length<=(symV (li,m,o,l)).1.length/\ctPl.pre (old,m,winL syS 0 (symV (li,m,o,l)).1.length (symV (li,m,o,l)).1,())/\Q [.win true uB 1118784 0 (plV old m (winL syS 0 (symV (li,m,o,l)).1.length (symV (li,m,o,l)).1)).1.length,.i (plV old m (winL syS 0 (symV (li,m,o,l)).1.length (symV (li,m,o,l)).1)).2] [(3,.var [.bool li,.i m,.i o,.sl opS l]),(1040960,.row 83 syS (symV (li,m,o,l)).1),(1118784,.row 5 uB (plV old m (winL syS 0 (symV (li,m,o,l)).1.length (symV (li,m,o,l)).1)).1)]))):=by kernel_rfl
def apV (old:List Int) (p:PaT):List Int × Int:=if (symV p).2=0 then plV old p.2.1 (symV p).1 else ([],(symV p).2)
def ctAp:Ctr:=⟨[.sl uB,paS],λ x=>x.2.1.1=false,λ x=>[.win true uB 0 0 (apV x.1 x.2.1).1.length,.i (apV x.1 x.2.1).2],λ x=>[.row 5 uB (apV x.1 x.2.1).1]⟩
theorem ap_held:Held Tryz.prog G0 27 ctAp:=by
 refine Held.run cxQ (fn:=Tryz.f27) rfl rfl ⟨by decide,by decide⟩ ?_;rintro ⟨old,⟨li,m,o,l⟩,⟨⟩⟩ hp;replace hp:li=false:=hp;subst hp;refine (qy0 old false m o l _ _).mpr ⟨trivial,qag (λ h=>?_) (λ h=>?_)⟩
 ·have h:(symV (false,m,o,l)).2≠0:=of_decide_eq_true h;have hv:apV old (false,m,o,l)=([],(symV (false,m,o,l)).2):=if_neg h;refine qde (e:=uB) (et:=5) (z:=(symV (false,m,o,l)).2) ?_ ?_ rfl (by decide)
  ·show [_,_]=_;rw[hv];rfl
  ·show [_]=_;rw[hv]
 ·have h:¬ (symV (false,m,o,l)).2≠0:=of_decide_eq_false h;have h:(symV (false,m,o,l)).2=0:=by simpa using h
  have hv:apV old (false,m,o,l)=plV old m (symV (false,m,o,l)).1:=if_pos h;have hl:=qy7 (false,m,o,l);have hw:winL syS 0 (symV (false,m,o,l)).1.length (symV (false,m,o,l)).1=(symV (false,m,o,l)).1:=winA (e:=syS) _;rw[bc_f,hw];refine ⟨Nat.le_of_eq (Nat.zero_add _),hl,?_⟩;refine qgs (e:=uB) (et:=5) (a:=1118784) (z:=(plV old m (symV (false,m,o,l)).1).2) (xs:=(plV old m (symV (false,m,o,l)).1).1) ?_ ?_ rfl rfl rfl
  ·show [_,_]=_;rw[hv]
  ·show [_]=_;rw[hv]
def ctMnF:Ctr:=⟨[.sl raS,iI],λ x=>qtf x.1 x.2.1,λ x=>[.sl paS (mnV x.1 x.2.1)],λ _=>[]⟩
def ctInG:Ctr:=⟨[.sl uB,iI],λ x=>preI x.2.1,λ x=>[.sl uB (inpL x.1 x.2.1.toNat)],λ _=>[]⟩
def ctApF:Ctr:=⟨[.sl uB,paS],λ x=>x.2.1.1=false,λ x=>[.sl uB (apV x.1 x.2.1).1,.i (apV x.1 x.2.1).2],λ _=>[]⟩
def CSj:CV:=[(24,.inl ctSn12),(34,.inl ctMnF),(26,.inl ctInG),(33,.inl ctJn),(27,.inl ctApF),(30,.inl ctR2),(20,.inl ctSm),(31,.inl ctCost)]
set_option maxRecDepth 100000
theorem vc_sj (x:List (Int × List (List Int))) (b:List Int) (k:Int) (Q:List SV->Prop) (R:List Item->PS->Prop):sA CSj Tryz.f6 (λ rs _=>Q rs) R [.code (qae Tryz.f6)] (entry [.sl raS,.sl uB,uB] (x,b,k,())) =
  (ctSn12.pre ()/\ctMnF.pre (x,(4:Int),())/\(0:Int)<=0/\(0:Int)<(↑(mnV x (4:Int)).length:Int)/\ctInG.pre (b,(gtP (mnV x (4:Int)) (0)).2.1,())/\ctJn.pre (mnV x (4:Int),())/\ctApF.pre (inpL b (Int.toNat (gtP (mnV x (4:Int)) (0)).2.1),((jnV (mnV x (4:Int))).1),())/\bc (decide ((jnV (mnV x (4:Int))).2≠0)) (true=true/\Q [.bool false]) (bc (bif false then true else decide ((apV (inpL b (Int.toNat (gtP (mnV x (4:Int)) (0)).2.1)) ((jnV (mnV x (4:Int))).1)).2≠0)) (Q [.bool false]) (R (hd Tryz.f6 0) { env:=[(0,.sl (uB.pair a4S.sl) x),(1,.sl uB b),(2,.u k),(6,.bool false),(7,.bool true),(8,.sl paS (mnV x (4:Int))),(9,.sl uB (inpL b (Int.toNat (gtP (mnV x (4:Int)) (0)).2.1))),(10,.ptr 10 0),(11,.i (jnV (mnV x (4:Int))).2),(12,.sl uB (apV (inpL b (Int.toNat (gtP (mnV x (4:Int)) (0)).2.1)) ((jnV (mnV x (4:Int))).1)).1),(13,.i (apV (inpL b (Int.toNat (gtP (mnV x (4:Int)) (0)).2.1)) ((jnV (mnV x (4:Int))).1)).2),(14,.win true uB 52 0 (0:Nat)),(15,.i 0),(16,.i 0),(26,.bool true),(27,.sl (uB.pair a4S.sl) x),(28,.sl paS (mnV x (4:Int))),(29,.sl uB b),(30,.sl paS (mnV x (4:Int))),(31,.elv paS (gtP (mnV x (4:Int)) (0))),(32,.elv iI (gtP (mnV x (4:Int)) (0)).2.1),(33,.i (gtP (mnV x (4:Int)) (0)).2.1),(34,.sl uB (inpL b (Int.toNat (gtP (mnV x (4:Int)) (0)).2.1))),(35,SV.tup [.agg [.bool (jnV (mnV x (4:Int))).1.1,.i (jnV (mnV x (4:Int))).1.2.1,.i (jnV (mnV x (4:Int))).1.2.2.1,.sl opS (jnV (mnV x (4:Int))).1.2.2.2],.i (jnV (mnV x (4:Int))).2]),(36,.sl paS (mnV x (4:Int))),(37,SV.tup [.agg [.bool (jnV (mnV x (4:Int))).1.1,.i (jnV (mnV x (4:Int))).1.2.1,.i (jnV (mnV x (4:Int))).1.2.2.1,.sl opS (jnV (mnV x (4:Int))).1.2.2.2],.i (jnV (mnV x (4:Int))).2]),(38,.agg [.bool (jnV (mnV x (4:Int))).1.1,.i (jnV (mnV x (4:Int))).1.2.1,.i (jnV (mnV x (4:Int))).1.2.2.1,.sl opS (jnV (mnV x (4:Int))).1.2.2.2]),(39,.i (jnV (mnV x (4:Int))).2),(40,SV.tup [.sl uB (apV (inpL b (Int.toNat (gtP (mnV x (4:Int)) (0)).2.1)) ((jnV (mnV x (4:Int))).1)).1,.i (apV (inpL b (Int.toNat (gtP (mnV x (4:Int)) (0)).2.1)) ((jnV (mnV x (4:Int))).1)).2]),(41,.sl uB (inpL b (Int.toNat (gtP (mnV x (4:Int)) (0)).2.1))),(42,.agg [.bool (jnV (mnV x (4:Int))).1.1,.i (jnV (mnV x (4:Int))).1.2.1,.i (jnV (mnV x (4:Int))).1.2.2.1,.sl opS (jnV (mnV x (4:Int))).1.2.2.2]),(43,SV.tup [.sl uB (apV (inpL b (Int.toNat (gtP (mnV x (4:Int)) (0)).2.1)) ((jnV (mnV x (4:Int))).1)).1,.i (apV (inpL b (Int.toNat (gtP (mnV x (4:Int)) (0)).2.1)) ((jnV (mnV x (4:Int))).1)).2]),(44,.sl uB (apV (inpL b (Int.toNat (gtP (mnV x (4:Int)) (0)).2.1)) ((jnV (mnV x (4:Int))).1)).1),(45,.i (apV (inpL b (Int.toNat (gtP (mnV x (4:Int)) (0)).2.1)) ((jnV (mnV x (4:Int))).1)).2),(46,.i (jnV (mnV x (4:Int))).2),(47,.bool (decide ((jnV (mnV x (4:Int))).2≠0))),(48,.bool false),(49,.i (apV (inpL b (Int.toNat (gtP (mnV x (4:Int)) (0)).2.1)) ((jnV (mnV x (4:Int))).1)).2),(50,.bool (decide ((apV (inpL b (Int.toNat (gtP (mnV x (4:Int)) (0)).2.1)) ((jnV (mnV x (4:Int))).1)).2≠0))),(51,.bool (bif false then true else decide ((apV (inpL b (Int.toNat (gtP (mnV x (4:Int)) (0)).2.1)) ((jnV (mnV x (4:Int))).1)).2≠0))),(52,.win true uB 52 0 (0:Nat))],blk:=[(10,.var [.bool (jnV (mnV x (4:Int))).1.1,.i (jnV (mnV x (4:Int))).1.2.1,.i (jnV (mnV x (4:Int))).1.2.2.1,.sl opS (jnV (mnV x (4:Int))).1.2.2.2]),(52,.row 5 uB (List.replicate (0:Nat) uB.dflt))] }))):=by kernel_rfl
theorem q2a (p:PaT) (l:List PaT) (k:Int) (old got o:List Int) (c:Int) (i:Nat) (Q:List SV->Prop) (R:List Item->PS->Prop):sA CSj Tryz.f6 (λ rs _=>Q rs) R (hd Tryz.f6 0) ⟨[(2,.u k),(6,.bool false),(7,.bool true),(8,.sl paS l),(9,.sl uB old),(10,.ptr 10 0),(12,.sl uB got),(14,.win true uB 77 0 o.length),(15,.i c),(16,.i (i:Nat))],[(10,.var [.bool p.1,.i p.2.1,.i p.2.2.1,.sl opS p.2.2.2]),(77,.row 5 uB o)]⟩ =
  (bc (decide ((i:Int)<(l.length:Int))) ((0:Int)<=(i:Int)/\(i:Int)<(l.length:Int)/\ctApF.pre (old,(gtP l (i:Int).toNat),())/\bc (decide ((apV old (gtP l (i:Int).toNat)).2≠0)) (Q [.bool false]) (o.length=o.length/\(0:Nat)=(0:Nat)/\o.length+(apV old (gtP l (i:Int).toNat)).1.length<2 ^ 30/\(1:Nat)<=2 ^ 10/\(0:Int)<=(i:Int)/\(i:Int)<(l.length:Int)/\ctCost.pre ((gtP l (i:Int).toNat),())/\R (hd Tryz.f6 0) { env:=[(2,.u k),(6,.bool false),(7,.bool true),(8,.sl paS l),(9,.sl uB old),(10,.ptr 10 0),(12,.sl uB got),(14,.win true uB 72 0 (o.length+(apV old (gtP l (i:Int).toNat)).1.length)),(15,.i (i64.wrap (c+qey (0:Int) (gtP l (i:Int).toNat).2.2.2))),(16,.i (i64.wrap ((i:Int)+1))),(17,.sl uB (apV old (gtP l (i:Int).toNat)).1),(18,.i (apV old (gtP l (i:Int).toNat)).2),(53,.i (i:Int)),(54,.sl paS l),(55,.i (l.length:Int)),(56,.bool (decide ((i:Int)<(l.length:Int)))),(57,.i (i:Int)),(58,.i (i64.wrap ((i:Int)+1))),(59,SV.tup [.sl uB (apV old (gtP l (i:Int).toNat)).1,.i (apV old (gtP l (i:Int).toNat)).2]),(60,.sl uB old),(61,.sl paS l),(62,.i (i:Int)),(63,.elv paS (gtP l (i:Int).toNat)),(64,.agg [.bool (gtP l (i:Int).toNat).1,.i (gtP l (i:Int).toNat).2.1,.i (gtP l (i:Int).toNat).2.2.1,.sl opS (gtP l (i:Int).toNat).2.2.2]),(65,SV.tup [.sl uB (apV old (gtP l (i:Int).toNat)).1,.i (apV old (gtP l (i:Int).toNat)).2]),(66,.sl uB (apV old (gtP l (i:Int).toNat)).1),(67,.i (apV old (gtP l (i:Int).toNat)).2),(68,.i (apV old (gtP l (i:Int).toNat)).2),(69,.bool (decide ((apV old (gtP l (i:Int).toNat)).2≠0))),(70,.dead),(71,.sl uB (apV old (gtP l (i:Int).toNat)).1),(72,.win true uB 72 0 (o.length+(apV old (gtP l (i:Int).toNat)).1.length)),(73,.i c),(74,.sl paS l),(75,.i (i:Int)),(76,.elv paS (gtP l (i:Int).toNat)),(77,.agg [.bool (gtP l (i:Int).toNat).1,.i (gtP l (i:Int).toNat).2.1,.i (gtP l (i:Int).toNat).2.2.1,.sl opS (gtP l (i:Int).toNat).2.2.2]),(78,.i (qey (0:Int) (gtP l (i:Int).toNat).2.2.2)),(79,.i (i64.wrap (c+qey (0:Int) (gtP l (i:Int).toNat).2.2.2)))],blk:=[(10,.var [.bool p.1,.i p.2.1,.i p.2.2.1,.sl opS p.2.2.2]),(72,.row 5 uB (o++(apV old (gtP l (i:Int).toNat)).1))] })) (0+o.length<=o.length/\ctR2.pre (got,winL uB 0 o.length o,())/\bc (!decide ((have this:=got;this)=winL uB 0 o.length o)) (true=true/\Q [.bool false]) (ctCost.pre (p,())/\bc (bif false then true else decide (c<qey (0:Int) p.2.2.2)) (Q [.bool false]) (bc (decide ((l.length:Int)<2)) (Q [.bool true]) (i64.wrap ((l.length:Int)-1)≠0/\(0:Int)<=i64.wrap ((1:Int)+(i64.wrap k).tmod (i64.wrap ((l.length:Int)-1)))/\i64.wrap ((1:Int)+(i64.wrap k).tmod (i64.wrap ((l.length:Int)-1)))<=(l.length:Int)/\ctJn.pre (List.take (i64.wrap ((1:Int)+(i64.wrap k).tmod (i64.wrap ((l.length:Int)-1)))).toNat l,())/\(0:Int)<=i64.wrap ((1:Int)+(i64.wrap k).tmod (i64.wrap ((l.length:Int)-1)))/\i64.wrap ((1:Int)+(i64.wrap k).tmod (i64.wrap ((l.length:Int)-1)))<=(l.length:Int)/\ctJn.pre (List.drop (i64.wrap ((1:Int)+(i64.wrap k).tmod (i64.wrap ((l.length:Int)-1)))).toNat l,())/\0+2<=([((jnV (List.take (i64.wrap ((1:Int)+(i64.wrap k).tmod (i64.wrap ((l.length:Int)-1)))).toNat l)).1),((jnV (List.drop (i64.wrap ((1:Int)+(i64.wrap k).tmod (i64.wrap ((l.length:Int)-1)))).toNat l)).1)]:List paS.D).length/\ctJn.pre (([((jnV (List.take (i64.wrap ((1:Int)+(i64.wrap k).tmod (i64.wrap ((l.length:Int)-1)))).toNat l)).1),((jnV (List.drop (i64.wrap ((1:Int)+(i64.wrap k).tmod (i64.wrap ((l.length:Int)-1)))).toNat l)).1)]:List paS.D),())/\bc (decide ((jnV (List.take (i64.wrap ((1:Int)+(i64.wrap k).tmod (i64.wrap ((l.length:Int)-1)))).toNat l)).2=(0:Int))) (bc (decide ((jnV (List.drop (i64.wrap ((1:Int)+(i64.wrap k).tmod (i64.wrap ((l.length:Int)-1)))).toNat l)).2=(0:Int))) (bc (decide ((jnV (([((jnV (List.take (i64.wrap ((1:Int)+(i64.wrap k).tmod (i64.wrap ((l.length:Int)-1)))).toNat l)).1),((jnV (List.drop (i64.wrap ((1:Int)+(i64.wrap k).tmod (i64.wrap ((l.length:Int)-1)))).toNat l)).1)]:List paS.D))).2=(0:Int))) (ctSm.pre (((jnV (([((jnV (List.take (i64.wrap ((1:Int)+(i64.wrap k).tmod (i64.wrap ((l.length:Int)-1)))).toNat l)).1),((jnV (List.drop (i64.wrap ((1:Int)+(i64.wrap k).tmod (i64.wrap ((l.length:Int)-1)))).toNat l)).1)]:List paS.D))).1),p,())/\bc (bif true then smB ((jnV (([((jnV (List.take (i64.wrap ((1:Int)+(i64.wrap k).tmod (i64.wrap ((l.length:Int)-1)))).toNat l)).1),((jnV (List.drop (i64.wrap ((1:Int)+(i64.wrap k).tmod (i64.wrap ((l.length:Int)-1)))).toNat l)).1)]:List paS.D))).1) p else false) (Q [.bool true]) (false=false/\Q [.bool false])) (false=false/\false=false/\Q [.bool false])) (false=false/\false=false/\false=false/\Q [.bool false])) (false=false/\false=false/\false=false/\false=false/\Q [.bool false])))))):=by kernel_rfl
abbrev nfP (li:Bool) (m:Int) (s:List SyT):PaT:=(li,m,(s.length:Int),chL s)
theorem nf_ok {s:List SyT} {m:Int} (li:Bool) (hr:∀ x∈s,sOK m x=true) (h0:0<=m) (h1:m<=65536) (hl:s.length<=4096):(chkV (nfP li m s)).2=0/\symF (chL s)=s/\symV (nfP li m s)=(s,0):=by
 obtain ⟨q1,q2,q3,q4,q5,q6⟩:=qv9 hr h0 h1 hl;have q6:(chkV (nfP li m s)).2=0:=q6;refine ⟨q6,q2,?_⟩;unfold symV;rw[if_pos q6];exact Prod.ext q2 rfl
def okJ (l:List PaT) (m:Int):Prop:=(0<=m/\m<=65536)/\(∀ p∈l,(chkV p).2=0/\p.1=false/\p.2.1=m)/\(ayaF l).length<=4096
theorem q3f:∀ {l:List PaT},(∀ p∈l,(chkV p).2=0)->ckaF l=0
 | [],_=>rfl
 | p::l,h=>by
  rw[ckaF,decide_eq_false (by rw[h p (List.mem_cons_self ..)];simp)];exact q3f λ q hq=>h q (List.mem_cons_of_mem _ hq)
theorem qoc {p:PaT} (h:(chkV p).2=0):(symV p).2=0/\((symV p).1.length:Int)=p.2.2.1:=by
 have hs:(symV p).2=0:=by unfold symV;rw[if_pos h]
 exact ⟨hs,(qc7 hs).2.2⟩
theorem q22 {m:Int}:∀ {l:List PaT} {n:Int},(∀ p∈l,(chkV p).2=0/\p.1=false/\p.2.1=m)->((ayaF l).length:Int)<=n->lenF m l n=0
 | [],_,_,_=>rfl
 | p::l,n,h,hn=>by
  have hp:=h p (List.mem_cons_self ..);have hl:=(qoc hp.1).2;have hn:(((symV p).1++ayaF l).length:Int)<=n:=hn;rw[List.length_append] at hn;rw[lenF,decide_eq_false (by rw[hp.2.2];simp),decide_eq_false (by omega)];exact q22 (λ q hq=>h q (List.mem_cons_of_mem _ hq)) (by omega)
theorem qnz {l:List PaT} {m:Int} (h:okJ l m):∀ x∈ayaF l,sOK m x=true:=by
 intro x hx;obtain ⟨p,hp,hx⟩:=List.mem_flatMap.1 hx;have hq:=h.2.1 p hp;have:=(qc7 (qoc hq.1).1).1 x hx;rw[hq.2.2] at this;exact this
theorem cj_0 {l:List PaT} {m:Int} (h0:0<l.length) (h:okJ l m):cjV l=0/\(gtP l 0).1=false/\(gtP l 0).2.1=m:=by
 have hg:=h.2.1 (gtP l 0) (by rw[qea h0];exact List.getElem_mem h0);have h4:=h.2.2;have ho:l.any (othB l)=false:=by
  rw[List.any_eq_false];intro p hp;unfold othB;rw[(h.2.1 p hp).2.1,hg.2.1];decide
 refine ⟨?_,hg.2.1,hg.2.2⟩;unfold cjV;rw[decide_eq_false (by omega),decide_eq_false (by rw[q3f λ p hp=>(h.2.1 p hp).1];simp),ho,hg.2.2];exact q22 h.2.1 (by omega)
theorem qmc {l:List PaT} {m:Int} (h0:0<l.length) (h:okJ l m):jnV l=((false,m,((ayaF l).length:Int),chL (ayaF l)),0):=by
 obtain ⟨e1,e2,e3⟩:=cj_0 h0 h;have e4:=q9t (qnz h) h.1.1 h.1.2 h.2.2;unfold jnV;rw[decide_eq_false (by rw[e1];simp),e3,e4,e2,decide_eq_false (by simp)]
theorem q0o {l:List PaT} {m:Int} (h:okJ l m):(chkV (false,m,((ayaF l).length:Int),chL (ayaF l))).2=0/\symV (false,m,((ayaF l).length:Int),chL (ayaF l))=(ayaF l,0):=by
 have:=nf_ok false (qnz h) h.1.1 h.1.2 h.2.2;exact ⟨this.1,this.2.2⟩
theorem qwl {l k:List PaT} {m:Int} (h:okJ l m) (hk:∀ p∈k,p∈l) (hl:(ayaF k).length<=(ayaF l).length):okJ k m:=⟨h.1,λ p hp=>h.2.1 p (hk p hp),Nat.le_trans hl h.2.2⟩
theorem qua (l:List PaT) (n:Nat):ayaF (l.take n)++ayaF (l.drop n)=ayaF l:=by
 unfold ayaF;rw[<- List.flatMap_append,List.take_append_drop]
theorem qxb {l:List PaT} {m:Int} (h:okJ l m) {n:Nat} (h1:0<n) (h2:n<l.length) :
  (jnV (l.take n)).2=0/\(jnV (l.drop n)).2=0/\jnV [(jnV (l.take n)).1,(jnV (l.drop n)).1]=jnV l:=by
 have hs:=qua l n;have hlen:(ayaF (l.take n)).length+(ayaF (l.drop n)).length=(ayaF l).length:=by rw[<- hs,List.length_append]
 have ha:okJ (l.take n) m:=qwl h (λ p hp=>List.mem_of_mem_take hp) (by omega);have hb:okJ (l.drop n) m:=qwl h (λ p hp=>List.mem_of_mem_drop hp) (by omega);have ea:=qmc (by rw[List.length_take];omega) ha;have eb:=qmc (by rw[List.length_drop];omega) hb;have ka:=q0o ha;have kb:=q0o hb;have e2:ayaF [(jnV (l.take n)).1,(jnV (l.drop n)).1]=ayaF l:=by
  rw[ea,eb]
  show (symV _).1++((symV _).1++[])=_
  rw[ka.2,kb.2,List.append_nil,hs]
 have h3:okJ [(jnV (l.take n)).1,(jnV (l.drop n)).1] m:=by
  refine ⟨h.1,λ p hp=>?_,by rw[e2];exact h.2.2⟩;rw[ea,eb] at hp;rcases List.mem_cons.1 hp with rfl | hp
  ·exact ⟨ka.1,rfl,rfl⟩
  ·rw[List.mem_singleton] at hp;subst hp;exact ⟨kb.1,rfl,rfl⟩
 refine ⟨by rw[ea],by rw[eb],?_⟩;rw[qmc (by simp) h3,e2,qmc (by omega) h]
def cS:List PaT->Int
 | []=>0
 | p::l=>qey 0 p.2.2.2+cS l
theorem qx7:∀ (a b:List PaT),cS (a++b)=cS a+cS b
 | [],b=>by simp[cS]
 | p::a,b=>by rw[List.cons_append,cS,cS,qx7 a b];omega
theorem cst_p {p:PaT} (h:(chkV p).2=0):cst (symV p).1<=qey 0 p.2.2.2:=by
 have ck:=qe0 h;have hs:=qoc h;have hr:=qc7 hs.1;have e:(symV p).1=symF p.2.2.2:=(qpz hs.1).2;have hl:=ck.2.2.2;rw[qjv ck.1 (by omega) (by omega),Int.zero_add,e];rw[e] at hr;exact q3l (by omega) hr.2.1.1 ck.1 (by have:=hr.2.2;omega) hr.1
theorem qx0:∀ {l:List PaT},(∀ p∈l,(chkV p).2=0)->(ayaF l).length<=65536->cst (ayaF l)<=cS l
 | [],_,_=>by show cst []<=0;decide +kernel
 | p::l,h,hl=>by
  have hp:=cst_p (h p (List.mem_cons_self ..));have e:ayaF (p::l)=(symV p).1++ayaF l:=rfl;rw[e] at hl |-;have h1:=q6s (symV p).1.length (symV p).1 (ayaF l) (Nat.le_refl _) hl;rw[List.length_append] at hl;have h2:=qx0 (l:=l) (λ q hq=>h q (List.mem_cons_of_mem _ hq)) (by omega);rw[cS];omega
theorem q3k {old:List Int} {p:PaT} (h:(chkV p).2=0) (ho:(old.length:Int)=p.2.1):apV old p=((symV p).1.map (ruB old),0):=by
 have hs:=qoc h;unfold apV;rw[if_pos hs.1];unfold plV;rw[if_pos ho];unfold runV;rw[if_pos];refine List.all_eq_true.2 λ x hx=>?_
 have:=(qc7 hs.1).1 x hx;rw[<- ho] at this;unfold sOK at this;unfold ruOK;split at this
 next q=>rw[q];simpa using this
 next q=>simp[q]
theorem qr2 {x:List RaT} (hx:∀ j,qv7 (qat x j).1 (qat x j).2):∀ i,(∀ p∈mnL x i,∃ t,qll t/\p=szV t ((qat x 0).1 % 13))
 | 0,p,hp=>by cases hp
 | i+1,p,hp=>by
  rw[mnL] at hp;rcases List.mem_append.1 hp with hp | hp
  ·exact qr2 hx i p hp
  ·rw[List.mem_singleton] at hp;subst hp;refine ⟨(qat x i).2,(hx i).2.1,?_⟩;by_cases h:(i:Int)=0
   ·have h:i=0:=by omega
    subst h;rfl
   ·rw[decide_eq_false h,q55 (by omega)]
theorem q8l {t:List (List Int)} {m:Int} (ht:qll t) (h0:0<=m) (h1:m<=65536):(chkV (szV t m)).2=0/\(symV (szV t m)).1.length<=30:=by
 have hc:(chkV (szV t m)).2=0:=by rw[q4m ht h0 h1]
 have:=(qoc hc).2;have h2:=qva ht h0;refine ⟨hc,?_⟩;have:((symV (szV t m)).1.length:Int)=lenS (szO t m):=this;omega
theorem q7e {l:List PaT} (h:∀ p∈l,(symV p).1.length<=30):(ayaF l).length<=30*l.length:=by
 induction l with
 | nil=>exact Nat.le_refl _
 | cons p l ih=>
  have h1:=h p (List.mem_cons_self ..);have h2:=ih λ q hq=>h q (List.mem_cons_of_mem _ hq)
  show ((symV p).1++ayaF l).length<=_
  rw[List.length_append,List.length_cons];omega
theorem mn_ok {x:List RaT} (hx:qtf x 4):∃ m,(0<=m/\m<=12)/\okJ (mnV x 4) m/\0<(mnV x 4).length/\(mnV x 4).length<=4:=by
 have hk:mnK x 4<=4:=by unfold mnK;omega
 have hlen:=qni x (mnK x 4);unfold mnV
 cases hz:decide (((mnL x (mnK x 4)).length:Int)=0) with
 | true=>
  refine ⟨3,by omega,⟨by omega,λ p hp=>?_,?_⟩,by simp,by simp⟩
  ·have hp:p∈[rwV 3]:=hp;rw[List.mem_singleton] at hp;subst hp;exact ⟨by decide +kernel,by decide +kernel,by decide +kernel⟩
  ·show (ayaF [rwV 3]).length<=4096
   decide +kernel
 | false=>
  have hz:=of_decide_eq_false hz;have hf:=qr2 hx.1 (mnK x 4);refine ⟨(qat x 0).1 % 13,by omega,⟨by omega,λ p hp=>?_,?_⟩,by show 0<(mnL x (mnK x 4)).length;omega,by show (mnL x (mnK x 4)).length<=4;omega⟩
  ·obtain ⟨t,ht,rfl⟩:=hf p hp;exact ⟨(q8l ht (by omega) (by omega)).1,rfl,rfl⟩
  ·have:=q7e (l:=mnL x (mnK x 4)) λ p hp=>by
    obtain ⟨t,ht,rfl⟩:=hf p hp;exact (q8l ht (by omega) (by omega)).2
   show (ayaF (mnL x (mnK x 4))).length<=4096
   omega
theorem q0e:Held Tryz.prog G0 34 ctMnF:=by
 have h:=mn_held.frz (λ x _=>by
  show inL 0 (mnV x.1 x.2.1).length [SV.win true paS 0 0 (mnV x.1 x.2.1).length]/\True
  exact ⟨⟨λ _=>by omega,trivial⟩,trivial⟩)
 refine h.iff rfl (λ x h=>h) (λ x _=>?_) (λ x _=>rfl)
 show [SV.sl paS (mnV x.1 x.2.1)]=[SV.sl paS (winL paS 0 (mnV x.1 x.2.1).length (mnV x.1 x.2.1))]
 rw[winA (e:=paS)]
theorem q0u:Held Tryz.prog G0 26 ctInG:=by
 have h:=inp_held.frz (λ x _=>by
  show inL 0 (inpL x.1 x.2.1.toNat).length [SV.win true uB 0 0 (inpL x.1 x.2.1.toNat).length]/\True
  exact ⟨⟨λ _=>by omega,trivial⟩,trivial⟩)
 refine h.iff rfl (λ x h=>h) (λ x _=>?_) (λ x _=>rfl)
 show [SV.sl uB (inpL x.1 x.2.1.toNat)]=[SV.sl uB (winL uB 0 (inpL x.1 x.2.1.toNat).length (inpL x.1 x.2.1.toNat))]
 rw[winA (e:=uB)]
theorem q1q:Held Tryz.prog G0 27 ctApF:=by
 have h:=ap_held.frz (λ x _=>by
  show inL 0 (apV x.1 x.2.1).1.length [SV.win true uB 0 0 (apV x.1 x.2.1).1.length,SV.i (apV x.1 x.2.1).2]/\True
  exact ⟨⟨λ _=>by omega,⟨trivial,trivial⟩⟩,trivial⟩)
 refine h.iff rfl (λ x h=>h) (λ x _=>?_) (λ x _=>rfl)
 show [SV.sl uB (apV x.1 x.2.1).1,SV.i (apV x.1 x.2.1).2]=[SV.sl uB (winL uB 0 (apV x.1 x.2.1).1.length (apV x.1 x.2.1).1),SV.i (apV x.1 x.2.1).2]
 rw[winA (e:=uB)]
theorem cxSj:CxOK Tryz.prog tt G0 CSj:=(((((((cx0.k qx3 (fn:=Tryz.f31)).k qp0 (fn:=Tryz.f20)).k q49 (fn:=Tryz.f30)).k q1q (fn:=Tryz.f27)).k qxa (fn:=Tryz.f33)).k q0u (fn:=Tryz.f26)).k q0e (fn:=Tryz.f34)).k qvj (fn:=Tryz.f24)
theorem qzi (p:PaT):smB p p=true:=by
 have:∀ l:List OpT,smL l l=true:=by
  intro l
  induction l with
  | nil=>rfl
  | cons x l ih=>rw[smL,ih,Bool.and_true];unfold soB;simp
 unfold smB;simp[this]
theorem qnw {p:PaT} (h:(chkV p).2=0):(∀ y∈p.2.2.2,k14 y)/\List.length p.2.2.2<1099511627776:=by
 have ck:=qe0 h;exact ⟨qtb ck.1,by have:=ck.2.2.2;omega⟩
abbrev GDsj (it:List Item) (S:PS):Prop:=GD 6 Tryz.f6 (λ rs _=>rs=[.bool true]) it S
theorem cS_b:∀ {l:List PaT},(∀ p∈l,(chkV p).2=0)->0<=cS l/\cS l<=300000000*l.length
 | [],_=>⟨Int.le_refl _,by simp[cS]⟩
 | p::l,h=>by
  have hp:=h p (List.mem_cons_self ..);have ck:=qe0 hp;obtain ⟨a,b⟩:=cS_b (l:=l) λ q hq=>h q (List.mem_cons_of_mem _ hq)
  have hl:=ck.2.2.2;have e:=qjv (s:=0) ck.1 (by omega) (by omega);have e2:∀ {o:List OpT} {m:Int},(∀ x∈o,isRB x m=true)->0<=qil o/\qil o<=65540*o.length:=by
   intro o m
   induction o with
   | nil=>intro _;exact ⟨Int.le_refl _,by simp[qil]⟩
   | cons y o ih=>
    intro hy;have h1:=q9y (hy y (by simp));have h2:=ih λ z hz=>hy z (by simp[hz])
    rw[qil,List.length_cons];omega
  have e3:=e2 ck.1;rw[cS,List.length_cons,e];omega
theorem q43 {l:List PaT} {k m:Int} {old:List Int} (hok:okJ l m) (h0:0<l.length) (h4:l.length<=4) (ho:(old.length:Int)=m) (hk:0<=k/\k<256):∀ (j i:Nat) (o:List Int) (c:Int),l.length-i=j->i<=l.length->o=(ayaF (l.take i)).map (ruB old)->c=cS (l.take i) ->
  GDsj (hd Tryz.f6 0) ⟨[(2,.u k),(6,.bool false),(7,.bool true),(8,.sl paS l),(9,.sl uB old),(10,.ptr 10 0),(12,.sl uB ((ayaF l).map (ruB old))),(14,.win true uB 77 0 o.length),(15,.i c),(16,.i (i:Nat))],[(10,.var [.bool false,.i m,.i ((ayaF l).length:Int),.sl opS (chL (ayaF l))]),(77,.row 5 uB o)]⟩:=by
 intro j
 induction j with
 | zero=>
  intro i o c hj hi he hc;have hi:i=l.length:=by omega
  subst hi;rw[List.take_length] at he hc;subst he;subst hc;have hjn:=q0o hok;have hcost:qey 0 (chL (ayaF l))<=cS l:=by
   rw[q6u (qnz hok) hok.1.1 hok.1.2 hok.2.2];exact qx0 (λ p hp=>(hok.2.1 p hp).1) (by have:=hok.2.2;omega)
  have hlen:((ayaF l).map (ruB old)).length<1099511627776:=by rw[List.length_map];have:=hok.2.2;omega
  refine qe4 cxSj (q2a (false,m,((ayaF l).length:Int),chL (ayaF l)) l k old ((ayaF l).map (ruB old)) ((ayaF l).map (ruB old)) (cS l) l.length _ _) ?_;rw[decide_eq_false (show ¬ ((l.length:Nat):Int)<(l.length:Int) by omega),bc_f,winA];simp only[eq_self,decide_true,Bool.not_true,bc_f,cond_false];rw[decide_eq_false (show ¬ cS l<qey 0 (chL (ayaF l)) by omega),bc_f];refine ⟨by omega,hlen,qnw hjn.1,qag (λ _=>by trivial) (λ h2=>?_)⟩;have h2:=of_decide_eq_false h2;obtain ⟨n,h1,hn,e⟩:∃ n:Nat,0<n/\n<l.length/\IntKind.i64.wrap ((1:Int)+(IntKind.i64.wrap k).tmod (IntKind.i64.wrap ((l.length:Int)-(1:Int))))=(n:Int):=by
   rw[IntWalk.i64_in k (by omega),IntWalk.i64_in ((l.length:Int)-1) (by omega),Int.tmod_eq_emod_of_nonneg (by omega)];have a1:=Int.emod_nonneg k (show (l.length:Int)-1≠0 by omega);have a2:=Int.emod_lt_of_pos k (show 0<(l.length:Int)-1 by omega);refine ⟨(1+k % ((l.length:Int)-1)).toNat,by omega,by omega,?_⟩;rw[IntWalk.i64_in _ (by omega)];omega
  obtain ⟨g1,g2,g3⟩:=qxb hok h1 hn;rw[e];simp only[Int.toNat_natCast];have pT:(l.take n).length<1000000:=by rw[List.length_take];omega
  have pD:(l.drop n).length<1000000:=by rw[List.length_drop];omega
  have e3:=qmc h0 hok;rw[IntWalk.i64_in ((l.length:Int)-1) (by omega)];refine ⟨by omega,by omega,by omega,pT,by omega,by omega,pD,by simp,(by show 2<1000000;omega),?_⟩;have q5:(chL (ayaF l)).length<1099511627776:=(qnw hjn.1).2;simp only[g1,g2,g3,e3,decide_true,bc_t,qzi,cond_true];exact ⟨q5,trivial⟩
 | succ j ih=>
  intro i o c hj hi he hc;have hil:i<l.length:=by omega
  have hmem:gtP l i∈l:=by rw[qea hil];exact List.getElem_mem hil
  have hq:=hok.2.1 _ hmem;have ea:=q3k (old:=old) hq.1 (by rw[ho,hq.2.2]);have hb:=cS_b (l:=l) λ p hp=>(hok.2.1 p hp).1
  have hs:cS (l.take (i+1))=cS (l.take i)+qey 0 (gtP l i).2.2.2:=by
   rw[List.take_succ_eq_append_getElem hil,qx7,<- qea hil,cS,cS];omega
  have hrest:cS (l.take (i+1))+cS (l.drop (i+1))=cS l:=by rw[<- qx7,List.take_append_drop]
  have hb2:=cS_b (l:=l.take (i+1)) λ p hp=>(hok.2.1 p (List.mem_of_mem_take hp)).1
  have hb3:=cS_b (l:=l.drop (i+1)) λ p hp=>(hok.2.1 p (List.mem_of_mem_drop hp)).1
  have hA:=qq0 (l:=l) (i+1);rw[qee hil,List.length_append] at hA;have hok4:=hok.2.2;have nx:=ih (i+1) (o++(symV (gtP l i)).1.map (ruB old)) (c+qey 0 (gtP l i).2.2.2) (by omega) (by omega) (by rw[he,qee hil,List.map_append]) (by rw[hs,hc]);have hol:o.length=(ayaF (l.take i)).length:=by rw[he,List.length_map]
  refine qe4 cxSj (q2a (false,m,((ayaF l).length:Int),chL (ayaF l)) l k old ((ayaF l).map (ruB old)) o c i _ _) ?_;rw[decide_eq_true (show (i:Int)<(l.length:Int) by omega),bc_t,IntWalk.i64_in ((i:Int)+1) (by omega)];simp only[Int.toNat_natCast,ea,ne_eq,not_true_eq_false,decide_false,bc_f];have hml:((symV (gtP l i)).1.map (ruB old)).length=(symV (gtP l i)).1.length:=List.length_map ..;rw[IntWalk.i64_in (c+qey 0 (gtP l i).2.2.2) (by omega)];refine ⟨by omega,by omega,hq.2.1,by trivial,by trivial,?_,by omega,by omega,by omega,qnw hq.1,?_⟩
  ·show o.length+((symV (gtP l i)).1.map (ruB old)).length<2 ^ 30
   omega
  ·refine nx.onlyR [(77,72)] rfl ⟨rfl,rfl,rfl,rfl,rfl,rfl,rfl,?_,rfl,rfl,trivial⟩ ⟨rfl,rfl,trivial⟩;rw[List.length_append];rfl
def preSj (x:List RaT) (k:Int):Prop:=qtf x 4/\(0<=k/\k<256)
def ctSj:Ctr:=⟨[.sl raS,.sl uB,uB],λ x=>preSj x.1 x.2.2.1,λ _=>[.bool true],λ _=>[]⟩
theorem q8w (x:List RaT) (b:List Int) (k:Int) (hx:qtf x 4) (hk:0<=k/\k<256):GDsj [.code (qae Tryz.f6)] (entry [.sl raS,.sl uB,uB] (x,b,k,())):=by
 obtain ⟨m,⟨m0,m1⟩,hok,h0,h4⟩:=mn_ok hx;refine qe4 cxSj (vc_sj x b k _ _) ?_;generalize mnV x 4=l at *;have e1:=qmc h0 hok;have hj:=q0o hok;have hg:=(cj_0 h0 hok).2.2;have hin:(inpL b m.toNat).length=m.toNat:=qsb _ _;have ea:=q3k (old:=inpL b m.toNat) hj.1 (by show (((inpL b m.toNat).length:Nat):Int)=m;omega);have pI:preI m:=⟨by omega,by omega⟩;have pl:l.length<1000000:=by omega
 have g:=q43 (old:=inpL b m.toNat) (k:=k) hok h0 h4 (by omega) hk _ 0 [] 0 rfl (Nat.zero_le _) rfl rfl;simp only[hg,e1,ea,hj.2,ne_eq,not_true_eq_false,decide_false,cond_false,bc_f];refine ⟨trivial,hx,by omega,by omega,pI,pl,rfl,?_⟩;exact g.onlyR [(77,52)] rfl ⟨rfl,rfl,rfl,rfl,rfl,rfl,rfl,rfl,rfl,rfl,trivial⟩ ⟨rfl,rfl,trivial⟩
theorem q44:Held Tryz.prog G0 6 ctSj:=Held.of cxSj (fn:=Tryz.f6) rfl rfl ⟨by decide,by decide⟩ λ ⟨x,b,k,_⟩ hp=>(q8w x b k hp.1 hp.2).post λ rs blk hq=>QC.flat (by rw[hq];rfl) rfl (by rw[hq];rfl)
abbrev u8L (b:List Int):Prop:=∀ j,0<=gtB b j/\gtB b j<256
def preXz (x:List RaT):Prop:=∀ j,qv7 (qat x j).1 (qat x j).2
theorem q4k {n:Int} (h:wfD uB n):0<=n/\n<256:=by
 have h:(Lit.int IntKind.u8 n).wf=true:=h;simp[Lit.wf,IntKind.min,IntKind.max,IntKind.signed,IntKind.bits] at h;omega
theorem q4l {l:List Int} (h:∀ x∈l,wfD uB x):u8L l:=λ j=>by
 by_cases hj:j<l.length
 ·rw[qo8 hj];exact q4k (h _ (List.getElem_mem hj))
 ·have:gtB l j=0:=by
   show gt uB _ _=_
   unfold gt;rw[List.getElem?_eq_none (by omega)];rfl
  rw[this];decide
theorem l4_of {l:List (List Int)} (h:∀ x∈l,wfD a4S x):qll l:=λ j=>by
 by_cases hj:j<l.length
 ·have e:gt a4S l j=l[j]:=gtE (e:=a4S) hj;rw[e];exact q4l (h _ (List.getElem_mem hj)).2
 ·have:gt a4S l j=List.replicate 4 (0:Int):=by
   unfold gt;rw[List.getElem?_eq_none (by omega)];rfl
  rw[this];exact q4l λ x hx=>by
   rw[List.eq_of_mem_replicate hx];rfl
theorem x_of {x:List (Int × List (List Int))} (h:∀ r∈x,wfD raS r):preXz x:=λ j=>by
 by_cases hj:j<x.length
 ·have e:qat x j=x[j]:=gtE (e:=raS) hj;rw[e];have k:=h _ (List.getElem_mem hj);exact ⟨q4k k.1,l4_of k.2.2,k.2.1⟩
 ·have:qat x j=((0:Int),([]:List (List Int))):=by
   unfold qat gt;rw[List.getElem?_eq_none (by omega)];rfl
  rw[this];exact ⟨⟨Int.le_refl 0,by decide⟩,λ k i=>by rw[show gt a4S ([]:List (List Int)) k=List.replicate 4 (0:Int) from rfl];exact q4l (λ x hx=>by rw[List.eq_of_mem_replicate hx];rfl) i,by decide⟩
theorem que {g:Nat} {x:ABlk} (h:rawG.get g=some x):(g=0/\x=.cells qhz 222 2)\/(g=1/\x=.cells qht 230 2):=by
 unfold rawG T.get at h;split at h
 next e=>cases h;exact .inl ⟨e,rfl⟩
 next h0=>
  split at h
  next h1=>
   unfold T.get at h;split at h
   next h2=>cases h;exact .inr ⟨by omega,rfl⟩
   ·split at h <;> simp[T.get] at h
  ·simp[T.get] at h
theorem hG:Glob G0.raw:=⟨λ g x h=>by rcases que h with ⟨rfl,_⟩ | ⟨rfl,_⟩ <;> decide,λ g x h=>by rcases que h with ⟨_,rfl⟩ | ⟨_,rfl⟩ <;> decide⟩
abbrev H0:AHeap:=⟨qlm,G0.raw⟩
def Z0:Nat->Option ABlk:=λ g=>rawG.get g
theorem gz0:GZ Z0 G0:=by
 refine ⟨λ g x e=>?_,λ g x e=>e⟩;simp only[G0,lk] at e;split at e
 next h=>subst h;cases e;refine ⟨by decide,λ ν=>⟨0,0,qhz,222,2,rfl,rfl,by decide,?_⟩⟩;exact qvo (.arr 5 coS) costsL ⟨rfl,λ x _=>⟨trivial,trivial⟩⟩
 ·split at e
  next h=>subst h;cases e;refine ⟨by decide,λ ν=>⟨1,0,qht,230,2,rfl,rfl,by decide,?_⟩⟩;exact qvo (.arr 9 kindSh) kindsL ⟨rfl,λ x _=>⟨trivial,trivial,trivial,trivial,trivial⟩⟩
  ·cases e
theorem fro0:Px.Fro G0 H0:=⟨λ i x h=>by rcases que h with ⟨rfl,rfl⟩ | ⟨rfl,rfl⟩ <;> rfl,λ i x h=>by rcases que h with ⟨rfl,rfl⟩ | ⟨rfl,rfl⟩ <;> trivial,λ i x h=>by rcases que h with ⟨rfl,rfl⟩ | ⟨rfl,rfl⟩ <;> decide,gz0⟩
end Go.Proofs.YtdeacfammdjajaaGreatDoor
