/-
  A part of the proof: what pieces of the program give; conditions: those of each theorem.
-/
import Derived.Test.YtdlnmlepljepjaaQ1
import Derived.Test.YtdlnmlepljepjaaHD
set_option linter.unusedVariables false
set_option linter.unusedSimpArgs false
namespace Go.Proofs.Ytdlnmlepljepjaa
open Go.Px Go.Ax
set_option maxRecDepth 100000
attribute [local irreducible] Go.Px.sy Go.Px.syE
def cA (m:Int) (b:List Int):List Int × Int:=match isM m with
 | true=>match decide (65536<(b.length:Int)) with
  | true=>([],2)
  | false=>(qdh m.toNat b,0)
 | false=>([],130)
theorem qlq (m:Int) (b:List Int):(encA m b).2.1<=(encA m b).1.length/\winL uB 0 (encA m b).2.1 (encA m b).1=(cA m b).1/\(encA m b).2.2=(cA m b).2:=by
 unfold encA cA encG
 cases isM m with
 | false=>exact ⟨Nat.le_refl _,rfl,rfl⟩
 | true=>
  cases decide (65536<(b.length:Int)) with
  | true=>exact ⟨Nat.le_refl _,rfl,rfl⟩
  | false=>exact ⟨(ql0 (outG m.toNat b) _ (Nat.le_refl _)).1,rfl,rfl⟩
def ctEncF:Ctr:=⟨[iI,.sl uB],λ x=>byL x.2.1,λ x=>[.sl uB (cA x.1 x.2.1).1,.i (cA x.1 x.2.1).2],λ _=>[]⟩
def ctDecF:Ctr:=⟨[iI,.sl uB,iI],λ x=>List.length x.2.1<1099511627776,λ x=>[.sl uB (decA x.1 x.2.1 x.2.2.1).1,.i (decA x.1 x.2.1 x.2.2.1).2],λ _=>[]⟩
def qyt:Ctr:=⟨[iI,.sl uB],λ x=>byL x.2.1,λ x=>[.i ((cA x.1 x.2.1).1.length:Nat),.i (cA x.1 x.2.1).2],λ _=>[]⟩
theorem quz:Held Try.prog G0 17 ctEncF:=by
 have h:=enc_held.frz (λ x _=>by
  show inL 0 (encA x.1 x.2.1).1.length [SV.win false uB 0 0 (encA x.1 x.2.1).2.1,SV.i (encA x.1 x.2.1).2.2]/\True
  exact ⟨⟨λ _=>by have:=(qlq x.1 x.2.1).1;omega,⟨trivial,trivial⟩⟩,trivial⟩)
 refine h.iff rfl (λ x h=>h) (λ x _=>?_) (λ x _=>rfl)
 show [SV.sl uB (cA x.1 x.2.1).1,SV.i (cA x.1 x.2.1).2]=[SV.sl uB (winL uB 0 (encA x.1 x.2.1).2.1 (encA x.1 x.2.1).1),SV.i (encA x.1 x.2.1).2.2]
 rw[(qlq x.1 x.2.1).2.1,(qlq x.1 x.2.1).2.2]
theorem qu7:Held Try.prog G0 19 ctDecF:=by
 have h:=dec_held.frz (λ x _=>by
  show inL 0 (decA x.1 x.2.1 x.2.2.1).1.length [SV.win true uB 0 0 (decA x.1 x.2.1 x.2.2.1).1.length,SV.i (decA x.1 x.2.1 x.2.2.1).2]/\True
  exact ⟨⟨λ _=>by omega,⟨trivial,trivial⟩⟩,trivial⟩)
 refine h.iff rfl (λ x h=>h) (λ x _=>?_) (λ x _=>rfl)
 show [SV.sl uB (decA x.1 x.2.1 x.2.2.1).1,SV.i (decA x.1 x.2.1 x.2.2.1).2]=[SV.sl uB (winL uB 0 (decA x.1 x.2.1 x.2.2.1).1.length (decA x.1 x.2.1 x.2.2.1).1),SV.i (decA x.1 x.2.1 x.2.2.1).2]
 rw[show winL uB 0 (decA x.1 x.2.1 x.2.2.1).1.length (decA x.1 x.2.1 x.2.2.1).1=(decA x.1 x.2.1 x.2.2.1).1 from List.take_length]
theorem qte:Held Try.prog G0 18 qyt:=by
 refine siz_held.iff rfl (λ x h=>h) (λ x _=>?_) (λ x _=>rfl)
 show [SV.i ((cA x.1 x.2.1).1.length:Nat),SV.i (cA x.1 x.2.1).2]=[SV.i (encA x.1 x.2.1).2.1,SV.i (encA x.1 x.2.1).2.2]
 have e:(cA x.1 x.2.1).1.length=(encA x.1 x.2.1).2.1:=by
  rw[<- (qlq x.1 x.2.1).2.1]
  show (List.take _ _).length=_
  rw[List.length_take];exact Nat.min_eq_left (qlq x.1 x.2.1).1
 rw[e,(qlq x.1 x.2.1).2.2]
def CL:CV:=[(14,.inl ctSan),(17,.inl ctEncF),(19,.inl ctDecF),(18,.inl qyt),(15,.inl ctLim)]
set_option maxRecDepth 100000
theorem q2v (g:Nat):∀ (xs:List Int),byL xs->∀ (D:Nat->Tb) (z:Nat) (l:List Int) (lo w:Int),DOK D->WI l lo w->(eG g xs D z l lo w).1.length<=l.length+4*xs.length:=by
 intro xs
 induction xs with
 | nil=>intro _ D z l lo w _ _;exact Nat.le_refl _
 | cons y xs ih=>
  intro hy D z l lo w hD hW;obtain ⟨x,rfl⟩:=Int.eq_ofNat_of_zero_le (hy y (List.mem_cons_self ..)).1;have hx:=(hy x (List.mem_cons_self ..)).2;obtain ⟨s1,s,s2,s3,_⟩:=qjs (b:=[]) (λ _ h=>by cases h) hW (hD (atD g z)) (x:=x) (by omega);rw[eG];have:=ih (λ a ha=>hy a (List.mem_cons_of_mem _ ha)) (nxD g D z x) (x:Int).toNat _ _ _ (qob hD z (by omega)) s1;rw[List.length_cons];omega
theorem q0t (g:Nat) {b:List Int} (hb:byL b):(qdh g b).length<=4*b.length+4:=by
 have h:=(qkl g hb).2.2.1;have:=q2v g b hb D0 0 [] 0 4294967295 qwz wi_0;rw[List.length_nil] at this;omega
theorem q23 {m:Int} (h0:0<=m) (h2:m<=2) {b:List Int} (h6:b.length<=65536):cA m b=(qdh m.toNat b,0):=by
 unfold cA;rw[q2k h0 h2,decide_eq_false (by omega)]
theorem qu8 {m:Int} (h0:0<=m) (h2:m<=2) (b:List Int) (n:Int):decA m b n=decG m.toNat b n:=by
 unfold decA;rw[q2k h0 h2]
theorem q2x {m:Int} (h0:0<=m) (h2:m<=2) {b:List Int} (hb:byL b) (h6:b.length<=65536):decA m (qdh m.toNat b) b.length=(b,0):=by
 rw[qu8 h0 h2];exact q0o _ hb h6
theorem en_de {m:Int} (h0:0<=m) (h2:m<=2) {y:List Int} (hy:byL y) (n:Int):decA m y n=([],130)\/∃ o,decA m y n=(o,0)/\0<=n/\n<=65536/\(o.length:Int)=n/\byL o/\qdh m.toNat o=y:=by
 rw[qu8 h0 h2];exact q0i _ hy
theorem qxs {L:List Int} {n:Nat} (h:n=L.length):winL uB 0 n L=L:=by subst h;exact List.take_length
theorem qok {l m:List Int} (hl:byL l) (hm:byL m) (h:l.map toB=m.map toB):l=m:=by
 have key:∀ {l m:List Int},byL l->byL m->l.map toB=m.map toB->l=m:=by
  intro l
  induction l with
  | nil=>
   intro m _ _ h
   cases m with
   | nil=>rfl
   | cons y m=>simp at h
  | cons x l ih=>
   intro m hl hm h
   cases m with
   | nil=>simp at h
   | cons y m=>
    simp only[List.map_cons,List.cons.injEq] at h;have hx:=hl x (List.mem_cons_self ..);have hy:=hm y (List.mem_cons_self ..);have e:x=y:=by
     rw[<- qs2 x hx.1 hx.2,<- qs2 y hy.1 hy.2,h.1]
    rw[e,ih (λ a ha=>hl a (List.mem_cons_of_mem _ ha)) (λ a ha=>hm a (List.mem_cons_of_mem _ ha)) h.2]
 exact key hl hm h
theorem q24 {a b:List Int} (ha:byL a) (hb:byL b):byL (a++b):=λ x hx=>(List.mem_append.1 hx).elim (ha x) (hb x)
theorem qvf {a:List Int} (ha:byL a) (n:Nat):byL (a.take n):=λ x hx=>ha x (List.mem_of_mem_take hx)
theorem by_1 {c:Int} (h:0<=c/\c<256):byL [c]:=λ x hx=>by rw[List.mem_singleton.1 hx];exact h
theorem cxL:CxOK Try.prog tt G0 CL:=((((cx0.k qwh (fn:=Try.f15)).k qte (fn:=Try.f18)).k qu7 (fn:=Try.f19)).k quz (fn:=Try.f17)).k qv2 (fn:=Try.f14)
def isT:List SV->Prop:=λ rs=>rs=[.bool true]
abbrev GL (f:Nat) (fn:Func) (it:List Item) (S:PS):Prop:=Px.Good Try.prog tt G0 f fn.ntmps fn.results.toList (λ rs _=>isT rs) it S
theorem q19 {ct:Ctr} {x:DL ct.args} {rs:List SV} {blk:List (Nat × LB)} (ho:ct.out x=[.bool true]) (hr:ct.rows x=[]) (h:isT rs):QC ct x rs blk:=by
 have h:rs=[.bool true]:=h;subst h;exact QC.flat ho hr rfl
theorem no_t {p:Prop} [Decidable p] {q:Prop} (hp:¬ p) (h:decide p=true):q:=absurd (of_decide_eq_true h) hp
theorem no_f {p:Prop} [Decidable p] {q:Prop} (hp:p) (h:decide p=false):q:=absurd hp (of_decide_eq_false h)
theorem hG:Glob G0.raw:=⟨λ g x h=>by simp[G0,T.get] at h,λ g x h=>by simp[G0,T.get] at h⟩
abbrev H0:AHeap:=⟨qkw,G0.raw⟩
theorem q1s {n:Int} (h:(Lit.int .u8 n).wf=true):0<=n/\n<256:=by
 have:=Go.bounds_u8 h;exact ⟨this.1,by omega⟩
theorem by_wf {l:List Int} (h:wfD (.sl uB) l):byL l:=λ x hx=>q1s (h.2 x hx)
abbrev p2:Sh:=.arr 2 uB
set_option maxRecDepth 100000
theorem qsw (b x:List Int) (l:List (List Int)) (i:Int) (Q:QT) (R:RT):sA [] Try.f21 Q (λ it S=>R it (qaz [0,1,5,6] [9] S)) (hd Try.f21 0) ⟨[(0,.sl uB b),(1,.sl p2 l),(5,.win true uB 9 0 x.length),(6,.i i)],[(9,.row 5 uB x)]⟩ =
  (bc (decide (i<(l.length:Int))) (bc (bif true then decide (i<20) else false) (bc (bif true then decide ((0:Int)<(b.length:Int)) else false) ((0:Int)<=i/\i<(l.length:Int)/\(0:Int)<=0/\(0:Int)<(↑(2:Nat):Int)/\(b.length:Int)≠0/\(0:Int)<=i/\i<(l.length:Int)/\(0:Int)<=1/\(1:Int)<(↑(2:Nat):Int)/\(0:Int)<=(IntKind.i64.wrap (gt uB (gt p2 l i.toNat) (Int.toNat (0:Int)))).tmod (b.length:Int)/\(IntKind.i64.wrap (gt uB (gt p2 l i.toNat) (Int.toNat (0:Int)))).tmod (b.length:Int)<(x.length:Int)/\(0:Nat)+((IntKind.i64.wrap (gt uB (gt p2 l i.toNat) (Int.toNat (0:Int)))).tmod (b.length:Int)).toNat<x.length/\R (hd Try.f21 0) { env:=[(0,.sl uB b),(1,.sl p2 l),(5,.win true uB 9 0 x.length),(6,.i (IntKind.i64.wrap (i+1)))],blk:=[(9,.row 5 uB (x.set ((0:Nat)+((IntKind.i64.wrap (gt uB (gt p2 l i.toNat) (Int.toNat (0:Int)))).tmod (b.length:Int)).toNat) (gt uB (gt p2 l i.toNat) (Int.toNat (1:Int)))))] }) (Q [.win true uB 9 0 x.length] [(9,.row 5 uB x)])) (false=false/\Q [.win true uB 9 0 x.length] [(9,.row 5 uB x)])) (false=false/\false=false/\Q [.win true uB 9 0 x.length] [(9,.row 5 uB x)])):=by kernel_rfl
def byP (l:List (List Int)):Prop:=∀ p∈l,byL p
def edS (b:List Int) (l:List (List Int)) (i:Nat) (x:List Int):List Int:=x.set ((gtB (gt p2 l i) 0) % (b.length:Int)).toNat (gtB (gt p2 l i) 1)
def ediF (b:List Int) (l:List (List Int)):Nat->Nat->List Int->List Int
 | 0,_,x=>x
 | k+1,i,x=>match decide (i<l.length)&&decide (0<b.length) with
  | true=>ediF b l k (i+1) (edS b l i x)
  | false=>x
def ediV (b:List Int) (l:List (List Int)):List Int:=ediF b l 20 0 b
theorem qyh {l:List (List Int)} (h:byP l) (i j:Nat):0<=gtB (gt p2 l i) j/\gtB (gt p2 l i) j<256:=by
 by_cases hi:i<l.length
 ·have e:gt p2 l i=l[i]:=by show (l[i]?).getD _=_;rw[List.getElem?_eq_getElem hi];rfl
  rw[e];exact qi0 (h _ (List.getElem_mem hi)) j
 ·have e:gt p2 l i=p2.dflt:=by show (l[i]?).getD _=_;rw[List.getElem?_eq_none (by omega)];rfl
  rw[e];exact qi0 (qve 2) j
theorem qyp {b:List Int} {l:List (List Int)} (h:byP l):∀ (k i:Nat) (x:List Int),byL x->byL (ediF b l k i x)/\(ediF b l k i x).length=x.length
 | 0,_,x,hx=>⟨hx,rfl⟩
 | k+1,i,x,hx=>by
  rw[ediF]
  cases decide (i<l.length)&&decide (0<b.length) with
  | false=>exact ⟨hx,rfl⟩
  | true=>
   obtain ⟨i1,i2⟩:=qyp h k (i+1) (edS b l i x) (qra hx (qyh h i 1));refine ⟨i1,i2.trans ?_⟩
   show (x.set _ _).length=_
   rw[List.length_set]
def qqe (b:List Int) (l:List (List Int)):Prop:=byL b/\b.length<1000000/\byP l
def qw7:Ctr:=⟨[.sl uB,.sl p2],λ x=>qqe x.1 x.2.1,λ x=>[.win true uB 0 0 (ediV x.1 x.2.1).length],λ x=>[.row 5 uB (ediV x.1 x.2.1)]⟩
theorem qmv {b x:List Int} {l:List (List Int)} {blk:List (Nat × LB)} (h:ediV b l=x) (hb:lk blk 9=some (.row 5 uB x)):QC qw7 (b,l,()) [SV.win true uB 9 0 x.length] blk:=by
 subst h;refine ⟨λ i=>if i=0 then some 9 else none,?_,?_,λ i j c h1 h2=>?_,rfl⟩
 ·exact ⟨_,_,rfl,.inl ⟨true,9,rfl,rfl,λ h=>h⟩,rfl⟩
 ·exact ⟨.inl ⟨9,rfl,hb⟩,trivial⟩
 ·simp only at h1 h2;split at h1
  ·split at h2
   ·omega
   ·cases h2
  ·cases h1
theorem qww {b:List Int} {l:List (List Int)} (hp:qqe b l):∀ (k i:Nat) (x:List Int),i+k=20->x.length=b.length->ediF b l k i x=ediV b l ->
  GD 21 Try.f21 (QC qw7 (b,l,())) (hd Try.f21 0) ⟨[(0,.sl uB b),(1,.sl p2 l),(5,.win true uB 9 0 x.length),(6,.i (i:Nat))],[(9,.row 5 uB x)]⟩:=by
 obtain ⟨p1,p2',p3⟩:=hp;intro k
 induction k with
 | zero=>
  intro i x hk hx hv;have hv:x=ediV b l:=hv;refine qag cx0 (qsw b x l i _ _) (qa2 (λ _=>qa2 (λ h=>?_) λ _=>⟨rfl,qmv hv.symm rfl⟩) λ _=>⟨rfl,rfl,qmv hv.symm rfl⟩);have h:(i:Int)<20:=of_decide_eq_true h;omega
 | succ k ih=>
  intro i x hk hx hv;refine qag cx0 (qsw b x l i _ _) (qa2 (λ h=>qa2 (λ _=>qa2 (λ h0=>?_) λ h0=>?_) λ h2=>?_) λ h=>⟨rfl,rfl,qmv ?_ rfl⟩)
  ·have h:(i:Int)<(l.length:Int):=of_decide_eq_true h;have h0:(0:Int)<(b.length:Int):=of_decide_eq_true h0;have g0:=qyh p3 i 0;rw[ediF,decide_eq_true (show i<l.length by omega),decide_eq_true (show 0<b.length by omega)] at hv;have nx:=ih (i+1) (edS b l i x) (by omega) (by show (x.set _ _).length=_;rw[List.length_set];exact hx) hv;have ea:(IntKind.i64.wrap (gt uB (gt p2 l (i:Int).toNat) (Int.toNat 0))).tmod (b.length:Int)=gtB (gt p2 l i) 0 % (b.length:Int):=by
    show (IntKind.i64.wrap (gtB (gt p2 l (i:Int).toNat) 0)).tmod _=_
    rw[Int.toNat_natCast,IntWalk.i64_in _ (by omega),Int.tmod_eq_emod_of_nonneg g0.1]
   have r1:0<=gtB (gt p2 l i) 0 % (b.length:Int):=Int.emod_nonneg _ (by omega);have r2:gtB (gt p2 l i) 0 % (b.length:Int)<(b.length:Int):=Int.emod_lt_of_pos _ h0;rw[ea,Nat.zero_add,IntWalk.i64_in ((i:Int)+1) (by omega)];refine ⟨by omega,h,by decide,by decide,by omega,by omega,h,by decide,by decide,r1,by omega,by omega,?_⟩;have es:(edS b l i x).length=x.length:=by show (x.set _ _).length=_;rw[List.length_set]
   rw[es] at nx;rw[Int.toNat_natCast];exact nx
  ·have h0:¬ (0:Int)<(b.length:Int):=of_decide_eq_false h0;rw[ediF,decide_eq_false (show ¬ 0<b.length by omega),Bool.and_false] at hv;exact qmv hv.symm rfl
  ·have h2:¬ (i:Int)<20:=of_decide_eq_false h2;omega
  ·have h:¬ (i:Int)<(l.length:Int):=of_decide_eq_false h;rw[ediF,decide_eq_false (show ¬ i<l.length by omega),Bool.false_and] at hv;exact hv.symm
theorem q0k (b:List Int) (l:List (List Int)) (hp:qqe b l):GD 21 Try.f21 (QC qw7 (b,l,())) [.code (qai Try.f21)] (entry [.sl uB,.sl p2] (b,l,())):=by
 have h:=hp.2.1;have g:=qww hp 20 0 b rfl rfl rfl;refine qb6 cx0 (q1n b l _ _) ⟨rfl,rfl,by omega,by decide,?_⟩;rw[Nat.zero_add];exact g.only ⟨rfl,rfl,rfl,rfl,trivial⟩ ⟨rfl,trivial⟩
theorem edi_held:Held Try.prog G0 21 qw7:=Held.of cx0 (fn:=Try.f21) rfl rfl ⟨by decide,by decide⟩ λ ⟨b,l,_⟩ hp=>q0k b l hp
def ctEdiF:Ctr:=⟨[.sl uB,.sl p2],λ x=>qqe x.1 x.2.1,λ x=>[.sl uB (ediV x.1 x.2.1)],λ _=>[]⟩
theorem qu3:Held Try.prog G0 21 ctEdiF:=by
 have h:=edi_held.frz (λ x _=>by
  show inL 0 (ediV x.1 x.2.1).length [SV.win true uB 0 0 (ediV x.1 x.2.1).length]/\True
  exact ⟨⟨λ _=>by omega,trivial⟩,trivial⟩)
 refine h.iff rfl (λ x h=>h) (λ x _=>?_) (λ x _=>rfl)
 show [SV.sl uB (ediV x.1 x.2.1)]=[SV.sl uB (winL uB 0 (ediV x.1 x.2.1).length (ediV x.1 x.2.1))]
 rw[show winL uB 0 (ediV x.1 x.2.1).length (ediV x.1 x.2.1)=ediV x.1 x.2.1 from List.take_length]
open Go.IntKind(i64 u32 u8)
abbrev w2:Sh:=.arr 2 uB
def diI (w p:List Int):Int:=(i64.wrap (gt uB w (Int.toNat (0:Int)))).tmod (p.length:Int)
def diX (w:List Int):Int:=max (gt uB w (Int.toNat (1:Int))) (1:Int)
def diC (w p:List Int):Int:=bitI BinOp.xor u8 (gt uB p ((0:Nat)+(diI w p).toNat)) (diX w)
def CM:CV:=(21,.inl ctEdiF)::CL
set_option maxRecDepth 100000
theorem q1o (b:List Int) (l:List (List Int)) (w:List Int) (Q:List SV->Prop) (R:List Item->PS->Prop):sA CM Try.f6 (λ rs _=>Q rs) (λ it S=>R it (qaz [5,7,8,9,10] [5] S)) [.code (qai Try.f6)] (entry [.sl uB,.sl p2,w2] (b,l,w,())) =
  (ctSan.pre ()/\ctLim.pre (b,(200:Int),())/\ctEdiF.pre (List.take (Int.toNat (200:Int)) b,l,())/\R (hd Try.f6 0) { env:=[(5,.ptr 5 0),(7,.bool true),(8,.sl uB (List.take (Int.toNat (200:Int)) b)),(9,.sl uB (ediV (List.take (Int.toNat (200:Int)) b) l)),(10,.i (0:Int))],blk:=[(5,.var [.arr (2:Nat) uB w])] }):=by kernel_rfl
theorem qsy (x y w:List Int) (m:Int) (Q:List SV->Prop) (R:List Item->PS->Prop):sA CM Try.f6 (λ rs _=>Q rs) (λ it S=>R it (qaz [5,7,8,9,10,18,19,20] [5,72,86,93,100] S)) (hd Try.f6 0) ⟨[(5,.ptr 5 0),(7,.bool true),(8,.sl uB x),(9,.sl uB y),(10,.i m)],[(5,.var [.arr 2 uB w])]⟩ =
  (bc (decide (m<3)) (ctEncF.pre (m,x,())/\ctEncF.pre (m,y,())/\bc (decide ((cA m x).2≠0)) (true=true/\true=true/\Q [.bool false]) (bc (decide ((cA m y).2≠0)) (true=true/\Q [.bool false]) (bc (!decide (List.map toB (cA m x).1=List.map toB (cA m y).1) == decide (List.map toB x=List.map toB y)) (Q [.bool false]) (bc (decide ((↑(cA m x).1.length:Int)=(0:Int))) (R (hd Try.f6 0) { env:=[(5,.ptr 5 0),(7,.bool true),(8,.sl uB x),(9,.sl uB y),(10,.i (i64.wrap (m+1)))],blk:=[(5,.var [.arr (2:Nat) uB w])] }) ((0:Int)<=0/\(0:Int)<(↑(2:Nat):Int)/\Int.toNat (0:Int)<2/\(↑(cA m x).1.length:Int)≠0/\(0:Nat)=(List.replicate (0:Nat) uB.dflt).length/\(0:Nat)=(0:Nat)/\(0:Nat)+(cA m x).1.length<2 ^ 30/\(1:Nat)<=2 ^ 10/\(0:Int)<=diI w (cA m x).1/\diI w (cA m x).1<(↑((0:Nat)+(cA m x).1.length):Int)/\(0:Nat)+(diI w (cA m x).1).toNat<(cA m x).1.length/\(0:Int)<=1/\(1:Int)<(↑(2:Nat):Int)/\Int.toNat (1:Int)<2/\(0:Int)<=diI w (cA m x).1/\diI w (cA m x).1<(↑((0:Nat)+(cA m x).1.length):Int)/\(0:Nat)+(diI w (cA m x).1).toNat<(cA m x).1.length/\(0:Nat)=(List.replicate (0:Nat) uB.dflt).length/\(0:Nat)=(0:Nat)/\(0:Nat)+(cA m x).1.length<2 ^ 30/\(1:Nat)<=2 ^ 10/\(0:Int)<=1/\(1:Int)<(↑(2:Nat):Int)/\Int.toNat (1:Int)<2/\(0:Nat)+1<=((List.replicate (1:Nat) uB.dflt).set (0:Nat) (diX w)).length/\(0:Nat)+(cA m x).1.length=(cA m x).1.length/\(0:Nat)=(0:Nat)/\(0:Nat)+(cA m x).1.length+[diX w].length<2 ^ 30/\(1:Nat)<=2 ^ 10/\(0:Int)<=diI w (cA m x).1/\diI w (cA m x).1<=(↑(cA m x).1.length:Int)/\(0:Nat)+((0:Nat)+(cA m x).1.length)<=((cA m x).1.set ((0:Nat)+(diI w (cA m x).1).toNat) (diC w (cA m x).1)).length/\(0:Nat)+((0:Nat)+(cA m x).1.length)<=((cA m x).1.set ((0:Nat)+(diI w (cA m x).1).toNat) (diC w (cA m x).1)).length/\(0:Nat)+((0:Nat)+(cA m x).1.length)<=((cA m x).1.set ((0:Nat)+(diI w (cA m x).1).toNat) (diC w (cA m x).1)).length/\(0:Nat)+((0:Nat)+(cA m x).1.length)<=((cA m x).1.set ((0:Nat)+(diI w (cA m x).1).toNat) (diC w (cA m x).1)).length/\(0:Nat)+((0:Nat)+(cA m x).1.length)<=((cA m x).1.set ((0:Nat)+(diI w (cA m x).1).toNat) (diC w (cA m x).1)).length/\(0:Nat)+((0:Nat)+(cA m x).1.length+[diX w].length)<=((cA m x).1++[diX w]).length/\(0:Nat)+((0:Nat)+(cA m x).1.length+[diX w].length)<=((cA m x).1++[diX w]).length/\(0:Nat)+((0:Nat)+(cA m x).1.length+[diX w].length)<=((cA m x).1++[diX w]).length/\R (hd Try.f6 1) { env:=[(5,.ptr 5 0),(7,.bool true),(8,.sl uB x),(9,.sl uB y),(10,.i m),(18,.win true uB.sl (100:Nat) (0:Nat) (3:Nat)),(19,.i (0:Int))],blk:=[(5,.var [.arr (2:Nat) uB w]),(93,.row 5 uB ((List.replicate (1:Nat) uB.dflt).set (0:Nat) (diX w))),(100,.row 22 uB.sl ((((List.replicate (3:Nat) uB.sl.dflt).set (0:Nat) (winL uB 0 ((0:Nat)+(cA m x).1.length) ((cA m x).1.set ((0:Nat)+(diI w (cA m x).1).toNat) (diC w (cA m x).1)))).set (1:Nat) (List.take (diI w (cA m x).1).toNat (cA m x).1)).set (2:Nat) (winL uB 0 ((0:Nat)+(cA m x).1.length+[diX w].length) ((cA m x).1++[diX w]))))] }))))) (Q [.bool true])):=by kernel_rfl
theorem qsx (x y w:List Int) (L:List (List Int)) (m k:Int) (Q:List SV->Prop) (R:List Item->PS->Prop):sA CM Try.f6 (λ rs _=>Q rs) (λ it S=>R it (qaz [5,7,8,9,10,18,19] [5,100] S)) (hd Try.f6 1) ⟨[(5,.ptr 5 0),(7,.bool true),(8,.sl uB x),(9,.sl uB y),(10,.i m),(18,.win true (.sl uB) 100 0 L.length),(19,.i k)],[(5,.var [.arr 2 uB w]),(100,.row 22 (.sl uB) L)]⟩ =
  (bc (decide (k<3)) ((0:Int)<=k/\k<(L.length:Int)/\(0:Nat)+k.toNat<L.length/\ctDecF.pre (m,gt uB.sl L ((0:Nat)+k.toNat),(x.length:Int),())/\bc (decide ((decA m (gt uB.sl L ((0:Nat)+k.toNat)) (x.length:Int)).2=(0:Int))) (bc (bif true then decide (List.map toB (decA m (gt uB.sl L ((0:Nat)+k.toNat)) (x.length:Int)).1=List.map toB x) else false) (Q [.bool false]) (R (hd Try.f6 1) { env:=[(5,.ptr 5 0),(7,.bool true),(8,.sl uB x),(9,.sl uB y),(10,.i m),(18,.win true uB.sl (100:Nat) (0:Nat) L.length),(19,.i (i64.wrap (k+1)))],blk:=[(5,.var [.arr (2:Nat) uB w]),(100,.row 22 uB.sl L)] })) (false=false/\R (hd Try.f6 1) { env:=[(5,.ptr 5 0),(7,.bool true),(8,.sl uB x),(9,.sl uB y),(10,.i m),(18,.win true uB.sl (100:Nat) (0:Nat) L.length),(19,.i (i64.wrap (k+1)))],blk:=[(5,.var [.arr (2:Nat) uB w]),(100,.row 22 uB.sl L)] })) (R (hd Try.f6 0) { env:=[(5,.ptr 5 0),(7,.bool true),(8,.sl uB x),(9,.sl uB y),(10,.i (i64.wrap (m+1))),(18,.win true uB.sl (100:Nat) (0:Nat) L.length),(19,.i k)],blk:=[(5,.var [.arr (2:Nat) uB w]),(100,.row 22 uB.sl L)] })):=by kernel_rfl
theorem cxM:CxOK Try.prog tt G0 CM:=cxL.k qu3 (fn:=Try.f21)
abbrev dfS (x y w:List Int) (m:Int):PS:=⟨[(5,.ptr 5 0),(7,.bool true),(8,.sl uB x),(9,.sl uB y),(10,.i m)],[(5,.var [.arr 2 uB w])]⟩
theorem q2w {x y w:List Int} {L:List (List Int)} {m:Int} (hL:L.length=3) (h:∀ z∈L,z.length<2000/\((decA m z (x.length:Int)).2=0->byL (decA m z (x.length:Int)).1/\(decA m z (x.length:Int)).1≠x)) (hx:byL x) (hm:0<=m/\m<3)
  (nx:GL 6 Try.f6 (hd Try.f6 0) (dfS x y w (m+1))):∀ (n:Nat) (k:Int),3-k=n->0<=k ->
  GL 6 Try.f6 (hd Try.f6 1) ⟨[(5,.ptr 5 0),(7,.bool true),(8,.sl uB x),(9,.sl uB y),(10,.i m),(18,.win true (.sl uB) 100 0 L.length),(19,.i k)],[(5,.var [.arr 2 uB w]),(100,.row 22 (.sl uB) L)]⟩:=by
 intro n
 induction n with
 | zero=>
  intro k hk h0;refine qag cxM (qsx x y w L m k _ _) (qa2 (no_t (by omega)) λ _=>?_);rw[IntWalk.i64_in (m+1) (by omega)];exact nx.only ⟨rfl,rfl,rfl,rfl,rfl,trivial⟩ ⟨rfl,trivial⟩
 | succ n ih=>
  intro k hk h0;have nk:=ih (k+1) (by omega) (by omega);refine qag cxM (qsx x y w L m k _ _) (qa2 (λ _=>?_) (no_f (by omega)));rw[IntWalk.i64_in (k+1) (by omega),Nat.zero_add];have hkl:k.toNat<L.length:=by omega
  have eg:gt uB.sl L k.toNat=L[k.toNat]:=by show (L[k.toNat]?).getD _=_;rw[List.getElem?_eq_getElem hkl];rfl
  obtain ⟨h1,h2⟩:=h _ (List.getElem_mem hkl);rw[eg];refine ⟨h0,by omega,hkl,(show L[k.toNat].length<1099511627776 by omega),qa2 (λ q=>?_) λ _=>⟨rfl,nk⟩⟩;obtain ⟨h3,h4⟩:=h2 (of_decide_eq_true q);exact qa2 (no_t λ q2=>h4 (qok h3 hx q2)) λ _=>nk
theorem q05 {a d:Int} (ha:0<=a/\a<256) (hd:1<=d/\d<256):bitI .xor .u8 a d≠a/\0<=bitI .xor .u8 a d/\bitI .xor .u8 a d<256:=by
 obtain ⟨m,rfl⟩:=Int.eq_ofNat_of_zero_le ha.1;obtain ⟨n,rfl⟩:=Int.eq_ofNat_of_zero_le (show 0<=d by omega);have e:bitI .xor .u8 (m:Int) (n:Int)=((BitVec.ofNat 8 m ^^^ BitVec.ofNat 8 n).toNat:Int):=by
  show IntKind.u8.wrap (((BitVec.ofInt 8 (m:Int)) ^^^ (BitVec.ofInt 8 (n:Int))).toNat:Int)=_
  rw[BitVec.ofInt_natCast,BitVec.ofInt_natCast];have:=(BitVec.ofNat 8 m ^^^ BitVec.ofNat 8 n).isLt;exact IntWalk.u8_in _ (by omega)
 have hlt:=(BitVec.ofNat 8 m ^^^ BitVec.ofNat 8 n).isLt;rw[e];refine ⟨λ h=>?_,by omega,by omega⟩;have h1:BitVec.ofNat 8 m ^^^ BitVec.ofNat 8 n=BitVec.ofNat 8 m:=by
  apply BitVec.eq_of_toNat_eq;rw[BitVec.toNat_ofNat,Nat.mod_eq_of_lt (show m<2 ^ 8 by omega)];omega
 have h2:BitVec.ofNat 8 n=0#8:=by
  have:=congrArg (λ v=>BitVec.ofNat 8 m ^^^ v) h1;simp only[<- BitVec.xor_assoc,BitVec.xor_self,BitVec.zero_xor] at this;exact this
 have h3:=congrArg BitVec.toNat h2;rw[BitVec.toNat_ofNat,Nat.mod_eq_of_lt (show n<2 ^ 8 by omega)] at h3;have h3:n=0:=h3;omega
theorem qw0 {x y w:List Int} (hx:byL x) (hl:x.length<=200) (hy:byL y) (hyl:y.length=x.length) (hw:byL w):∀ (k:Nat) (m:Int),3-m=k->0<=m ->
  GL 6 Try.f6 (hd Try.f6 0) (dfS x y w m):=by
 intro k
 induction k with
 | zero=>
  intro m hk h0;refine qag cxM (qsy x y w m _ _) (qa2 (no_t (by omega)) λ _=>?_);rfl
 | succ k ih=>
  intro m hk h0;have nx:=ih (m+1) (by omega) (by omega);refine qag cxM (qsy x y w m _ _) (qa2 (λ _=>?_) (no_f (by omega)));have h2:m<=2:=by omega
  have e1:=q2x h0 h2 hx (by omega);have e2:=q2x h0 h2 hy (by omega);obtain ⟨c1,c2,_⟩:=qkl m.toNat hx;have cl:=q0t m.toNat hx;have hc2:=(qkl m.toNat hy).1;have hp:qdh m.toNat x=qdh m.toNat y↔x=y:=by
   constructor
   ·intro h;rw[h,<- hyl,e2] at e1;exact (congrArg Prod.fst e1).symm
   ·intro h;rw[h]
  rw[q23 h0 h2 (show x.length<=65536 by omega),q23 h0 h2 (show y.length<=65536 by omega),IntWalk.i64_in (m+1) (by omega)];have eb:(!decide (List.map toB (qdh m.toNat x)=List.map toB (qdh m.toNat y)) == decide (List.map toB x=List.map toB y))=false:=by
   by_cases h:x=y
   ·rw[h];simp
   ·have h1:List.map toB (qdh m.toNat x)≠List.map toB (qdh m.toNat y):=λ q=>h (hp.1 (qok c1 hc2 q))
    have h2:List.map toB x≠List.map toB y:=λ q=>h (qok hx hy q)
    rw[decide_eq_false h1,decide_eq_false h2];rfl
  generalize hP:qdh m.toNat x=p at *
  refine ⟨hx,hy,qa2 (no_t λ q=>q rfl) λ _=>qa2 (no_t λ q=>q rfl) λ _=>qa2 (λ q=>by
   have q:(!decide (List.map toB p=List.map toB (qdh m.toNat y)) == decide (List.map toB x=List.map toB y))=true:=q
   rw[eb] at q;cases q) λ _=>qa2 (λ _=>nx) λ hp0=>?_⟩
  have hp0:¬ (p.length:Int)=0:=of_decide_eq_false hp0;have g0:=qi0 hw 0;have g1:=qi0 hw 1;have ei:diI w p=gtB w 0 % (p.length:Int):=by
   show (IntKind.i64.wrap (gtB w 0)).tmod (p.length:Int)=_
   rw[IntWalk.i64_in _ (by omega),Int.tmod_eq_emod_of_nonneg g0.1]
  have r1:0<=gtB w 0 % (p.length:Int):=Int.emod_nonneg _ hp0;have r2:gtB w 0 % (p.length:Int)<(p.length:Int):=Int.emod_lt_of_pos _ (by omega);rw[<- ei] at r1 r2;have ex:1<=diX w/\diX w<256:=by
   show 1<=max (gtB w 1) 1/\max (gtB w 1) 1<256
   omega
  obtain ⟨x1,x2,x3⟩:=q05 (qi0 c1 (0+(diI w p).toNat)) ex;have eC:diC w p=bitI .xor .u8 (gtB p (0+(diI w p).toNat)) (diX w):=rfl;rw[<- eC] at x1 x2 x3;have eS:(p.set (0+(diI w p).toNat) (diC w p)).length=p.length:=List.length_set;have eA:(p++[diX w]).length=p.length+1:=List.length_append;have e3:[diX w].length=1:=rfl;have ewS:winL uB 0 (0+p.length) (p.set (0+(diI w p).toNat) (diC w p))=p.set (0+(diI w p).toNat) (diC w p):=qxs (by rw[eS,Nat.zero_add]);have ewA:winL uB 0 (0+p.length+[diX w].length) (p++[diX w])=p++[diX w]:=qxs (by rw[eA,e3];omega);have key:∀ z,byL z->z≠p->z.length<2000->z.length<2000/\((decA m z (x.length:Int)).2=0->byL (decA m z (x.length:Int)).1/\(decA m z (x.length:Int)).1≠x):=λ z hz hne hzl=>by
   refine ⟨hzl,λ h=>?_⟩;rcases en_de h0 h2 hz (x.length:Int) with q | ⟨o,q1,_,_,_,q2,q3⟩
   ·rw[q] at h;cases h
   ·rw[q1];refine ⟨q2,λ q=>hne ?_⟩;have q:o=x:=q;rw[<- q3,q,hP]
  dsimp only
  have L3:=q2w (y:=y) (w:=w) (L:=[p.set (0+(diI w p).toNat) (diC w p),List.take (diI w p).toNat p,p++[diX w]]) rfl (by
   intro z hz;simp only[List.mem_cons,List.not_mem_nil,or_false] at hz;rcases hz with rfl | rfl | rfl
   ·refine key _ (qra c1 ⟨x2,x3⟩) (λ q=>x1 ?_) (by rw[eS];omega);have:=qkb (l:=p) (k:=0+(diI w p).toNat) (j:=0+(diI w p).toNat) (x:=diC w p);rw[q,if_pos ⟨rfl,by omega⟩] at this;exact this.symm
   ·refine key _ (qvf c1 _) (λ q=>?_) (by rw[List.length_take];omega);have:=congrArg List.length q;rw[List.length_take] at this;omega
   ·refine key _ (q24 c1 (by_1 (by omega))) (λ q=>?_) (by rw[eA];omega);have:=congrArg List.length q;rw[eA] at this
    omega) hx ⟨h0,by omega⟩ nx 3 0 rfl (Int.le_refl _)
  refine ⟨by decide,by decide,by decide,hp0,rfl,rfl,by omega,by decide,r1,by omega,by omega,by decide,by decide,by decide,r1,by omega,by omega,rfl,rfl,by omega,by decide,by decide,by decide,by decide,Nat.le_refl 1,by omega,rfl,by rw[e3];omega,by decide,r1,by omega,by rw[eS];omega,by rw[eS];omega,by rw[eS];omega,by rw[eS];omega,by rw[eS];omega,by rw[eA,e3];omega,by rw[eA,e3];omega,by rw[eA,e3];omega,?_⟩;refine Good.only L3 ⟨rfl,rfl,rfl,rfl,rfl,rfl,rfl,trivial⟩ ⟨rfl,?_,trivial⟩
  show some (LB.row 22 uB.sl [winL uB 0 (0+p.length) (p.set (0+(diI w p).toNat) (diC w p)),List.take (diI w p).toNat p,winL uB 0 (0+p.length+[diX w].length) (p++[diX w])])=_
  rw[ewS,ewA]
def q2b:(x:DL [Sh.sl uB,.sl p2,w2])->Prop:=λ x=>byL x.1/\byP x.2.1/\byL x.2.2.1
def q20:Ctr:=⟨[.sl uB,.sl p2,w2],q2b,λ _=>[.bool true],λ _=>[]⟩
theorem q0m (b w:List Int) (l:List (List Int)) (hb:byL b) (hl:byP l) (hw:byL w):GL 6 Try.f6 [.code (qai Try.f6)] (entry [.sl uB,.sl p2,w2] (b,l,w,())):=by
 have ht:(List.take (Int.toNat 200) b).length<=200:=by rw[List.length_take];exact Nat.min_le_left _ _
 have hbt:=qvf hb (Int.toNat 200);obtain ⟨d1,d2⟩:=qyp (b:=List.take (Int.toNat 200) b) hl 20 0 _ hbt;exact qag cxM (q1o b l w _ _) ⟨trivial,(by decide:(0:Int)<=200),⟨hbt,(show (List.take (Int.toNat 200) b).length<1000000 by omega),hl⟩,qw0 hbt ht d1 d2 hw 3 0 rfl (Int.le_refl _)⟩
theorem q0n:Held Try.prog G0 6 q20:=Held.of cxM (fn:=Try.f6) rfl rfl ⟨by decide,by decide⟩ λ ⟨b,l,w,_⟩ hp=>by
 obtain ⟨hb,hl,hw⟩:byL b/\byP l/\byL w:=hp;exact (q0m b w l hb hl hw).post λ rs blk h=>q19 rfl rfl h
theorem q25 {n:Nat} {l:List Int} (h:wfD (.arr n uB) l):byL l:=λ x hx=>q1s (h.2 x hx)
end Go.Proofs.Ytdlnmlepljepjaa
